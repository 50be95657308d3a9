package executable_test

import (
	"fmt"
	"slices"
	"strings"
	"testing"

	"cipherplan/api"
	"cipherplan/executable"
)

func image() api.Image {
	return api.Image{Sections: []api.Section{{Name: "a", Bytes: []byte{7, 8}}, {Name: "bc"}}, Symbols: []api.Symbol{{Name: "d", Value: 1<<32 - 1}, {Name: "a", Value: 258}}}
}

const written = "\x58\x45\x01" + "\x02" + "\x01a\x00\x02\x07\x08" + "\x02bc\x00\x00" + "\x02" + "\x01d\xff\xff\xff\xff" + "\x01a\x00\x00\x01\x02"

func sections(n, size int) []api.Section {
	var l []api.Section
	for i := range n {
		l = append(l, api.Section{Name: fmt.Sprint("s", i), Bytes: make([]byte, size)})
	}
	return l
}

func symbols(n int) []api.Symbol {
	var l []api.Symbol
	for i := range n {
		l = append(l, api.Symbol{Name: fmt.Sprint("s", i)})
	}
	return l
}

func TestEncode(t *testing.T) {
	b, e := executable.Encode(image())
	if string(b) != written || e != api.OK {
		t.Errorf("%q, %v", b, e)
	}
	for name, x := range map[string]struct {
		i  api.Image
		ok bool
	}{
		"empty":           {api.Image{}, true},
		"sections":        {api.Image{Sections: sections(17, 0)}, false},
		"many sections":   {api.Image{Sections: sections(16, 0)}, true},
		"symbols":         {api.Image{Symbols: symbols(65)}, false},
		"many symbols":    {api.Image{Symbols: symbols(64)}, true},
		"section's name":  {api.Image{Sections: []api.Section{{}}}, false},
		"section twice":   {api.Image{Sections: []api.Section{{Name: "a"}, {Name: "a"}}}, false},
		"symbol's name":   {api.Image{Symbols: []api.Symbol{{Name: "a b"}}}, false},
		"symbol twice":    {api.Image{Symbols: []api.Symbol{{Name: "a"}, {Name: "b"}, {Name: "a"}}}, false},
		"value":           {api.Image{Symbols: []api.Symbol{{Name: "a", Value: -1}}}, false},
		"great value":     {api.Image{Symbols: []api.Symbol{{Name: "a", Value: 1 << 32}}}, false},
		"bytes":           {api.Image{Sections: sections(1, 4087)}, false},
		"as many bytes":   {api.Image{Sections: sections(1, 4086)}, true},
		"with long names": {api.Image{Sections: []api.Section{{Name: strings.Repeat("a", 32), Bytes: make([]byte, 4057)}}}, false},
	} {
		b, e := executable.Encode(x.i)
		if c := executable.Check(x.i); (c == api.OK) != x.ok || e != c || !x.ok && (c != api.ErrImage || b != nil) {
			t.Errorf("%s: %v, %v", name, c, e)
		}
		if !x.ok {
			continue
		}
		if i, e := executable.Decode(b); e != api.OK || !executable.Same(i, x.i) {
			t.Errorf("%s: %v, %v", name, i, e)
		}
	}
}

func TestDecode(t *testing.T) {
	if i, e := executable.Decode([]byte(written)); e != api.OK || !executable.Same(i, image()) {
		t.Errorf("%v, %v", i, e)
	}
	for n := range written {
		if i, e := executable.Decode([]byte(written[:n])); e != api.ErrForm || !executable.Same(i, api.Image{}) {
			t.Errorf("%d bytes: %v, %v", n, i, e)
		}
	}
	for name, x := range map[string]struct {
		b string
		e api.Errno
	}{
		"long":        {strings.Repeat("x", 4097), api.ErrLimit},
		"more":        {written + "x", api.ErrForm},
		"magic":       {"\x58\x45\x02\x00\x00", api.ErrForm},
		"no name":     {"\x58\x45\x01\x01\x00\x00\x00\x00", api.ErrImage},
		"twice":       {"\x58\x45\x01\x00\x02\x01a\x00\x00\x00\x00\x01a\x00\x00\x00\x00", api.ErrImage},
		"17 sections": {"\x58\x45\x01\x11" + strings.Repeat("\x01a\x00\x00", 17) + "\x00", api.ErrImage},
	} {
		if i, e := executable.Decode([]byte(x.b)); e != x.e || !executable.Same(i, api.Image{}) {
			t.Errorf("%s: %v, %v", name, i, e)
		}
	}
}

func TestSection(t *testing.T) {
	i := api.Image{Sections: []api.Section{{Name: "a", Bytes: []byte{1}}, {Name: "a", Bytes: []byte{2}}}}
	b, ok := executable.Section(i, "a")
	if !ok || !slices.Equal(b, []byte{1}) {
		t.Error(b, ok)
	}
	if b[0] = 9; i.Sections[0].Bytes[0] != 1 {
		t.Error("memory is shared")
	}
	if b, ok := executable.Section(i, "b"); ok || b != nil {
		t.Error(b, ok)
	}
}

func TestAlgorithms(t *testing.T) {
	i := api.Image{}
	for _, s := range []string{"sha256_x_y", "md5_init", "md5", "md_5", "_md5", "xmd5", "rsa_", "rsa-2048", "MD5_a"} {
		i.Symbols = append(i.Symbols, api.Symbol{Name: s})
	}
	if l := executable.Algorithms(i); !slices.Equal(l, []int{api.MD5, api.SHA256, api.RSA}) {
		t.Error(l)
	}
}

func TestSame(t *testing.T) {
	for i, change := range []func(*api.Image){
		func(i *api.Image) { i.Sections[0].Bytes = nil }, func(i *api.Image) { i.Sections[1].Name = "x" }, func(i *api.Image) { i.Symbols[0].Value = 0 },
		func(i *api.Image) { i.Symbols[1].Name = "x" }, func(i *api.Image) { i.Sections = i.Sections[:1] }, func(i *api.Image) { i.Symbols = nil },
	} {
		x := image()
		if change(&x); executable.Same(x, image()) {
			t.Errorf("%d", i)
		}
	}
	if !executable.Same(image(), image()) {
		t.Error("equal ones")
	}
}

func TestSizeOfSymbols(t *testing.T) {
	for n, want := range map[int]api.Errno{4079: api.OK, 4080: api.ErrImage} {
		i := api.Image{Sections: []api.Section{{Name: "s", Bytes: make([]byte, n)}}, Symbols: []api.Symbol{{Name: "abc"}}}
		b, e := executable.Encode(i)
		if e != want || e == api.OK && len(b) != 4096 {
			t.Errorf("%d: %d, %v", n, len(b), e)
		}
	}
}
