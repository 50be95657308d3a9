// Package der is layer 1: elements of DER.
package der

import (
	"bytes"
	"slices"

	"cipherplan/api"
	"cipherplan/tree"
)

// Tags of the elements that have functions of their own.
const (
	tagBool = 1
	tagInt  = 2
	tagText = 12
	tagList = 48
)

const (
	nestedBit = 32  // of a tag: the element is nested
	lowBits   = 31  // of a tag: not all of them may be set
	longBit   = 128 // of a length: it has more than one byte
)

func within(v api.Value) []api.Value { return v.Elements }

// formed looks at an element itself, not at its elements.
func formed(v api.Value) bool {
	if v.Tag < 1 || v.Tag > 255 || v.Tag&lowBits == lowBits || v.Nested != (v.Tag&nestedBit != 0) {
		return false
	}
	if v.Nested {
		return len(v.Bytes) == 0
	}
	return len(v.Elements) == 0
}

// measure returns the greatest depth of elements, and whether all are well formed. What is not finite is deeper than every limit.
func measure(l []api.Value) (int, bool) {
	depth, ok := 0, true
	finite := tree.Walk(l, l, within, func(v, _ api.Value, at int) bool {
		depth, ok = max(depth, at), formed(v)
		return ok
	})
	if ok && !finite {
		depth = tree.Deepest + 1
	}
	return depth, ok
}

// Encode returns the bytes of an element.
func Encode(v api.Value) ([]byte, api.Errno) {
	depth, ok := measure([]api.Value{v})
	if !ok {
		return nil, api.ErrForm
	}
	if depth > api.MaxDepth || size(v) > api.MaxBytes {
		return nil, api.ErrLimit
	}
	return appendElements(nil, v), api.OK
}

// content returns the number of bytes of the contents.
func content(v api.Value) int {
	n := len(v.Bytes)
	for _, x := range v.Elements {
		n += size(x)
	}
	return n
}

func size(v api.Value) int {
	n := content(v)
	return 1 + len(length(n)) + n
}

// length returns the bytes of a length.
func length(n int) []byte {
	if n < longBit {
		return []byte{byte(n)}
	}
	var b []byte
	for ; n > 0; n >>= 8 {
		b = append(b, byte(n))
	}
	b = append(b, byte(longBit+len(b)))
	slices.Reverse(b)
	return b
}

// appendElements puts the bytes of elements behind others.
func appendElements(b []byte, l ...api.Value) []byte {
	for _, v := range l {
		b = append(b, byte(v.Tag))
		b = append(b, length(content(v))...)
		b = append(b, v.Bytes...)
		b = appendElements(b, v.Elements...)
	}
	return b
}

// Decode returns the element that bytes are.
func Decode(b []byte) (api.Value, api.Errno) {
	l, e := read(b, true)
	if e != api.OK {
		return api.Value{}, e
	}
	return l[0], api.OK
}

// All returns the elements that bytes are, one behind the other.
func All(b []byte) ([]api.Value, api.Errno) { return read(b, false) }

func read(b []byte, one bool) ([]api.Value, api.Errno) {
	if len(b) > api.MaxBytes {
		return nil, api.ErrLimit
	}
	l, ok := elements(b)
	if !ok || one && len(l) != 1 {
		return nil, api.ErrForm
	}
	if depth, _ := measure(l); depth > api.MaxDepth {
		return nil, api.ErrLimit
	}
	return l, api.OK
}

// elements cannot go deeper than half of MaxBytes, as each level has a tag and a length.
func elements(b []byte) ([]api.Value, bool) {
	var l []api.Value
	for len(b) > 0 {
		v := api.Value{Tag: int(b[0]), Nested: int(b[0])&nestedBit != 0}
		body, rest, ok := split(b[1:])
		if !ok || !formed(v) {
			return nil, false
		}
		if !v.Nested {
			v.Bytes = slices.Clone(body)
		} else if v.Elements, ok = elements(body); !ok {
			return nil, false
		}
		l, b = append(l, v), rest
	}
	return l, true
}

// split cuts off a length and as many bytes. A length is right only in the bytes in which it would be written.
func split(b []byte) ([]byte, []byte, bool) {
	if len(b) == 0 {
		return nil, nil, false
	}
	n, k := int(b[0]), 1
	if n >= longBit {
		k += n - longBit
		if k > len(b) {
			return nil, nil, false
		}
		n = 0
		for _, x := range b[1:k] {
			n = min(n<<8|int(x), api.MaxBytes+1) // more can't be there, and must not overflow
		}
	}
	if n > len(b)-k || !bytes.Equal(length(n), b[:k]) {
		return nil, nil, false
	}
	return b[k : k+n], b[k+n:], true
}

// Int returns the element of a number.
func Int(n int) api.Value {
	b := []byte{byte(n)}
	for n > 127 || n < -128 {
		n >>= 8
		b = append(b, byte(n))
	}
	slices.Reverse(b)
	return api.Value{Tag: tagInt, Bytes: b}
}

func plain(v api.Value, tag int) bool { return v.Tag == tag && formed(v) }

// AsInt returns the number of an element.
func AsInt(v api.Value) (int, api.Errno) {
	if !plain(v, tagInt) || len(v.Bytes) < 1 || len(v.Bytes) > 8 {
		return 0, api.ErrForm
	}
	n := int(int8(v.Bytes[0]))
	for _, x := range v.Bytes[1:] {
		n = n<<8 | int(x)
	}
	if !bytes.Equal(Int(n).Bytes, v.Bytes) {
		return 0, api.ErrForm
	}
	return n, api.OK
}

// Text returns the element of a text.
func Text(s string) api.Value { return api.Value{Tag: tagText, Bytes: []byte(s)} }

// AsText returns the text of an element.
func AsText(v api.Value) (string, api.Errno) {
	if !plain(v, tagText) {
		return "", api.ErrForm
	}
	for _, x := range v.Bytes {
		if x < 32 || x > 126 {
			return "", api.ErrForm
		}
	}
	return string(v.Bytes), api.OK
}

// Bool returns the element of a truth value.
func Bool(b bool) api.Value {
	v := api.Value{Tag: tagBool, Bytes: []byte{0}}
	if b {
		v.Bytes[0] = 255
	}
	return v
}

// AsBool returns the truth value of an element.
func AsBool(v api.Value) (bool, api.Errno) {
	if !plain(v, tagBool) || len(v.Bytes) != 1 || v.Bytes[0] != 0 && v.Bytes[0] != 255 {
		return false, api.ErrForm
	}
	return v.Bytes[0] == 255, api.OK
}

// List returns the element of a list.
func List(l []api.Value) api.Value {
	if !tree.Walk(l, l, within, func(_, _ api.Value, _ int) bool { return true }) {
		return api.Value{} // a list within itself can't be copied
	}
	return api.Value{Tag: tagList, Nested: true, Elements: copied(l)}
}

func copied(l []api.Value) []api.Value {
	var to []api.Value
	for _, v := range l {
		v.Bytes, v.Elements = slices.Clone(v.Bytes), copied(v.Elements)
		to = append(to, v)
	}
	return to
}

// AsList returns the list of an element.
func AsList(v api.Value) ([]api.Value, api.Errno) {
	depth, ok := measure([]api.Value{v})
	if !ok || v.Tag != tagList || depth > tree.Deepest {
		return nil, api.ErrForm
	}
	return copied(v.Elements), api.OK
}

// Same reports whether elements are equal.
func Same(a, b api.Value) bool {
	return tree.Walk([]api.Value{a}, []api.Value{b}, within, func(x, y api.Value, _ int) bool {
		return x.Tag == y.Tag && x.Nested == y.Nested && bytes.Equal(x.Bytes, y.Bytes)
	})
}
