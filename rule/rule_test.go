package rule_test

import (
	"fmt"
	"math/rand"
	"slices"
	"strings"
	"testing"

	"cipherplan/api"
	"cipherplan/rule"
)

func TestParse(t *testing.T) {
	for text, want := range map[string]api.Policy{
		"":               {},
		"\n# forbid\n\n": {},
		"forbid rsa below 2048 for sign from 100":                             {Rules: []api.Rule{{Alg: api.RSA, Below: 2048, Purpose: 2, From: 100, To: 40001}}},
		"forbid md5\nallow md5 until 9\n":                                     {Rules: []api.Rule{{Alg: 1, To: 40001}, {Allow: true, Alg: 1, To: 9}}},
		"keep backup 0\nallow any for code until 40001\nkeep transport 40000": {Rules: []api.Rule{{Allow: true, Purpose: 4, To: 40001}}, Keeps: []api.Keep{{Purpose: 3}, {Purpose: 1, Days: 40000}}},
		"allow any below 0 from 0 until 1":                                    {Rules: []api.Rule{{Allow: true, To: 1}}},
		"forbid any below 16384 from 40000":                                   {Rules: []api.Rule{{Below: 16384, From: 40000, To: 40001}}},
	} {
		if p, n, e := rule.Parse(text); !rule.Same(p, want) || n != 0 || e != api.OK {
			t.Errorf("%q: %v, %d, %v", text, p, n, e)
		}
	}
}

func TestParseErrors(t *testing.T) {
	for text, x := range map[string]struct {
		line int
		e    api.Errno
	}{
		"forbid":                              {1, api.ErrForm},
		"forbid md6":                          {1, api.ErrForm},
		"permit md5":                          {1, api.ErrForm},
		"forbid  md5":                         {1, api.ErrForm},
		" forbid md5":                         {1, api.ErrForm},
		"forbid md5 ":                         {1, api.ErrForm},
		" ":                                   {1, api.ErrForm},
		" # x":                                {1, api.ErrForm},
		"forbid\tmd5":                         {1, api.ErrForm},
		"forbid md5\r":                        {1, api.ErrForm},
		"forbid md5 below":                    {1, api.ErrForm},
		"forbid md5 below x":                  {1, api.ErrForm},
		"forbid md5 below 05":                 {1, api.ErrForm},
		"forbid md5 from -1":                  {1, api.ErrForm},
		"forbid md5 from 1000000000000000":    {1, api.ErrForm},
		"forbid md5 for":                      {1, api.ErrForm},
		"forbid md5 for any":                  {1, api.ErrForm},
		"forbid md5 for sign below 5":         {1, api.ErrForm},
		"forbid md5 until 5 from 3":           {1, api.ErrForm},
		"forbid md5 from 3 from 4":            {1, api.ErrForm},
		"forbid md5 now":                      {1, api.ErrForm},
		"keep":                                {1, api.ErrForm},
		"keep any 5":                          {1, api.ErrForm},
		"keep sign":                           {1, api.ErrForm},
		"keep sign 5 6":                       {1, api.ErrForm},
		"forbid md5 from 9 until 9\n\nforbid": {3, api.ErrForm},
		"#\nforbid md5 from 9 until 9\nkeep sign 40001":       {2, api.ErrRule},
		"forbid md5 below 16385":                              {1, api.ErrRule},
		"forbid md5 until 40002":                              {1, api.ErrRule},
		"forbid md5 until 0":                                  {1, api.ErrRule},
		"forbid md5 from 40001":                               {1, api.ErrRule},
		"forbid md5\nkeep sign 40001":                         {2, api.ErrRule},
		"forbid md5 from 999999999999999":                     {1, api.ErrRule},
		strings.Repeat("#", 8193):                             {0, api.ErrLimit},
		strings.Repeat("\n", 201):                             {0, api.ErrLimit},
		strings.Repeat("\n", 200):                             {0, api.OK},
		strings.Repeat("#", 8192):                             {0, api.OK},
		strings.Repeat("allow any\n", 61):                     {0, api.ErrLimit},
		strings.Repeat("allow any\n", 60):                     {0, api.OK},
		strings.Repeat("keep sign 1\n", 61):                   {0, api.ErrLimit},
		strings.Repeat("keep sign 1\n", 60):                   {0, api.OK},
		strings.Repeat("allow any\n", 61) + "keep sign 40001": {62, api.ErrRule},
	} {
		if p, n, e := rule.Parse(text); n != x.line || e != x.e || e != api.OK && !rule.Same(p, api.Policy{}) {
			t.Errorf("%.40q: %v, %d, %v", text, p, n, e)
		}
	}
}

func TestCheck(t *testing.T) {
	good := api.Rule{Alg: 22, Below: 16384, Purpose: 4, From: 5, To: 6}
	for name, x := range map[string]struct {
		p  api.Policy
		ok bool
	}{
		"empty":        {api.Policy{}, true},
		"good":         {api.Policy{Rules: []api.Rule{good}, Keeps: []api.Keep{{Purpose: 4, Days: 40000}}}, true},
		"alg":          {api.Policy{Rules: []api.Rule{{Alg: 23, To: 1}}}, false},
		"negative alg": {api.Policy{Rules: []api.Rule{{Alg: -1, To: 1}}}, false},
		"below":        {api.Policy{Rules: []api.Rule{{Below: 16385, To: 1}}}, false},
		"purpose":      {api.Policy{Rules: []api.Rule{{Purpose: 5, To: 1}}}, false},
		"days":         {api.Policy{Rules: []api.Rule{{From: 1, To: 1}}}, false},
		"from":         {api.Policy{Rules: []api.Rule{{From: -1, To: 1}}}, false},
		"to":           {api.Policy{Rules: []api.Rule{{To: 40002}}}, false},
		"keep":         {api.Policy{Keeps: []api.Keep{{}}}, false},
		"purpose 5":    {api.Policy{Keeps: []api.Keep{{Purpose: 5}}}, false},
		"keep's days":  {api.Policy{Keeps: []api.Keep{{Purpose: 1, Days: 40001}}}, false},
		"60":           {api.Policy{Rules: slices.Repeat([]api.Rule{good}, 60), Keeps: slices.Repeat([]api.Keep{{Purpose: 1}}, 60)}, true},
		"61":           {api.Policy{Rules: slices.Repeat([]api.Rule{good}, 61)}, false},
		"61 keeps":     {api.Policy{Keeps: slices.Repeat([]api.Keep{{Purpose: 1}}, 61)}, false},
	} {
		s, e := rule.Print(x.p)
		if c := rule.Check(x.p); (c == api.OK) != x.ok || c != e || !x.ok && (c != api.ErrRule || s != "") {
			t.Errorf("%s: %v, %v", name, c, e)
		}
	}
}

func TestPrint(t *testing.T) {
	p := api.Policy{Rules: []api.Rule{{Alg: api.RSA, Below: 2048, Purpose: 2, From: 100, To: 40001}, {Allow: true, To: 5}}, Keeps: []api.Keep{{Purpose: 3, Days: 7}}}
	if s, e := rule.Print(p); s != "forbid rsa below 2048 for sign from 100\nallow any until 5\nkeep backup 7\n" || e != api.OK {
		t.Errorf("%q, %v", s, e)
	}
	r := rand.New(rand.NewSource(10))
	for range 1000 {
		var p api.Policy
		for range r.Intn(5) {
			from := r.Intn(3) * r.Intn(40000) / 2
			p.Rules = append(p.Rules, api.Rule{Allow: r.Intn(2) > 0, Alg: r.Intn(23), Below: r.Intn(2) * r.Intn(16385), Purpose: r.Intn(5), From: from, To: from + 1 + r.Intn(40001-from)})
			p.Keeps = append(p.Keeps, api.Keep{Purpose: 1 + r.Intn(4), Days: r.Intn(40001)})
		}
		s, e := rule.Print(p)
		q, _, f := rule.Parse(s)
		again, _ := rule.Print(q)
		if e != api.OK || f != api.OK || !rule.Same(p, q) || s != again {
			t.Fatalf("%v: %q, %v", p, s, q)
		}
	}
}

func TestPurposeAndSame(t *testing.T) {
	if fmt.Sprint(rule.Purpose("transport"), rule.Purpose("sign"), rule.Purpose("backup"), rule.Purpose("code"), rule.Purpose(""), rule.Purpose("Code")) != "1 2 3 4 0 0" {
		t.Error("purpose")
	}
	p := api.Policy{Rules: []api.Rule{{Alg: 1}}, Keeps: []api.Keep{{Days: 1}}}
	if !rule.Same(p, p) || rule.Same(p, api.Policy{Rules: p.Rules}) || rule.Same(p, api.Policy{Keeps: p.Keeps}) {
		t.Error("same")
	}
}
