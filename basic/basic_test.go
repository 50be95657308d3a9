package basic

import (
	"strings"
	"testing"
)

func TestNames(t *testing.T) {
	long := strings.Repeat("a", 32)
	for s, want := range map[string][2]bool{"": {}, "a": {true, true}, "aZ09-_.": {true, true}, "a:b": {true, false}, "a b": {}, "!~": {true, false}, "a\x7f": {}, "é": {}, long: {true, true}, long + "a": {}} {
		if Name(s) != want[0] || Word(s) != want[1] {
			t.Errorf("%q: %v, %v", s, Name(s), Word(s))
		}
	}
}

func TestNumber(t *testing.T) {
	for s, want := range map[string]int{"0": 0, "7": 7, "999999999999999": 999999999999999, "": -1, "00": -1, "01": -1, "-1": -1, "+1": -1, "1 ": -1, "1000000000000000": -1, "1e3": -1} {
		n, ok := Number(s)
		if ok != (want >= 0) || ok && n != want || !ok && n != 0 {
			t.Errorf("%q: %d, %v", s, n, ok)
		}
	}
}

func TestSum(t *testing.T) {
	if Sum("") != 2166136261 || Sum([]byte{97}) != 3826002220 || Sum("a") != 3826002220 {
		t.Error(Sum(""), Sum("a"))
	}
}

func TestIndices(t *testing.T) {
	if !Indices(nil, 0) || !Indices([]int{0, 2}, 3) || Indices([]int{0, 3}, 3) || Indices([]int{-1, 0}, 3) || Indices([]int{1, 0}, 3) || Indices([]int{0}, 0) {
		t.Error("indices")
	}
}

func TestAscends(t *testing.T) {
	if !Ascends([]int{}) || !Ascends([]string{"a", "b"}) || Ascends([]int{1, 1}) || Ascends([]int{2, 1}) || !In(1, 1, 1) || In(0, 1, 2) || In(3, 1, 2) {
		t.Error("order")
	}
}
