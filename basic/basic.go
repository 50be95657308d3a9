// Package basic contains what several layers ask of names, numbers and lists.
package basic

import (
	"cmp"
	"strconv"

	"cipherplan/api"
)

// Name reports whether a text is a name: printable, without blanks, and not too long.
func Name(s string) bool {
	if len(s) < 1 || len(s) > api.MaxName {
		return false
	}
	for i := range len(s) {
		if s[i] < 33 || s[i] > 126 {
			return false
		}
	}
	return true
}

// Word reports whether a text is a word: letters, digits, and - _ . only, and not too long.
func Word(s string) bool {
	if len(s) < 1 || len(s) > api.MaxName {
		return false
	}
	for i := range len(s) {
		if !Letter(s[i]) && s[i] != '-' && s[i] != '_' && s[i] != '.' {
			return false
		}
	}
	return true
}

// Letter reports whether a byte is a letter or a digit.
func Letter(b byte) bool {
	return b >= 'a' && b <= 'z' || b >= 'A' && b <= 'Z' || b >= '0' && b <= '9'
}

const maxDigits = 15

// Number returns the number that is written as a decimal of at most 15 digits without leading zeros.
func Number(s string) (int, bool) {
	n, err := strconv.Atoi(s)
	if err != nil || len(s) > maxDigits || n < 0 || strconv.Itoa(n) != s {
		return 0, false
	}
	return n, true
}

// Sum returns FNV-1a with 32 bits.
func Sum[T string | []byte](b T) int {
	sum := uint32(2166136261)
	for i := range len(b) {
		sum = (sum ^ uint32(b[i])) * 16777619
	}
	return int(sum)
}

// Ascends reports whether a list is in strictly ascending order.
func Ascends[T cmp.Ordered](l []T) bool {
	for i := 1; i < len(l); i++ {
		if l[i-1] >= l[i] {
			return false
		}
	}
	return true
}

// Indices reports whether a list is indices below n, each once, ascending.
func Indices(l []int, n int) bool {
	return Ascends(l) && (len(l) == 0 || l[0] >= 0 && l[len(l)-1] < n)
}

// In reports whether a number is from low to high.
func In(n, low, high int) bool { return n >= low && n <= high }
