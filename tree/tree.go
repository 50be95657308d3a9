// Package tree walks through trees of any depth, side by side.
package tree

// How many nodes are visited, and how deep. Slices can contain themselves, and such a tree would have no end.
const (
	Most    = 1 << 24
	Deepest = 1 << 20
)

type level[T any] struct{ a, b []T }

// Walk visits the nodes of two lists of trees in pairs, parents before what is within them. It reports whether it came to the end: whether both have the same form, visit was never false, and there were at most Most nodes, none below Deepest.
func Walk[T any](a, b []T, within func(T) []T, visit func(x, y T, depth int) bool) bool {
	if len(a) != len(b) {
		return false
	}
	stack := []level[T]{{a, b}}
	for seen := 0; len(stack) > 0; {
		top := &stack[len(stack)-1]
		if len(top.a) == 0 {
			stack = stack[:len(stack)-1]
			continue
		}
		x, y := top.a[0], top.b[0]
		top.a, top.b = top.a[1:], top.b[1:]
		seen++
		if seen > Most || !visit(x, y, len(stack)) {
			return false
		}
		c, d := within(x), within(y)
		if len(c) != len(d) {
			return false
		}
		if len(c) > 0 && len(stack) == Deepest {
			return false
		}
		if len(c) > 0 {
			stack = append(stack, level[T]{c, d})
		}
	}
	return true
}
