package tree

import (
	"fmt"
	"testing"
)

type node struct {
	name   string
	within []node
}

func inner(n node) []node { return n.within }

func TestWalk(t *testing.T) {
	l := []node{{"a", []node{{"b", nil}, {"c", []node{{"d", nil}}}}}, {"e", nil}}
	got := ""
	ok := Walk(l, l, inner, func(x, y node, depth int) bool {
		got += fmt.Sprint(x.name, y.name, depth, " ")
		return true
	})
	if want := "aa1 bb2 cc2 dd3 ee1 "; !ok || got != want {
		t.Errorf("%v, %q", ok, got)
	}
	all := func(x, y node, depth int) bool { return true }
	if Walk(l, l[:1], inner, all) || Walk(l, []node{{"a", nil}, {"e", nil}}, inner, all) || !Walk(nil, nil, inner, all) {
		t.Error("form")
	}
	if Walk(l, l, inner, func(x, y node, depth int) bool { return x.name != "d" }) {
		t.Error("visit")
	}
	l[1].within = l
	if Walk(l, l, inner, all) {
		t.Error("a tree within itself has an end")
	}
}

func TestLargeTrees(t *testing.T) {
	all := func(x, y node, depth int) bool { return true }
	flat := make([]node, 1100000)
	deep := []node{{}}
	for range 100000 {
		deep = []node{{"", deep}}
	}
	if !Walk(flat, flat, inner, all) || !Walk(deep, deep, inner, all) {
		t.Error("large, but finite")
	}
	wide := []node{{}, {}} // with two ways at each level there are too many nodes
	for range 30 {
		wide = []node{{"", wide}, {"", wide}}
	}
	if Walk(wide, wide, inner, all) {
		t.Error("too many nodes")
	}
}
