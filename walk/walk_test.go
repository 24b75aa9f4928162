package walk_test

import (
	"slices"
	"testing"

	"lienbook/walk"
)

type node struct {
	name string
	kids []*node
}

func (n *node) all() []*node { return slices.Clone(n.kids) }

func tree(name string, kids ...*node) *node { return &node{name, kids} }

func TestEachAheadOfItsKidsInOrder(t *testing.T) {
	whole := tree("a", tree("b", tree("c"), tree("d", tree("e"))), tree("f"), tree("g", tree("h"), tree("i")))
	var got string
	for n := range walk.All(whole, (*node).all) {
		got += n.name
	}
	if got != "abcdefghi" {
		t.Errorf("walk: %s", got)
	}
	got = ""
	for n := range walk.All(whole, (*node).all) {
		if got += n.name; n.name == "e" {
			break
		}
	}
	if got != "abcde" {
		t.Errorf("walk up to e: %s", got)
	}
}

func TestKidsAreAskedForBehind(t *testing.T) {
	var got string
	for n := range walk.All(tree("a", tree("b")), (*node).all) {
		if got += n.name; n.name == "a" {
			n.kids = []*node{tree("c"), tree("d")}
		}
	}
	if got != "acd" {
		t.Errorf("walk: %s", got)
	}
}

func TestDeepTrees(t *testing.T) {
	whole := tree("")
	for range 1_000_000 {
		whole = tree("", whole, tree(""))
	}
	n := 0
	for range walk.All(whole, (*node).all) {
		n++
	}
	if n != 2_000_001 {
		t.Errorf("walk: %d things", n)
	}
}
