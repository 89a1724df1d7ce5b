package scope_test

import (
	"slices"
	"sort"
	"testing"

	"azimuth/api"
	"azimuth/scope"
	"azimuth/tree"
)

// The chapter's words, said anew, part by part, so that the package isn't held against itself.

// binding is a kid of a term, and the name that the term binds in it.
type binding struct {
	kid  int
	name string
}

func bindings(n api.Node) []binding {
	switch n.Kind {
	case api.Fun:
		return []binding{{n.Kids[0], n.Name}}
	case api.Let:
		return []binding{{n.Kids[1], n.Name}}
	case api.LetRec:
		return []binding{{n.Kids[0], n.Name}, {n.Kids[1], n.Name}}
	case api.Case:
		var l []binding
		for arm := range len(n.Names) / 2 {
			l = append(l, binding{n.Kids[1+arm], n.Names[1+2*arm]})
		}
		return l
	}
	return nil
}

// binders: for each Var that is bound the term that binds it.
func binders(x api.Tree) map[int]int {
	nearest := map[int]int{}
	for i, n := range x.Nodes {
		for _, b := range bindings(n) {
			for inner := range tree.Walk(x, b.kid) {
				v := x.Nodes[inner]
				// Terms around one another have rising numbers: the first one is the nearest.
				if _, there := nearest[inner]; v.Kind == api.Var && v.Name == b.name && !there {
					nearest[inner] = i
				}
			}
		}
	}
	return nearest
}

func freeAnew(x api.Tree) []string {
	nearest := binders(x)
	var l []string
	for i, n := range x.Nodes {
		if _, there := nearest[i]; n.Kind == api.Var && !there && !slices.Contains(l, n.Name) {
			l = append(l, n.Name)
		}
	}
	sort.Strings(l)
	return l
}

// firstOf: the number of the first alias of a name; -1: there is none.
func firstOf(x api.Tree, name string) int {
	return slices.IndexFunc(x.Aliases, func(a api.Alias) bool { return a.Name == name })
}

// chain: the aliases that are met by looking through, from a type on, up to the first that is met again, and the type behind the last.
func chain(x api.Tree, i int) ([]int, int) {
	var l []int
	for x.Types[i].Kind == api.TAlias {
		a := firstOf(x, x.Types[i].Name)
		if a < 0 || slices.Contains(l, a) {
			return append(l, a), i
		}
		l = append(l, a)
		i = x.Aliases[a].Type
	}
	return l, i
}

func throughAnew(x api.Tree, i int) (int, api.Errno) {
	l, end := chain(x, i)
	switch {
	case x.Types[end].Kind != api.TAlias:
		return end, api.OK
	case l[len(l)-1] < 0:
		return 0, api.ErrName
	}
	return 0, api.ErrLoop
}

// allWrong: all that is wrong with a tree that may be.
func allWrong(x api.Tree) []api.Diag {
	var l []api.Diag
	for i, a := range x.Aliases {
		if firstOf(x, a.Name) < i {
			l = append(l, api.Diag{Error: api.ErrTwice, Pos: a.Pos, Name: a.Name})
		}
		if back, _ := chain(x, a.Type); slices.Contains(back, i) {
			l = append(l, api.Diag{Error: api.ErrLoop, Pos: a.Pos, Name: a.Name})
		}
	}
	for _, n := range x.Types {
		if n.Kind == api.TAlias && firstOf(x, n.Name) < 0 {
			l = append(l, api.Diag{Error: api.ErrName, Pos: n.Pos, Name: n.Name})
		}
	}
	for _, n := range x.Nodes {
		if n.Kind == api.LetRec && x.Nodes[n.Kids[0]].Kind != api.Fun {
			l = append(l, api.Diag{Error: api.ErrArg, Pos: x.Nodes[n.Kids[0]].Pos, Name: n.Name})
		}
	}
	return l
}

func ahead(a, b api.Diag) bool {
	if a.Pos != b.Pos {
		return a.Pos < b.Pos
	}
	if a.Error != b.Error {
		return a.Error < b.Error
	}
	return a.Name < b.Name
}

func checkAnew(x api.Tree) api.Diag {
	l := allWrong(x)
	if len(l) == 0 {
		return api.Diag{}
	}
	sort.SliceStable(l, func(i, j int) bool { return ahead(l[i], l[j]) })
	return l[0]
}

// asAnew looks whether all that is told of a tree that may be is as the words say anew.
func asAnew(t *testing.T, x api.Tree) {
	t.Helper()
	if d, want := scope.Check(x), checkAnew(x); d != want {
		t.Errorf("%v: Check: %d at %d, %q; it is %d at %d, %q", x, d.Error, d.Pos, d.Name, want.Error, want.Pos, want.Name)
	}
	if l, want := scope.Free(x), freeAnew(x); !slices.Equal(l, want) {
		t.Errorf("%v: Free: %q; it is %q", x, l, want)
	}
	nearest := binders(x)
	for i := range x.Nodes {
		want, there := nearest[i]
		if k, ok := scope.Binder(x, i); k != want || ok != there {
			t.Errorf("%v: Binder of %d: %d, %v; it is %d, %v", x, i, k, ok, want, there)
		}
	}
	for i := range x.Types {
		want, e := throughAnew(x, i)
		if k, f := scope.Through(x, i); k != want || f != e {
			t.Errorf("%v: Through of %d: %d, %d; it is %d, %d", x, i, k, f, want, e)
		}
	}
	for _, i := range outside(len(x.Nodes)) {
		if k, ok := scope.Binder(x, i); k != 0 || ok {
			t.Errorf("%v: Binder of %d: %d, %v", x, i, k, ok)
		}
	}
	for _, i := range outside(len(x.Types)) {
		if k, e := scope.Through(x, i); k != 0 || e != api.ErrNone {
			t.Errorf("%v: Through of %d: %d, %d", x, i, k, e)
		}
	}
}
