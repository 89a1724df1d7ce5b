package scope_test

import (
	"reflect"
	"slices"
	"testing"

	"azimuth/api"
	"azimuth/scope"
)

// spared: a list with spare room behind it, in which something stands.
func spared[T any](l []T, spare T) []T {
	return append(append(make([]T, 0, len(l)+2), l...), spare, spare)[:len(l)]
}

// roomy: a tree whose lists all have spare room.
func roomy(x api.Tree) api.Tree {
	for i, n := range x.Nodes {
		x.Nodes[i].Kids, x.Nodes[i].Types, x.Nodes[i].Names = spared(n.Kids, -7), spared(n.Types, -7), spared(n.Names, "spare")
	}
	for i, n := range x.Types {
		x.Types[i].Kids, x.Types[i].Names = spared(n.Kids, -7), spared(n.Names, "spare")
	}
	return api.Tree{
		Nodes:   spared(x.Nodes, api.Node{Name: "spare"}),
		Types:   spared(x.Types, api.TypeNode{Name: "spare"}),
		Aliases: spared(x.Aliases, api.Alias{Name: "Spare"}),
	}
}

func all[T any](l []T) []T { return slices.Clone(l[:cap(l)]) }

// shown: a copy of a tree with all of its spare room to be seen.
func shown(x api.Tree) api.Tree {
	y := api.Tree{Nodes: all(x.Nodes), Types: all(x.Types), Aliases: all(x.Aliases)}
	for i, n := range y.Nodes {
		y.Nodes[i].Kids, y.Nodes[i].Types, y.Nodes[i].Names = all(n.Kids), all(n.Types), all(n.Names)
	}
	for i, n := range y.Types {
		y.Types[i].Kids, y.Types[i].Names = all(n.Kids), all(n.Names)
	}
	return y
}

// texts of trees: with nothing wrong, with each of what can be, with free names and without.
func texts() []string {
	return []string{
		forest,
		"z y x",
		"fun x -> x",
		"type A = int; type A = B; (1 : A)",
		"type A = B; type B = C; type C = B; (a : A => D)",
		"let rec f = case x of | #b x -> x | #a y -> x | else -> y end in f z",
	}
}

// P7.2: what is handed in isn't changed, its spare room neither.
func TestUnchanged(t *testing.T) {
	for _, text := range texts() {
		for _, wrong := range []bool{false, true} {
			x := roomy(read(t, text))
			if wrong {
				x.Nodes[0].Kids = spared([]int{99}, -7)
			}
			was := shown(x)
			look := func(what string) {
				t.Helper()
				if !reflect.DeepEqual(shown(x), was) {
					t.Errorf("%q: %s changes what is handed in", text, what)
				}
			}
			look("nothing")
			scope.Check(x)
			look("Check")
			scope.Free(x)
			look("Free")
			for i := -1; i <= len(x.Nodes); i++ {
				scope.Binder(x, i)
			}
			look("Binder")
			for i := -1; i <= len(x.Types); i++ {
				scope.Through(x, i)
			}
			look("Through")
		}
	}
}

// told is all that is told of a tree.
type told struct {
	diag    api.Diag
	free    []string
	binders []int
	through []int
}

func tell(x api.Tree) told {
	w := told{diag: scope.Check(x), free: scope.Free(x)}
	for i := range x.Nodes {
		k, ok := scope.Binder(x, i)
		if !ok {
			k = -1
		}
		w.binders = append(w.binders, k)
	}
	for i := range x.Types {
		k, e := scope.Through(x, i)
		w.through = append(w.through, k, int(e))
	}
	return w
}

// P7.2: answers are new memory: what becomes of one is nothing to the others, nor to the tree.
func TestNewMemory(t *testing.T) {
	for _, text := range texts() {
		x := read(t, text)
		was := shown(x)
		want := tell(x)
		for range 2 {
			l := scope.Free(x)
			for i := range l[:cap(l)] {
				l[:cap(l)][i] = "changed"
			}
			if w := tell(x); !reflect.DeepEqual(w, want) || !reflect.DeepEqual(shown(x), was) {
				t.Errorf("%q: %v, and %v", text, w, want)
			}
		}
	}
}

// P7.2: a tree isn't kept: what becomes of it is nothing to answers, and each call tells of it as it is then.
func TestNotKept(t *testing.T) {
	for _, text := range texts() {
		x, y := read(t, text), read(t, text)
		was, free := tell(x), slices.Clone(scope.Free(x))
		for i := range x.Nodes {
			clear(x.Nodes[i].Names)
			clear(x.Nodes[i].Kids)
			x.Nodes[i].Name = "changed"
		}
		for i := range x.Types {
			x.Types[i].Name, x.Types[i].Kind = "Changed", api.TInt
		}
		for i := range x.Aliases {
			x.Aliases[i] = api.Alias{Name: "Changed"}
		}
		if !slices.Equal(was.free, free) {
			t.Errorf("%q: what was told is %q now; it was %q", text, was.free, free)
		}
		if w := tell(y); !reflect.DeepEqual(w, was) {
			t.Errorf("%q: %v, and %v", text, w, was)
		}
	}
}

// P7.2: one tree that is changed from call to call.
func TestAsItIs(t *testing.T) {
	x := read(t, "type A = B; type B = int; fun x -> (x y : A)")
	var v int
	for i, n := range x.Nodes {
		if n.Kind == api.Var && n.Name == "x" {
			v = i
		}
	}
	whole := len(x.Nodes) - 1
	for _, step := range []struct {
		do      func()
		e       api.Errno
		free    []string
		bound   bool
		through api.Errno
	}{
		{func() {}, api.OK, []string{"y"}, true, api.OK},
		{func() { x.Nodes[whole].Name = "y" }, api.OK, []string{"x"}, false, api.OK},
		{func() { x.Nodes[whole].Name = "z" }, api.OK, []string{"x", "y"}, false, api.OK},
		{func() { x.Nodes[v].Name = "z" }, api.OK, []string{"y"}, true, api.OK},
		{func() { x.Nodes[whole].Name = "in" }, api.ErrForm, nil, false, api.ErrForm},
		{func() { x.Nodes[whole].Name = "w" }, api.OK, []string{"y", "z"}, false, api.OK},
		{func() { x.Aliases[1].Name = "A" }, api.ErrName, []string{"y", "z"}, false, api.ErrName},
		{func() { x.Types[x.Aliases[0].Type].Name = "A" }, api.ErrLoop, []string{"y", "z"}, false, api.ErrLoop},
		{func() { x.Aliases[0].Name = "C" }, api.OK, []string{"y", "z"}, false, api.OK},
		{func() { x.Aliases[1].Name = "C" }, api.ErrName, []string{"y", "z"}, false, api.ErrName},
	} {
		step.do()
		d, l := scope.Check(x), scope.Free(x)
		_, ok := scope.Binder(x, v)
		_, e := scope.Through(x, len(x.Types)-1)
		if d.Error != step.e || !slices.Equal(l, step.free) || ok != step.bound || e != step.through {
			t.Errorf("Check %d, Free %q, Binder %v, Through %d; they are %v", d.Error, l, ok, e, step)
		}
	}
}
