package graph_test

import (
	"math"
	"slices"
	"testing"

	"dovecote/api"
	"dovecote/graph"
)

// scalars is the head of an object of so many fields, none of which is a pointer.
func scalars(n int) api.Head { return api.Head{Tag: n + 1, Len: n} }

// pointers is the head of an object all fields of which are pointers.
func pointers(n int) api.Head { return api.Head{Tag: 200 - n, Len: n, Map: 1<<n - 1} }

// filler is the head of a filler of so many words.
func filler(n int) api.Head { return api.Head{Tag: 255, Len: n - 1} }

// node is one with a head and fields.
func node(h api.Head, fields ...uint64) api.Node { return api.Node{H: h, F: fields} }

// ring is a node that leads to some others, by pointers alone.
func ring(to ...uint64) api.Node { return node(pointers(len(to)), to...) }

// twice is a graph once more, which shares nothing with it.
func twice(g api.Graph) api.Graph {
	var out api.Graph
	for _, n := range g.Nodes {
		out.Nodes = append(out.Nodes, api.Node{H: n.H, F: slices.Clone(n.F)})
	}
	for _, row := range g.Stacks {
		out.Stacks = append(out.Stacks, slices.Clone(row))
	}
	return out
}

// alike is the measure of Same: told number by number, not by package graph. So are all measures here.
func alike(g, k api.Graph) bool {
	if len(g.Nodes) != len(k.Nodes) || len(g.Stacks) != len(k.Stacks) {
		return false
	}
	for i, n := range g.Nodes {
		if n.H != k.Nodes[i].H || !slices.Equal(n.F, k.Nodes[i].F) {
			return false
		}
	}
	for i, row := range g.Stacks {
		if !slices.Equal(row, k.Stacks[i]) {
			return false
		}
	}
	return true
}

// object: is a head an object's?
func object(h api.Head) bool {
	return h.Tag >= 1 && h.Tag <= 200 && h.Len >= 0 && h.Len <= 16 && h.Map>>h.Len == 0
}

// pointer: is a field of a head one?
func pointer(h api.Head, i int) bool { return h.Map>>i%2 == 1 }

// right is the measure of Right.
func right(g api.Graph) bool {
	n := len(g.Nodes)
	for _, k := range g.Nodes {
		if !object(k.H) || len(k.F) != k.H.Len {
			return false
		}
		for i, v := range k.F {
			if pointer(k.H, i) && (v > math.MaxInt || int(v) > n) {
				return false
			}
		}
	}
	for _, row := range g.Stacks {
		for _, h := range row {
			if h < 0 || h > n {
				return false
			}
		}
	}
	return true
}

// parts are those of a word's number.
func parts(w uint64) (int, int) {
	part := func(n uint64) int {
		if n >= 32768 {
			return int(n) - 65536
		}
		return int(n)
	}
	return part(w / 65536 % 65536), part(w % 65536)
}

// packed is the word of two parts.
func packed(re, im int) uint64 {
	round := func(n int) uint64 { return uint64((n%65536 + 65536) % 65536) }
	return round(re)*65536 + round(im)
}

// sum is what OAdd makes of a field.
func sum(a, b uint64) uint64 {
	x, y := parts(a)
	u, v := parts(b)
	return packed(x+u, y+v)
}

// product is what OMul makes of a field.
func product(a, b uint64) uint64 {
	x, y := parts(a)
	u, v := parts(b)
	return packed(x*u-y*v, x*v+y*u)
}

// held is a handle, or why there is none.
func held(row []int, h int) (int, api.Errno) {
	if h < 0 || h >= len(row) {
		return 0, api.ErrHandle
	}
	return row[h], api.OK
}

// refusal is what P15.2 says first of what is done in a right graph, by a thread that is there.
func refusal(g api.Graph, th int, o api.Op) api.Errno {
	row := g.Stacks[th]
	full := api.OK
	if len(row) >= 16 {
		full = api.ErrFull
	}
	h, noH := held(row, o.H)
	_, noK := held(row, o.K)
	switch o.Kind {
	case api.OAlloc:
		if !object(o.New) {
			return api.ErrArg
		}
		return full
	case api.OSame:
		return cause(noH, noK)
	case api.OPush:
		return cause(noH, full)
	case api.OPop:
		if len(row) == 0 {
			return api.ErrEmpty
		}
		return api.OK
	case api.OCollect:
		return api.OK
	}
	if o.Kind < 1 || o.Kind > 11 {
		return api.ErrArg
	}
	if noH != api.OK {
		return noH
	}
	if h == 0 {
		return api.ErrNull
	}
	n := g.Nodes[h-1]
	if o.I < 0 || o.I >= n.H.Len {
		return api.ErrField
	}
	asked := o.Kind == api.OFollow || o.Kind == api.OLink
	if pointer(n.H, o.I) != asked {
		return api.ErrKind
	}
	switch o.Kind {
	case api.OFollow:
		return full
	case api.OLink:
		return noK
	}
	return api.OK
}

// cause is the first of some that is one.
func cause(l ...api.Errno) api.Errno {
	for _, e := range l {
		if e != api.OK {
			return e
		}
	}
	return api.OK
}

// done is the measure of Do, in right graphs.
func done(g api.Graph, th int, o api.Op) (api.Graph, api.Answer) {
	if th < 0 || th >= len(g.Stacks) {
		return g, api.Answer{E: api.ErrArg}
	}
	if e := refusal(g, th, o); e != api.OK {
		return g, api.Answer{E: e}
	}
	g = twice(g)
	var a api.Answer
	row := g.Stacks[th]
	h, _ := held(row, o.H)
	k, _ := held(row, o.K)
	var f *uint64
	if o.Kind != api.OAlloc && h > 0 && o.I >= 0 && o.I < len(g.Nodes[h-1].F) {
		f = &g.Nodes[h-1].F[o.I]
	}
	switch o.Kind {
	case api.OAlloc:
		g.Nodes = append(g.Nodes, api.Node{H: o.New, F: make([]uint64, o.New.Len)})
		row = append(row, len(g.Nodes))
	case api.OGet:
		a.V = *f
	case api.OFollow:
		row = append(row, int(*f))
	case api.OSet:
		*f = o.V
	case api.OLink:
		*f = uint64(k)
	case api.OAdd:
		*f = sum(*f, o.V)
	case api.OMul:
		*f = product(*f, o.V)
	case api.OSame:
		a.Yes = h == k
	case api.OPush:
		row = append(row, h)
	case api.OPop:
		row = row[:len(row)-1]
	}
	g.Stacks[th] = row
	return g, a
}

// canonical is the measure of Canon, in right graphs: it goes by a row of what is still to be gone to, the next of it the last.
func canonical(g api.Graph) api.Graph {
	became := map[uint64]uint64{0: 0}
	var order []uint64
	for _, row := range g.Stacks {
		for _, h := range row {
			for left := []uint64{uint64(h)}; len(left) > 0; {
				n := left[len(left)-1]
				left = left[:len(left)-1]
				if _, is := became[n]; is {
					continue
				}
				order = append(order, n)
				became[n] = uint64(len(order))
				k := g.Nodes[n-1]
				for i := k.H.Len - 1; i >= 0; i-- {
					if pointer(k.H, i) {
						left = append(left, k.F[i])
					}
				}
			}
		}
	}
	out := api.Graph{Stacks: twice(g).Stacks}
	for _, n := range order {
		k := api.Node{H: g.Nodes[n-1].H, F: slices.Clone(g.Nodes[n-1].F)}
		for i, v := range k.F {
			if pointer(k.H, i) {
				k.F[i] = became[v]
			}
		}
		out.Nodes = append(out.Nodes, k)
	}
	for _, row := range out.Stacks {
		for i, h := range row {
			row[i] = int(became[uint64(h)])
		}
	}
	return out
}

// wantDo holds Do against its measure, what was handed in against what it was, and what is done on Canon against it (P15.4).
func wantDo(t *testing.T, g api.Graph, th int, o api.Op) (api.Graph, api.Answer) {
	t.Helper()
	before := twice(g)
	want, a := done(twice(g), th, o)
	got, b := graph.Do(g, th, o)
	if !alike(got, want) || a != b || !right(got) || !graph.Right(got) {
		t.Fatalf("Do(%+v, %d, %+v): got %+v, %+v, want %+v, %+v", g, th, o, got, b, want, a)
	}
	if !alike(g, before) {
		t.Fatalf("Do(%d, %+v): what was handed in was %+v, and is %+v", th, o, before, g)
	}
	if b.E != api.OK && (b != api.Answer{E: b.E} || !alike(got, g)) {
		t.Fatalf("Do(%+v, %d, %+v) is refused: got %+v, %+v", g, th, o, got, b)
	}
	then, c := graph.Do(graph.Canon(g), th, o)
	if c != b || !alike(graph.Canon(then), graph.Canon(got)) {
		t.Fatalf("Do(%+v, %d, %+v) on Canon: got %+v, %+v, want %+v, %+v", g, th, o, then, c, got, b)
	}
	return got, b
}

// wantCanon holds Canon likewise.
func wantCanon(t *testing.T, g api.Graph) api.Graph {
	t.Helper()
	before := twice(g)
	got := graph.Canon(g)
	if want := canonical(g); !alike(got, want) || !right(got) || !graph.Right(got) {
		t.Fatalf("Canon(%+v): got %+v, want %+v", g, got, want)
	}
	if !alike(g, before) {
		t.Fatalf("Canon: what was handed in was %+v, and is %+v", before, g)
	}
	if again := graph.Canon(got); !alike(again, got) {
		t.Fatalf("Canon of what is canonical, %+v: got %+v", got, again)
	}
	return got
}

// The example: New(1), OAlloc of tag 1, OSame of 0 and 0: yes.
func TestExample(t *testing.T) {
	g := graph.New(1)
	g, a := graph.Do(g, 0, api.Op{Kind: 1, New: api.Head{Tag: 1}})
	if want := (api.Graph{Nodes: []api.Node{{H: api.Head{Tag: 1}}}, Stacks: [][]int{{1}}}); !alike(g, want) || a != (api.Answer{}) {
		t.Errorf("OAlloc: got %+v, %+v", g, a)
	}
	k, b := graph.Do(g, 0, api.Op{Kind: 8})
	if !alike(k, g) || b != (api.Answer{Yes: true}) {
		t.Errorf("OSame: got %+v, %+v", k, b)
	}
	if !graph.Right(k) || !graph.Same(k, g) || !alike(graph.Canon(k), g) {
		t.Errorf("behind OSame: %+v", k)
	}
}

// P15.1: New has no nodes, and so many threads without handles.
func TestNew(t *testing.T) {
	for n, want := range map[int]int{math.MinInt: 0, -1 << 32: 0, -2: 0, -1: 0, 0: 0, 1: 1, 2: 2, 4: 4, 5: 5, 15: 15, 16: 16, 17: 16, 1<<32 + 1: 16, math.MaxInt: 16} {
		g := graph.New(n)
		if len(g.Nodes) != 0 || len(g.Stacks) != want || len(slices.Concat(g.Stacks...)) != 0 || !graph.Right(g) {
			t.Errorf("New(%d): got %+v", n, g)
		}
		if k := wantCanon(t, g); !alike(k, g) {
			t.Errorf("Canon of New(%d): got %+v", n, k)
		}
	}
}

// mixed is a graph with nodes of scalars, of pointers (one leads to itself), of both, of as many fields as can be, without fields, and with one that isn't
// reached; with a thread that has handles to all others, one with the handles of nothing, ones with 1, 15, 16 and 17 handles, and ones with none.
func mixed() api.Graph {
	many := node(api.Head{Tag: 200, Len: 16, Map: 0x8001}, slices.Repeat([]uint64{1<<63 + 9}, 16)...)
	many.F[0], many.F[15] = 3, 7
	return api.Graph{
		Nodes: []api.Node{
			node(scalars(2), 5, math.MaxUint64), ring(2, 1), node(api.Head{Tag: 7, Len: 3, Map: 5}, 0, 77, 4), many, ring(1, 5, 0), node(scalars(0)), ring(7),
		},
		Stacks: [][]int{
			{1, 2, 3, 0, 4, 6, 2}, {}, {0, 0}, {3}, slices.Repeat([]int{4, 0, 2}, 5), append(slices.Repeat([]int{2, 3, 1}, 5), 3), append(slices.Repeat([]int{1, 2, 3, 0}, 4), 7), nil,
		},
	}
}

// P15.1: Right, as the document tells it: one thing of a right graph is another.
func TestRight(t *testing.T) {
	nothing := []api.Graph{{}, {Nodes: []api.Node{}, Stacks: [][]int{}}, {Stacks: make([][]int, 40)}, {Stacks: [][]int{make([]int, 100)}}, {Nodes: []api.Node{node(scalars(0))}}, mixed()}
	for _, g := range nothing {
		if !graph.Right(g) || !right(g) {
			t.Errorf("Right(%+v): no", g)
		}
	}
	for _, place := range []int{0, 3, 6} {
		for _, k := range []struct {
			n    api.Node
			want bool
		}{
			{node(scalars(2), 0, math.MaxUint64), true}, {node(scalars(2), 0), false}, {node(scalars(2), 0, 0, 0), false}, {node(scalars(2)), false}, {node(scalars(0)), true},
			{node(scalars(0), 0), false}, {node(api.Head{}), false}, {node(api.Head{Tag: 1}), true}, {node(api.Head{Tag: 200}), true}, {node(api.Head{Tag: 201}), false},
			{node(api.Head{Tag: -1}), false}, {node(filler(1)), false}, {node(filler(2)), false}, {node(filler(3), 0, 0), false}, {node(api.Head{Tag: 254}), false}, {node(api.Head{Tag: 256}), false},
			{node(scalars(16), make([]uint64, 16)...), true}, {node(scalars(17), make([]uint64, 17)...), false}, {node(api.Head{Tag: 1, Len: -1}), false},
			{node(api.Head{Tag: 1, Len: 1, Map: 2}, 0), false}, {node(api.Head{Tag: 1, Len: 1, Map: 1 << 63}, 0), false}, {node(api.Head{Tag: 1, Map: 1}), false}, {node(api.Head{Tag: 1, Len: math.MinInt}), false}, {node(api.Head{Tag: 1, Len: math.MaxInt}), false},
			{ring(0), true}, {ring(1), true}, {ring(7), true}, {ring(8), false}, {ring(0, 7, 1), true}, {ring(0, 8, 1), false}, {ring(0, 7, 8), false}, {ring(8, 7, 1), false}, {ring(1 << 32), false}, {ring(1<<63 + 1), false}, {ring(1 << 63), false}, {ring(math.MaxUint64), false},
			{node(api.Head{Tag: 1, Len: 2, Map: 2}, 8, 7), true}, {node(api.Head{Tag: 1, Len: 2, Map: 2}, 7, 8), false}, {node(pointers(16), append(make([]uint64, 15), 7)...), true}, {node(pointers(16), append(make([]uint64, 15), 8)...), false},
		} {
			g := mixed()
			g.Nodes[place] = k.n
			before := twice(g)
			if got := graph.Right(g); got != k.want || got != right(g) || !alike(g, before) {
				t.Errorf("Right of a graph with the node %+v: got %v, want %v", k.n, got, k.want)
			}
		}
	}
	for _, th := range []int{0, 1, 7} {
		for h, want := range map[int]bool{math.MinInt: false, -1 << 32: false, -8: false, -7: false, -1: false, 0: true, 1: true, 6: true, 7: true, 8: false, 9: false, 1 << 32: false, math.MaxInt: false} {
			for _, row := range [][]int{{h}, {1, 0, h}, {h, 7, 0}, append(slices.Repeat([]int{7}, 20), h)} {
				g := mixed()
				g.Stacks[th] = row
				if got := graph.Right(g); got != want || got != right(g) {
					t.Errorf("Right of a graph with the handles %v: got %v, want %v", row, got, want)
				}
			}
		}
	}
	// Without nodes there is nothing to lead to.
	for h, want := range map[int]bool{-1: false, 0: true, 1: false} {
		if got := graph.Right(api.Graph{Stacks: [][]int{{h}}}); got != want {
			t.Errorf("Right of no nodes, and a handle %d: got %v, want %v", h, got, want)
		}
	}
	// Of two nodes the last one may be led to, also by the one ahead of it.
	if !graph.Right(api.Graph{Nodes: []api.Node{ring(2), ring(1)}}) || graph.Right(api.Graph{Nodes: []api.Node{ring(2)}}) {
		t.Errorf("Right of one and of two nodes")
	}
}

// others are graphs that are each another than mixed, by one thing, right or not.
func others() []api.Graph {
	change := func(f func(g *api.Graph)) api.Graph {
		g := mixed()
		f(&g)
		return g
	}
	var l []api.Graph
	for place := range mixed().Nodes {
		at := func(f func(n *api.Node)) api.Graph { return change(func(g *api.Graph) { f(&g.Nodes[place]) }) }
		l = append(l,
			at(func(n *api.Node) { n.H.Tag++ }), at(func(n *api.Node) { n.H.Len++ }), at(func(n *api.Node) { n.H.Map ^= 1 }), at(func(n *api.Node) { n.H = api.Head{} }), at(func(n *api.Node) { n.F = append(n.F, 0) }),
			change(func(g *api.Graph) { g.Nodes = slices.Insert(g.Nodes, place, node(scalars(3), 1, 2, 3)) }), change(func(g *api.Graph) { g.Nodes = slices.Delete(g.Nodes, place, place+1) }),
		)
		for i := range mixed().Nodes[place].F {
			l = append(l,
				at(func(n *api.Node) { n.F[i]++ }), at(func(n *api.Node) { n.F[i] += 1 << 32 }), at(func(n *api.Node) { n.F[i] ^= 1 << 63 }), at(func(n *api.Node) { n.F = slices.Delete(n.F, i, i+1) }),
			)
		}
	}
	for th, row := range mixed().Stacks {
		l = append(l,
			change(func(g *api.Graph) { g.Stacks[th] = append(g.Stacks[th], 0) }), change(func(g *api.Graph) { g.Stacks = slices.Insert(g.Stacks, th, []int{3}) }), change(func(g *api.Graph) { g.Stacks = append(g.Stacks[:th:th], []int{9}) }),
		)
		for h := range row {
			l = append(l,
				change(func(g *api.Graph) { g.Stacks[th][h]++ }), change(func(g *api.Graph) { g.Stacks[th][h] = -1 }), change(func(g *api.Graph) { g.Stacks[th][h] += 1 << 32 }), change(func(g *api.Graph) { g.Stacks[th] = slices.Delete(g.Stacks[th], h, h+1) }),
			)
		}
	}
	l = append(l, api.Graph{}, api.Graph{Nodes: mixed().Nodes}, api.Graph{Stacks: mixed().Stacks}, change(func(g *api.Graph) { g.Stacks = append(g.Stacks, nil) }), change(func(g *api.Graph) { g.Nodes[0], g.Nodes[1] = g.Nodes[1], g.Nodes[0] }), change(func(g *api.Graph) { g.Stacks[0], g.Stacks[1] = g.Stacks[1], g.Stacks[0] }))
	return l
}

// P15.1: Same of graphs that differ in one thing, right or not.
func TestSame(t *testing.T) {
	l := append(others(), mixed())
	same := 0
	for i, g := range l {
		for j, k := range l {
			before, then := twice(g), twice(k)
			if got := graph.Same(g, k); got != alike(g, k) || i == j && !got {
				t.Fatalf("Same(%+v, %+v): got %v", g, k, got)
			} else if got {
				same++
			}
			if !alike(g, before) || !alike(k, then) {
				t.Fatalf("Same: what was handed in was %+v, %+v, and is %+v, %+v", before, then, g, k)
			}
		}
		if again := twice(g); !graph.Same(g, again) || graph.Same(g, mixed()) != (i == len(l)-1) {
			t.Errorf("Same of %+v and it once more, or as it was", g)
		}
	}
	if same >= 2*len(l) {
		t.Errorf("so many of %d graphs are the same: %d", len(l), same)
	}
	// A list without elements is one, nil or not.
	none, empty := api.Graph{Nodes: []api.Node{{}}, Stacks: [][]int{nil}}, api.Graph{Nodes: []api.Node{{F: []uint64{}}}, Stacks: [][]int{{}}}
	if !graph.Same(none, empty) || !graph.Same(empty, none) || !graph.Same(api.Graph{}, api.Graph{Nodes: []api.Node{}, Stacks: [][]int{}}) {
		t.Errorf("Same of graphs without anything")
	}
	if graph.Same(none, api.Graph{Nodes: []api.Node{{}}}) || graph.Same(none, api.Graph{Stacks: [][]int{nil}}) {
		t.Errorf("Same of graphs with a node, with a thread, with both")
	}
}

// P15.2: a thread that isn't there is ErrArg, whatever it does.
func TestThreads(t *testing.T) {
	g := mixed()
	for kind := -1; kind <= 12; kind++ {
		o := api.Op{Kind: kind, New: scalars(0)}
		for th, is := range map[int]bool{math.MinInt: false, -1 << 32: false, -8: false, -1: false, 0: true, 7: true, 8: false, 9: false, 16: false, 1 << 32: false, math.MaxInt: false} {
			if got, a := wantDo(t, g, th, o); !is && (!alike(got, g) || a != api.Answer{E: api.ErrArg}) {
				t.Errorf("Do of the thread %d, %+v: got %+v, %+v", th, o, got, a)
			}
		}
		for _, k := range []api.Graph{{}, {Nodes: g.Nodes}} {
			if got, a := wantDo(t, k, 0, o); !alike(got, k) || a != (api.Answer{E: api.ErrArg}) {
				t.Errorf("Do without threads, %+v: got %+v, %+v", o, got, a)
			}
		}
	}
}

// P15.2: kinds that are none, with handles and fields that are right.
func TestKinds(t *testing.T) {
	g := mixed()
	for _, kind := range []int{math.MinInt, -1 << 32, -11, -1, 0, 12, 13, 255, 1<<32 + 1, math.MaxInt} {
		for th := range g.Stacks {
			if got, a := wantDo(t, g, th, api.Op{Kind: kind, V: 3, New: scalars(1)}); !alike(got, g) || a != (api.Answer{E: api.ErrArg}) {
				t.Errorf("Do of the kind %d: got %+v, %+v", kind, got, a)
			}
		}
	}
	for th := range g.Stacks {
		// OCollect is nothing, whatever handles, fields and heads are.
		for _, o := range []api.Op{{Kind: 11}, {Kind: 11, H: -1, I: 99, K: 99, V: 7, New: filler(1)}} {
			if got, a := wantDo(t, g, th, o); !alike(got, g) || a != (api.Answer{}) {
				t.Errorf("OCollect: got %+v, %+v", got, a)
			}
		}
	}
}

// with is mixed behind something that is done to a copy of it.
func with(f func(g *api.Graph)) api.Graph {
	g := mixed()
	f(&g)
	return g
}

// told is what is done by a thread of mixed, and what it answers; without a change, if it is refused.
type told struct {
	th   int
	o    api.Op
	a    api.Answer
	then func(g *api.Graph)
}

// wantTold holds Do against what is told.
func wantTold(t *testing.T, l []told) {
	t.Helper()
	for _, k := range l {
		want := mixed()
		if k.then != nil {
			want = with(k.then)
		}
		if got, a := wantDo(t, mixed(), k.th, k.o); !alike(got, want) || a != k.a {
			t.Errorf("Do of the thread %d, %+v: got %+v, %+v, want %+v, %+v", k.th, k.o, got, a, want, k.a)
		}
	}
}

// no is what is refused.
func no(e api.Errno) api.Answer { return api.Answer{E: e} }

// P15.2: OAlloc, as the document tells it.
func TestAllocTold(t *testing.T) {
	behind := func(th int, h api.Head) func(*api.Graph) {
		return func(g *api.Graph) {
			g.Nodes = append(g.Nodes, api.Node{H: h, F: make([]uint64, h.Len)})
			g.Stacks[th] = append(g.Stacks[th], 8)
		}
	}
	var l []told
	for _, th := range []int{0, 1, 2, 4, 7} {
		for _, h := range []api.Head{{Tag: 1}, {Tag: 200}, scalars(1), scalars(16), pointers(1), pointers(16), {Tag: 3, Len: 4, Map: 10}} {
			// Handles, fields and the word don't matter.
			l = append(l, told{th, api.Op{Kind: 1, New: h}, no(0), behind(th, h)}, told{th, api.Op{Kind: 1, New: h, H: -1, I: -1, K: 99, V: 5}, no(0), behind(th, h)})
		}
	}
	for th := range 8 {
		for _, h := range []api.Head{{}, {Tag: -1}, {Tag: 201}, {Tag: 254}, filler(1), filler(5), {Tag: 255, Len: 65536}, {Tag: 255, Map: 1}, {Tag: 256}, {Tag: 1, Len: -1}, {Tag: 1, Len: 17}, {Tag: 1, Len: 3, Map: 8}, {Tag: 1, Map: 1}, {Tag: 1, Len: math.MaxInt}, {Tag: math.MinInt}} {
			// ErrArg is ahead of ErrFull.
			l = append(l, told{th, api.Op{Kind: 1, New: h}, no(api.ErrArg), nil})
		}
	}
	for _, th := range []int{5, 6} {
		l = append(l, told{th, api.Op{Kind: 1, New: scalars(0)}, no(api.ErrFull), nil}, told{th, api.Op{Kind: 1, New: pointers(16)}, no(api.ErrFull), nil})
	}
	wantTold(t, l)
	// The node's fields, all of them, are 0; the 15 handles are 16 then, and full.
	g, _ := wantDo(t, mixed(), 4, api.Op{Kind: 1, New: pointers(16)})
	if n := g.Nodes[7]; len(n.F) != 16 || slices.Max(n.F) != 0 || len(g.Stacks[4]) != 16 || g.Stacks[4][15] != 8 {
		t.Errorf("OAlloc: got %+v", g)
	}
	if k, a := wantDo(t, g, 4, api.Op{Kind: 1, New: pointers(16)}); !alike(k, g) || a.E != api.ErrFull {
		t.Errorf("OAlloc of what is full then: got %+v, %+v", k, a)
	}
}

// P15.2: OGet, OSet, OAdd and OMul, as the document tells it.
func TestScalarsTold(t *testing.T) {
	var l []told
	for _, kind := range []int{2, 4, 6, 7} {
		for _, h := range []int{math.MinInt, -1 << 32, -1, 7, 8, 1 << 32, math.MaxInt} {
			l = append(l, told{0, api.Op{Kind: kind, H: h}, no(api.ErrHandle), nil}, told{0, api.Op{Kind: kind, H: h, I: 99}, no(api.ErrHandle), nil})
		}
		l = append(l, told{1, api.Op{Kind: kind}, no(api.ErrHandle), nil}, told{7, api.Op{Kind: kind}, no(api.ErrHandle), nil}, told{3, api.Op{Kind: kind, H: 1}, no(api.ErrHandle), nil})
		for _, i := range []int{math.MinInt, -1, 0, 1, 2, math.MaxInt} {
			l = append(l, told{0, api.Op{Kind: kind, H: 3, I: i}, no(api.ErrNull), nil}, told{2, api.Op{Kind: kind, H: 1, I: i}, no(api.ErrNull), nil}, told{0, api.Op{Kind: kind, H: 5, I: i}, no(api.ErrField), nil})
		}
		for _, i := range []int{math.MinInt, -1 << 32, -1, 2, 3, 1 << 32, math.MaxInt} {
			l = append(l, told{0, api.Op{Kind: kind, I: i}, no(api.ErrField), nil}, told{0, api.Op{Kind: kind, H: 1, I: i}, no(api.ErrField), nil})
		}
		l = append(l, told{0, api.Op{Kind: kind, H: 4, I: 16}, no(api.ErrField), nil}, told{0, api.Op{Kind: kind, H: 4, I: 15}, no(api.ErrKind), nil}, told{0, api.Op{Kind: kind, H: 4, I: 0}, no(api.ErrKind), nil}, told{0, api.Op{Kind: kind, H: 2, I: 2}, no(api.ErrKind), nil}, told{5, api.Op{Kind: kind, H: 15, I: 0}, no(api.ErrKind), nil})
	}
	field := func(n, i int, v uint64) func(*api.Graph) { return func(g *api.Graph) { g.Nodes[n-1].F[i] = v } }
	high := uint64(0xffff_fffe_0000_0000)
	l = append(l,
		told{0, api.Op{Kind: 2}, api.Answer{V: 5}, nil}, told{0, api.Op{Kind: 2, I: 1, V: 3, K: 99}, api.Answer{V: math.MaxUint64}, nil}, told{0, api.Op{Kind: 2, H: 2, I: 1}, api.Answer{V: 77}, nil}, told{0, api.Op{Kind: 2, H: 4, I: 14}, api.Answer{V: 1<<63 + 9}, nil}, told{6, api.Op{Kind: 2, H: 12, I: 1}, api.Answer{V: math.MaxUint64}, nil},
		told{0, api.Op{Kind: 4, V: 9}, no(0), field(1, 0, 9)}, told{0, api.Op{Kind: 4, I: 1, V: high + 7, K: -1}, no(0), field(1, 1, high+7)}, told{0, api.Op{Kind: 4, H: 4, I: 1, V: math.MaxUint64}, no(0), field(4, 1, math.MaxUint64)}, told{5, api.Op{Kind: 4, H: 13, I: 1}, no(0), field(3, 1, 0)}, told{3, api.Op{Kind: 4, I: 1, V: 1}, no(0), field(3, 1, 1)},
		told{0, api.Op{Kind: 6, V: 3}, no(0), field(1, 0, 8)}, told{0, api.Op{Kind: 6, V: high + 0x10003}, no(0), field(1, 0, 0x10008)}, told{0, api.Op{Kind: 6, I: 1, V: 0}, no(0), field(1, 1, 0xffff_ffff)}, told{0, api.Op{Kind: 6, I: 1, V: 0x10001}, no(0), field(1, 1, 0)}, told{0, api.Op{Kind: 6, H: 4, I: 1, V: 0x7fff}, no(0), field(4, 1, 0x8008)}, told{0, api.Op{Kind: 6, H: 4, I: 14, V: 0xffff}, no(0), field(4, 14, 8)},
		told{0, api.Op{Kind: 7, V: 3}, no(0), field(1, 0, 0xfff1_0000)}, told{0, api.Op{Kind: 7, V: high + 0x10000}, no(0), field(1, 0, 5)}, told{0, api.Op{Kind: 7, I: 1, V: high + 0x10000}, no(0), field(1, 1, 0xffff_ffff)}, told{0, api.Op{Kind: 7, I: 1, V: math.MaxUint64}, no(0), field(1, 1, 2)}, told{0, api.Op{Kind: 7, H: 4, I: 14, V: 0}, no(0), field(4, 14, 0)}, told{2, api.Op{Kind: 7, H: 2}, no(api.ErrHandle), nil},
	)
	wantTold(t, l)
}

// P15.2: OFollow and OLink, as the document tells it.
func TestPointersTold(t *testing.T) {
	var l []told
	for _, kind := range []int{3, 5} {
		for _, h := range []int{math.MinInt, -1 << 32, -1, 7, 8, 1 << 32, math.MaxInt} {
			// The handle H is ahead of all: of the field, of what is full, of the handle K.
			l = append(l, told{0, api.Op{Kind: kind, H: h}, no(api.ErrHandle), nil}, told{6, api.Op{Kind: kind, H: 17}, no(api.ErrHandle), nil})
		}
		for _, i := range []int{math.MinInt, -1, 0, 1, 2, math.MaxInt} {
			for _, k := range []int{-1, 0, 99} {
				l = append(l, told{0, api.Op{Kind: kind, H: 3, I: i, K: k}, no(api.ErrNull), nil}, told{6, api.Op{Kind: kind, H: 3, I: i, K: k}, no(api.ErrNull), nil}, told{0, api.Op{Kind: kind, H: 5, I: i, K: k}, no(api.ErrField), nil})
			}
		}
		for _, i := range []int{math.MinInt, -1 << 32, -1, 2, 3, 1 << 32, math.MaxInt} {
			for _, k := range []int{-1, 0, 99} {
				l = append(l, told{0, api.Op{Kind: kind, H: 1, I: i, K: k}, no(api.ErrField), nil}, told{5, api.Op{Kind: kind, H: 0, I: i, K: k}, no(api.ErrField), nil})
			}
		}
		for _, k := range []int{-1, 0, 99} {
			l = append(l, told{0, api.Op{Kind: kind, H: 0, I: 1, K: k}, no(api.ErrKind), nil}, told{0, api.Op{Kind: kind, H: 4, I: 14, K: k}, no(api.ErrKind), nil}, told{0, api.Op{Kind: kind, H: 2, I: 1, K: k}, no(api.ErrKind), nil}, told{6, api.Op{Kind: kind, H: 4, I: 0, K: k}, no(api.ErrKind), nil}, told{0, api.Op{Kind: kind, H: 4, I: 16, K: k}, no(api.ErrField), nil})
		}
	}
	next := func(th, h int) func(*api.Graph) {
		return func(g *api.Graph) { g.Stacks[th] = append(g.Stacks[th], h) }
	}
	l = append(l,
		told{0, api.Op{Kind: 3, H: 1}, no(0), next(0, 2)}, told{0, api.Op{Kind: 3, H: 1, I: 1, K: 99, V: 7}, no(0), next(0, 1)}, told{0, api.Op{Kind: 3, H: 2}, no(0), next(0, 0)}, told{0, api.Op{Kind: 3, H: 2, I: 2, K: -1}, no(0), next(0, 4)}, told{0, api.Op{Kind: 3, H: 4, I: 15}, no(0), next(0, 7)}, told{3, api.Op{Kind: 3}, no(0), next(3, 0)}, told{4, api.Op{Kind: 3, I: 15}, no(0), next(4, 7)},
		told{5, api.Op{Kind: 3}, no(api.ErrFull), nil}, told{6, api.Op{Kind: 3, H: 1}, no(api.ErrFull), nil}, told{6, api.Op{Kind: 3, H: 16}, no(api.ErrFull), nil}, told{5, api.Op{Kind: 3, H: 15}, no(api.ErrFull), nil},
	)
	link := func(n, i int, v uint64) func(*api.Graph) { return func(g *api.Graph) { g.Nodes[n-1].F[i] = v } }
	l = append(l,
		told{0, api.Op{Kind: 5, H: 1, K: 3}, no(0), link(2, 0, 0)}, told{0, api.Op{Kind: 5, H: 1, I: 1, K: 1}, no(0), link(2, 1, 2)}, told{0, api.Op{Kind: 5, H: 2, I: 0, K: 2}, no(0), link(3, 0, 3)}, told{0, api.Op{Kind: 5, H: 2, I: 2, K: 5, V: 99}, no(0), link(3, 2, 6)}, told{0, api.Op{Kind: 5, H: 4, I: 15, K: 0}, no(0), link(4, 15, 1)}, told{0, api.Op{Kind: 5, H: 6, I: 1, K: 6}, no(0), link(2, 1, 2)}, told{3, api.Op{Kind: 5}, no(0), link(3, 0, 3)},
		// A thread with 16 handles or more links as others do.
		told{5, api.Op{Kind: 5, H: 15, I: 0, K: 15}, no(0), link(3, 0, 3)}, told{6, api.Op{Kind: 5, H: 16, I: 0, K: 15}, no(0), link(7, 0, 0)},
	)
	for _, k := range []int{math.MinInt, -1 << 32, -1, 7, 8, 1 << 32, math.MaxInt} {
		l = append(l, told{0, api.Op{Kind: 5, H: 1, K: k}, no(api.ErrHandle), nil}, told{0, api.Op{Kind: 5, H: 4, I: 15, K: k}, no(api.ErrHandle), nil})
	}
	wantTold(t, l)
}

// P15.2: OSame, OPush and OPop, as the document tells it.
func TestHandlesTold(t *testing.T) {
	var l []told
	for _, h := range []int{math.MinInt, -1 << 32, -1, 7, 8, 1 << 32, math.MaxInt} {
		l = append(l, told{0, api.Op{Kind: 8, H: h}, no(api.ErrHandle), nil}, told{0, api.Op{Kind: 8, K: h}, no(api.ErrHandle), nil}, told{0, api.Op{Kind: 8, H: h, K: h}, no(api.ErrHandle), nil}, told{0, api.Op{Kind: 9, H: h}, no(api.ErrHandle), nil})
	}
	for _, th := range []int{1, 7} {
		l = append(l, told{th, api.Op{Kind: 8}, no(api.ErrHandle), nil}, told{th, api.Op{Kind: 9}, no(api.ErrHandle), nil}, told{th, api.Op{Kind: 10}, no(api.ErrEmpty), nil}, told{th, api.Op{Kind: 10, H: 5, I: 5, K: 5, V: 5, New: scalars(1)}, no(api.ErrEmpty), nil})
	}
	yes := api.Answer{Yes: true}
	l = append(l,
		told{0, api.Op{Kind: 8}, yes, nil}, told{0, api.Op{Kind: 8, H: 1, K: 6}, yes, nil}, told{0, api.Op{Kind: 8, H: 6, K: 1, I: 99, V: 7}, yes, nil}, told{0, api.Op{Kind: 8, H: 3, K: 3}, yes, nil}, told{2, api.Op{Kind: 8, H: 0, K: 1}, yes, nil}, told{4, api.Op{Kind: 8, H: 1, K: 13}, yes, nil}, told{6, api.Op{Kind: 8, H: 16, K: 16}, yes, nil},
		told{0, api.Op{Kind: 8, H: 0, K: 1}, no(0), nil}, told{0, api.Op{Kind: 8, H: 1, K: 0}, no(0), nil}, told{0, api.Op{Kind: 8, H: 3, K: 4}, no(0), nil}, told{0, api.Op{Kind: 8, H: 6, K: 5}, no(0), nil}, told{6, api.Op{Kind: 8, H: 16, K: 0}, no(0), nil},
	)
	next := func(th, h int) func(*api.Graph) {
		return func(g *api.Graph) { g.Stacks[th] = append(g.Stacks[th], h) }
	}
	l = append(l,
		told{0, api.Op{Kind: 9}, no(0), next(0, 1)}, told{0, api.Op{Kind: 9, H: 6, K: 99, I: 99, V: 9}, no(0), next(0, 2)}, told{0, api.Op{Kind: 9, H: 3}, no(0), next(0, 0)}, told{3, api.Op{Kind: 9}, no(0), next(3, 3)}, told{4, api.Op{Kind: 9, H: 14}, no(0), next(4, 2)},
		// Which handle it is, is asked ahead of what is full.
		told{5, api.Op{Kind: 9}, no(api.ErrFull), nil}, told{6, api.Op{Kind: 9, H: 16}, no(api.ErrFull), nil}, told{5, api.Op{Kind: 9, H: 16}, no(api.ErrHandle), nil}, told{5, api.Op{Kind: 9, H: -1}, no(api.ErrHandle), nil}, told{6, api.Op{Kind: 9, H: 17}, no(api.ErrHandle), nil},
	)
	for _, th := range []int{0, 2, 3, 4, 5, 6} {
		l = append(l, told{th, api.Op{Kind: 10, H: -1, I: -1, K: -1}, no(0), func(g *api.Graph) { g.Stacks[th] = g.Stacks[th][:len(g.Stacks[th])-1] }})
	}
	wantTold(t, l)
	// A thread with one handle has none then.
	g, a := wantDo(t, mixed(), 3, api.Op{Kind: 10})
	if len(g.Stacks[3]) != 0 || a != (api.Answer{}) {
		t.Errorf("OPop of one handle: got %+v, %+v", g, a)
	}
	if k, a := wantDo(t, g, 3, api.Op{Kind: 10}); !alike(k, g) || a != no(api.ErrEmpty) {
		t.Errorf("OPop of none: got %+v, %+v", k, a)
	}
}

// P15.2, P15.4: all kinds, handles, fields and heads of a row of each, with one another: what is refused first, and all that is done.
func TestMeasured(t *testing.T) {
	g := mixed()
	handles := []int{math.MinInt, -1, 0, 1, 2, 3, 4, 5, 6, 7, 14, 15, 16, 17}
	fields := []int{-1, 0, 1, 2, 3, 15, 16, math.MaxInt}
	heads := []api.Head{{}, scalars(0), pointers(3), filler(2), {Tag: 1, Len: 17}, {Tag: 1, Map: 1}}
	seen := map[[2]int]int{}
	look := func(th int, o api.Op) {
		_, a := wantDo(t, g, th, o)
		seen[[2]int{o.Kind, int(a.E)}]++
	}
	for th := -1; th <= len(g.Stacks); th++ {
		for kind := -1; kind <= 13; kind++ {
			for i, h := range handles {
				for j, f := range fields {
					for _, k := range []int{handles[(i+j)%len(handles)], handles[(i+7*j+3)%len(handles)]} {
						look(th, api.Op{Kind: kind, H: h, I: f, K: k, V: 0x1234_5678_9abc_def0 << j, New: heads[(i+j)%len(heads)]})
					}
				}
			}
		}
	}
	want := map[int][]api.Errno{
		1: {0, 1, 4}, 2: {0, 1, 5, 6, 7, 8}, 3: {0, 1, 4, 5, 6, 7, 8}, 4: {0, 1, 5, 6, 7, 8}, 5: {0, 1, 5, 6, 7, 8}, 6: {0, 1, 5, 6, 7, 8}, 7: {0, 1, 5, 6, 7, 8}, 8: {0, 1, 5}, 9: {0, 1, 4, 5}, 10: {0, 1, 9}, 11: {0, 1},
	}
	for kind := range 13 {
		for e := range 13 {
			if wanted := slices.Contains(want[kind], api.Errno(e)) || len(want[kind]) == 0 && e == 1; (seen[[2]int{kind, e}] > 0) != wanted {
				t.Errorf("of the kind %d so many were answered %d: %d", kind, e, seen[[2]int{kind, e}])
			}
		}
	}
}

// P15.2: words of V and of fields, all over: OSet and OGet keep all bits, OAdd and OMul those that count.
func TestReckoned(t *testing.T) {
	l := []uint64{0, 1, 0xffff, 0x8000, 0x7fff, 0x10000, 0x7fff_ffff, 0x8000_8000, 0xffff_ffff, 1 << 32, 1 << 63, 0xdead_beef_0003_0004, math.MaxUint64, math.MaxUint64 - 0xffff_ffff}
	seed := uint64(7)
	for range 40 {
		l = append(l, uint64(number(&seed, 1<<31))<<33^uint64(number(&seed, 1<<31))<<7^uint64(number(&seed, 100)))
	}
	for _, v := range l {
		for _, w := range l {
			g := api.Graph{Nodes: []api.Node{node(scalars(2), v, w)}, Stacks: [][]int{{1}}}
			for i, kind := range []int{api.OSet, api.OAdd, api.OMul} {
				then, a := wantDo(t, g, 0, api.Op{Kind: kind, V: w})
				got, b := wantDo(t, then, 0, api.Op{Kind: api.OGet})
				if want := []uint64{w, sum(v, w), product(v, w)}[i]; a != (api.Answer{}) || b != (api.Answer{V: want}) || got.Nodes[0].F[1] != w {
					t.Errorf("kind %d of %#x, %#x: got %#x, want %#x", kind, v, w, b.V, want)
				}
			}
		}
	}
}

// P15.3: Canon, as the document tells it.
func TestCanonTold(t *testing.T) {
	five, six := node(scalars(1), 5), node(scalars(1), 6)
	for _, k := range []struct{ g, want api.Graph }{
		{api.Graph{}, api.Graph{}},
		{api.Graph{Nodes: []api.Node{five, six, ring(3)}}, api.Graph{}},
		{api.Graph{Nodes: []api.Node{five}, Stacks: [][]int{nil, {}}}, api.Graph{Stacks: [][]int{nil, {}}}},
		{api.Graph{Nodes: []api.Node{five}, Stacks: [][]int{{0, 0}, {0}}}, api.Graph{Stacks: [][]int{{0, 0}, {0}}}},
		{api.Graph{Nodes: []api.Node{five, six}, Stacks: [][]int{{2}}}, api.Graph{Nodes: []api.Node{six}, Stacks: [][]int{{1}}}},
		{api.Graph{Nodes: []api.Node{five, six}, Stacks: [][]int{{2, 1}}}, api.Graph{Nodes: []api.Node{six, five}, Stacks: [][]int{{1, 2}}}},
		{api.Graph{Nodes: []api.Node{five, six}, Stacks: [][]int{nil, {0, 2, 0, 2}, {}, {1, 2}}}, api.Graph{Nodes: []api.Node{six, five}, Stacks: [][]int{nil, {0, 1, 0, 1}, {}, {2, 1}}}},
		// A node that leads to itself; a ring, begun amid it; one behind the other, each with what it leads to.
		{api.Graph{Nodes: []api.Node{five, ring(2)}, Stacks: [][]int{{2}}}, api.Graph{Nodes: []api.Node{ring(1)}, Stacks: [][]int{{1}}}},
		{api.Graph{Nodes: []api.Node{ring(2, 0), ring(0, 3), ring(1, 1)}, Stacks: [][]int{{2}}}, api.Graph{Nodes: []api.Node{ring(0, 2), ring(3, 3), ring(1, 0)}, Stacks: [][]int{{1}}}},
		{api.Graph{Nodes: []api.Node{five, six, ring(2), ring(1, 3)}, Stacks: [][]int{{4}}}, api.Graph{Nodes: []api.Node{ring(2, 3), five, ring(4), six}, Stacks: [][]int{{1}}}},
		{api.Graph{Nodes: []api.Node{five, six, ring(2), ring(3, 1)}, Stacks: [][]int{{4}}}, api.Graph{Nodes: []api.Node{ring(2, 4), ring(3), six, five}, Stacks: [][]int{{1}}}},
		{api.Graph{Nodes: []api.Node{five, six, ring(2), ring(3, 1)}, Stacks: [][]int{{2}, {4, 1}}}, api.Graph{Nodes: []api.Node{six, ring(3, 4), ring(1), five}, Stacks: [][]int{{1}, {2, 4}}}},
		// One that is reached twice: by two fields, by a field and a handle, in whichever order.
		{api.Graph{Nodes: []api.Node{five, ring(1, 1, 0, 1)}, Stacks: [][]int{{2}}}, api.Graph{Nodes: []api.Node{ring(2, 2, 0, 2), five}, Stacks: [][]int{{1}}}},
		{api.Graph{Nodes: []api.Node{ring(2), five}, Stacks: [][]int{{2, 1}}}, api.Graph{Nodes: []api.Node{five, ring(1)}, Stacks: [][]int{{1, 2}}}},
		{api.Graph{Nodes: []api.Node{ring(2), five}, Stacks: [][]int{{1, 2}}}, api.Graph{Nodes: []api.Node{ring(2), five}, Stacks: [][]int{{1, 2}}}},
		// What a scalar is leads nowhere, though it could be a node's number.
		{api.Graph{Nodes: []api.Node{five, node(api.Head{Tag: 1, Len: 3, Map: 2}, 1, 3, 1), six}, Stacks: [][]int{{2}}}, api.Graph{Nodes: []api.Node{node(api.Head{Tag: 1, Len: 3, Map: 2}, 1, 2, 1), six}, Stacks: [][]int{{1}}}},
		{api.Graph{Nodes: []api.Node{ring(2), node(scalars(2), 1, 2)}, Stacks: [][]int{{0}, {2}}}, api.Graph{Nodes: []api.Node{node(scalars(2), 1, 2)}, Stacks: [][]int{{0}, {1}}}},
	} {
		if got := wantCanon(t, k.g); !alike(got, k.want) || !graph.Same(got, k.want) {
			t.Errorf("Canon(%+v): got %+v, want %+v", k.g, got, k.want)
		}
	}
}

// number is the next of a row of numbers all over, the same ones each time.
func number(seed *uint64, n int) int {
	*seed = *seed*6364136223846793005 + 1442695040888963407
	return int(*seed >> 33 % uint64(n))
}

// random is a right graph of so many nodes, that lead to each other, and of so many threads.
func random(n, threads int, seed *uint64) api.Graph {
	var g api.Graph
	for range n {
		h := api.Head{Tag: 1 + number(seed, 200), Len: number(seed, 5)}
		h.Map = uint64(number(seed, 1<<h.Len))
		k := api.Node{H: h}
		for i := range h.Len {
			v := number(seed, 1<<30)
			if pointer(h, i) {
				v = max(0, number(seed, n+3)-2)
			}
			k.F = append(k.F, uint64(v))
		}
		g.Nodes = append(g.Nodes, k)
	}
	for range threads {
		var row []int
		for range number(seed, 5) {
			row = append(row, number(seed, n+1))
		}
		g.Stacks = append(g.Stacks, row)
	}
	return g
}

// anything is something to be done, now and then what is refused.
func anything(seed *uint64) api.Op {
	h := api.Head{Tag: number(seed, 202), Len: number(seed, 4)}
	h.Map = uint64(number(seed, 1<<h.Len))
	return api.Op{Kind: 1 + number(seed, 11), H: number(seed, 9) - 1, I: number(seed, 5) - 1, K: number(seed, 9) - 1, V: uint64(number(seed, 1<<31)) << number(seed, 40), New: h}
}

// P15.2 to P15.4: long rows of what threads do, in graphs all over, held against the measure: on the graph, on its Canon, and on both in turn.
func TestRows(t *testing.T) {
	refused, reached, lost := 0, 0, 0
	for seed := range uint64(150) {
		step := seed
		threads := 1 + number(&step, 4)
		g := random(number(&step, 20), threads, &step)
		if seed%3 == 0 {
			g = graph.New(threads)
		}
		k := wantCanon(t, g)
		for range 60 {
			th, o := number(&step, threads), anything(&step)
			var a, b api.Answer
			g, a = wantDo(t, g, th, o)
			k, b = wantDo(t, k, th, o)
			if a != b || !alike(graph.Canon(g), graph.Canon(k)) {
				t.Fatalf("%d: Do of %+v: got %+v, %+v, and %+v, %+v", seed, o, g, a, k, b)
			}
			if a.E != api.OK {
				refused++
			}
			if number(&step, 4) == 0 {
				k = wantCanon(t, k)
			}
		}
		reached += len(graph.Canon(g).Nodes)
		lost += len(g.Nodes) - len(graph.Canon(g).Nodes)
	}
	if refused < 2000 || refused > 8000 || reached < 500 || lost < 500 {
		t.Errorf("so many were refused: %d, so many nodes are reached: %d, so many aren't: %d", refused, reached, lost)
	}
}

// P15.3: Canon of graphs all over.
func TestCanonMeasured(t *testing.T) {
	for seed := range uint64(1500) {
		step := seed
		g := random(int(seed%40), number(&step, 6), &step)
		k := wantCanon(t, g)
		// What isn't reached doesn't matter: it is what it likes.
		more := twice(g)
		more.Nodes = append(more.Nodes, ring(uint64(len(g.Nodes)+1), 1), node(scalars(1), 3))
		if got := wantCanon(t, more); !alike(got, k) {
			t.Fatalf("Canon of %+v: got %+v, want %+v", more, got, k)
		}
	}
}

// P15.3: all graphs of two nodes of two fields each, and two threads of up to one handle.
func TestCanonOfAllShort(t *testing.T) {
	heads := []api.Head{pointers(2), {Tag: 1, Len: 2, Map: 1}, {Tag: 1, Len: 2, Map: 2}, scalars(2)}
	rows := [][]int{nil, {0}, {1}, {2}}
	for n := range 4 * 4 * 81 * 16 {
		g := api.Graph{Nodes: []api.Node{node(heads[n%4], uint64(n/16%3), uint64(n/48%3)), node(heads[n/4%4], uint64(n/144%3), uint64(n/432%3))}, Stacks: [][]int{rows[n/1296%4], rows[n/5184%4]}}
		wantCanon(t, g)
	}
}

// P15.3, R1: a row of nodes that leads from the first one to the last one and back, as deep as things nest, and a node that is reached often.
func TestDeep(t *testing.T) {
	const n = 1 << 16
	var g api.Graph
	for i := range n {
		g.Nodes = append(g.Nodes, node(api.Head{Tag: 1, Len: 2, Map: 2}, uint64(i), uint64((i+1)%n+1)))
	}
	g.Stacks = [][]int{{1}, {n, n / 2}}
	if got := graph.Canon(g); !alike(got, g) {
		t.Errorf("Canon of a ring: got another one, of %d nodes", len(got.Nodes))
	}
	g.Stacks = [][]int{{2}}
	got := graph.Canon(g)
	if len(got.Nodes) != n || got.Stacks[0][0] != 1 || got.Nodes[0].F[0] != 1 || got.Nodes[n-1].F[0] != 0 || got.Nodes[n-1].F[1] != 1 || !alike(got, canonical(g)) {
		t.Errorf("Canon of a ring, from its second node on: got another one, of %d nodes", len(got.Nodes))
	}
	if !graph.Right(g) || !graph.Same(g, twice(g)) {
		t.Errorf("a ring isn't right, or not the same")
	}
	// Each leads to the next one by all its fields: each is gone to once.
	for i := range 200 {
		g.Nodes[i] = node(pointers(16), slices.Repeat([]uint64{uint64(i + 2)}, 16)...)
	}
	g.Nodes, g.Stacks = g.Nodes[:201], [][]int{{1}}
	g.Nodes[200] = node(scalars(0))
	if got := graph.Canon(g); !alike(got, g) {
		t.Errorf("Canon of a row that is reached often: got another one, of %d nodes", len(got.Nodes))
	}
}

// R3: what comes out is one's own: later calls on it, and what is written into it, are seen neither in what was handed in nor in what else came out.
func TestGraphsAreValues(t *testing.T) {
	graphs := []api.Graph{mixed()}
	before := []api.Graph{mixed()}
	keep := func(g api.Graph) {
		graphs, before = append(graphs, g), append(before, twice(g))
	}
	keep(graph.Canon(mixed()))
	for round := range 2 {
		for _, g := range slices.Clone(graphs) {
			for kind := 1; kind <= 11; kind++ {
				for _, o := range []api.Op{{Kind: kind, V: 3, New: pointers(2)}, {Kind: kind, H: 2 - round, I: 1, K: 1, V: 4, New: scalars(1)}} {
					then, _ := graph.Do(g, 0, o)
					keep(then)
				}
			}
			keep(graph.Canon(g))
		}
		for i := range graphs {
			if !alike(graphs[i], before[i]) {
				t.Fatalf("a graph was %+v, and is %+v", before[i], graphs[i])
			}
		}
	}
}

// R3: each list of what comes out of what isn't refused is one's own: what is written into it, or put behind it, is seen in no other one.
func TestListsAreValues(t *testing.T) {
	ops := []api.Op{{Kind: 1, New: scalars(2)}, {Kind: 2}, {Kind: 3, H: 1}, {Kind: 4}, {Kind: 5, H: 1}, {Kind: 6}, {Kind: 7}, {Kind: 8}, {Kind: 9}, {Kind: 10}, {Kind: 11}}
	for kind := range 12 {
		g := mixed()
		out := graph.Canon(g)
		if kind > 0 {
			var a api.Answer
			if out, a = graph.Do(g, 0, ops[kind-1]); a.E != api.OK {
				t.Fatalf("Do of %+v: got %+v", ops[kind-1], a)
			}
		}
		was := twice(out)
		for i := range out.Nodes {
			grown := append(out.Nodes[i].F, 98)
			for f := range grown {
				grown[f]++
			}
			back := twice(was)
			back.Nodes[i].F = out.Nodes[i].F
			if !alike(out, back) || !alike(g, mixed()) {
				t.Fatalf("behind what was written into the node %d: %+v, %+v", i, out, g)
			}
			copy(out.Nodes[i].F, was.Nodes[i].F)
		}
		for i := range out.Stacks {
			grown := append(out.Stacks[i], 98)
			for h := range grown {
				grown[h]++
			}
			back := twice(was)
			back.Stacks[i] = out.Stacks[i]
			if !alike(out, back) || !alike(g, mixed()) {
				t.Fatalf("behind what was written into the handles of %d: %+v, %+v", i, out, g)
			}
			copy(out.Stacks[i], was.Stacks[i])
		}
		for i := range out.Nodes {
			out.Nodes[i] = api.Node{}
		}
		for i := range out.Stacks {
			out.Stacks[i] = nil
		}
		if !alike(g, mixed()) {
			t.Fatalf("behind what was written into what came out: %+v", g)
		}
	}
	g, k := graph.New(2), graph.New(2)
	g.Stacks[0] = []int{5}
	if len(k.Stacks[0]) != 0 || len(graph.New(2).Stacks[0]) != 0 {
		t.Errorf("New(2): handles of another one")
	}
}

// R4: the same once more, whatever was called between.
func TestSameOnceMore(t *testing.T) {
	g := mixed()
	one := graph.Canon(g)
	for kind := range 13 {
		o := api.Op{Kind: kind, V: 3, New: pointers(2)}
		then, a := graph.Do(g, 0, o)
		graph.Do(then, 1, o)
		graph.Do(one, 0, o)
		graph.New(3)
		again, b := graph.Do(g, 0, o)
		if a != b || !alike(then, again) || !alike(graph.Canon(g), one) {
			t.Errorf("Do of %+v: got %+v, %+v, and %+v, %+v", o, then, a, again, b)
		}
	}
}

// R1: of graphs that aren't right nothing is promised, but that every call ends, and that what was handed in is as it was.
func TestEveryCallEnds(t *testing.T) {
	graphs := append(others(), api.Graph{Nodes: []api.Node{{H: pointers(2), F: []uint64{9, math.MaxUint64, 3}}, {H: api.Head{Tag: -1, Len: math.MaxInt, Map: math.MaxUint64}, F: make([]uint64, 70)}, {H: api.Head{Len: math.MinInt}}, {H: filler(9)}}, Stacks: [][]int{{1, 2, 3, 4, 5, -1, math.MinInt, math.MaxInt}}})
	for i, g := range graphs {
		before := twice(g)
		graph.Right(g)
		graph.Canon(g)
		graph.Same(g, graphs[(i+1)%len(graphs)])
		for _, th := range []int{0, 5} {
			for kind := range 13 {
				for h := -1; h < 9; h++ {
					for _, f := range []int{math.MinInt, 0, 2, 3, 64, 69} {
						graph.Do(g, th, api.Op{Kind: kind, H: h, I: f, K: 7 - h, New: pointers(2)})
					}
				}
			}
		}
		if !alike(g, before) {
			t.Fatalf("what was handed in was %+v, and is %+v", before, g)
		}
	}
}
