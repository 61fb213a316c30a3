package view_test

import (
	"math"
	"slices"
	"testing"

	"dovecote/api"
	"dovecote/arena"
	"dovecote/graph"
	"dovecote/object"
	"dovecote/view"
)

// address is the measure: told by whole numbers, not by the layers below. So are all measures here.
func address(space, at int) uint64 { return uint64(space+1)*4294967296 + uint64(at) }

// here and there are addresses in the spaces 0 and 1.
func here(at int) uint64  { return address(0, at) }
func there(at int) uint64 { return address(1, at) }

// first is a head's word.
func first(h api.Head) uint64 {
	return uint64(h.Tag)*72057594037927936 + uint64(h.Len)*4294967296 + h.Map
}

// scalars is the head of an object of so many fields, none of which is a pointer.
func scalars(n int) api.Head { return api.Head{Tag: n + 1, Len: n} }

// pointers is the head of an object all fields of which are pointers.
func pointers(n int) api.Head { return api.Head{Tag: 200 - n, Len: n, Map: 1<<n - 1} }

// both is the head of an object of a scalar, a pointer and a scalar.
func both() api.Head { return api.Head{Tag: 77, Len: 3, Map: 2} }

// filler is the head of a filler of so many words.
func filler(n int) api.Head { return api.Head{Tag: 255, Len: n - 1} }

// long is how many words a head tells.
func long(h api.Head) int {
	if h.Tag == 255 {
		return h.Len + 1
	}
	return h.Len + 2
}

// marked is memory in which no two words are the same, none is 0, none is a head's, and none an address.
func marked(words int) api.Mem {
	m := api.Mem{Words: words}
	for space := range 2 {
		for at := range words {
			m.Sp[space] = append(m.Sp[space], uint64(space)<<63+uint64(1000+at))
		}
	}
	return m
}

// empty is memory all words of which are 0.
func empty(words int) api.Mem {
	return api.Mem{Words: words, Sp: [2][]uint64{make([]uint64, words), make([]uint64, words)}}
}

// lay writes an object's head and its fields into memory itself: the word of its twin, and all that isn't told, is what was there.
func lay(m api.Mem, a uint64, h api.Head, fields ...uint64) uint64 {
	words := m.Sp[a/4294967296-1][a%4294967296:]
	words[0] = first(h)
	if len(words) > 2 {
		copy(words[2:], fields)
	}
	return a
}

// node is one with a head and fields.
func node(h api.Head, fields ...uint64) api.Node { return api.Node{H: h, F: fields} }

// ring is a node that leads to some others, by pointers alone.
func ring(to ...uint64) api.Node { return node(pointers(len(to)), to...) }

// drawn is a graph of some nodes, and of threads with these handles.
func drawn(nodes []api.Node, stacks ...[]int) api.Graph {
	return api.Graph{Nodes: nodes, Stacks: stacks}
}

// again is memory once more, which shares nothing with it.
func again(m api.Mem) api.Mem {
	for space, l := range m.Sp {
		m.Sp[space] = slices.Clone(l)
	}
	return m
}

// equal: are two memories the same, word by word?
func equal(m, k api.Mem) bool {
	return m.Words == k.Words && slices.Equal(m.Sp[0], k.Sp[0]) && slices.Equal(m.Sp[1], k.Sp[1])
}

// copied are rows once more, which share nothing with them.
func copied[T any](rows [][]T) [][]T {
	var out [][]T
	for _, row := range rows {
		out = append(out, slices.Clone(row))
	}
	return out
}

// level: are two rows of rows the same?
func level[T comparable](rows, others [][]T) bool {
	return slices.EqualFunc(rows, others, slices.Equal[[]T])
}

// twice is a graph once more, which shares nothing with it.
func twice(g api.Graph) api.Graph {
	out := api.Graph{Stacks: copied(g.Stacks)}
	for _, n := range g.Nodes {
		out.Nodes = append(out.Nodes, api.Node{H: n.H, F: slices.Clone(n.F)})
	}
	return out
}

// same: are two graphs the same, node by node, handle by handle?
func same(g, k api.Graph) bool {
	return level(g.Stacks, k.Stacks) && slices.EqualFunc(g.Nodes, k.Nodes, func(n, o api.Node) bool {
		return n.H == o.H && slices.Equal(n.F, o.F)
	})
}

// known is the head of the object at an address, and whether there is one that is no filler.
func known(m api.Mem, a uint64) (api.Head, bool) {
	space, at := a/4294967296, a%4294967296
	if space != 1 && space != 2 || at >= uint64(m.Words) {
		return api.Head{}, false
	}
	w := m.Sp[space-1][at]
	h := api.Head{Tag: int(w / 72057594037927936), Len: int(w / 4294967296 % 16777216), Map: w % 4294967296}
	is := h.Tag >= 1 && h.Tag <= 200 && h.Len <= 16 && h.Map/(1<<h.Len) == 0 && int(at)+h.Len+2 <= m.Words
	return h, is
}

// fields are those of an object, as they are in memory.
func fields(m api.Mem, a uint64) []uint64 {
	h, _ := known(m, a)
	return m.Sp[a/4294967296-1][a%4294967296+2:][:h.Len]
}

// pointer: is a field of a head one?
func pointer(h api.Head, i int) bool { return h.Map>>i%2 == 1 }

// reached are the objects that handles reach: what is still to be told lies on a pile, the next one above.
func reached(m api.Mem, rows [][]uint64) []uint64 {
	var l []uint64
	told := map[uint64]bool{}
	pile := slices.Concat(rows...)
	slices.Reverse(pile)
	for len(pile) > 0 {
		a := pile[len(pile)-1]
		pile = pile[:len(pile)-1]
		h, is := known(m, a)
		if told[a] || !is {
			continue
		}
		told[a] = true
		l = append(l, a)
		for i := h.Len - 1; i >= 0; i-- {
			if pointer(h, i) {
				pile = append(pile, fields(m, a)[i])
			}
		}
	}
	return l
}

// seen is the measure of Of.
func seen(m api.Mem, rows [][]uint64) (api.Graph, api.Errno) {
	l := reached(m, rows)
	sound := true
	place := func(a uint64) int {
		_, is := known(m, a)
		sound = sound && (is || a == 0)
		return 1 + slices.Index(l, a)
	}
	var g api.Graph
	for _, a := range l {
		h, _ := known(m, a)
		n := api.Node{H: h, F: slices.Clone(fields(m, a))}
		for i, v := range n.F {
			if pointer(h, i) {
				n.F[i] = uint64(place(v))
			}
		}
		g.Nodes = append(g.Nodes, n)
	}
	for _, row := range rows {
		var stack []int
		for _, a := range row {
			stack = append(stack, place(a))
		}
		g.Stacks = append(g.Stacks, stack)
	}
	if !sound {
		return api.Graph{}, api.ErrForm
	}
	return g, api.OK
}

// heavy is the measure of Words.
func heavy(m api.Mem, rows [][]uint64) int {
	n := 0
	for _, a := range reached(m, rows) {
		h, _ := known(m, a)
		n += h.Len + 2
	}
	return n
}

// canonical is what chapter 15's Canon is of a right graph.
func canonical(g api.Graph) api.Graph {
	m, rows, _ := stored(g, total(g), 0)
	out, _ := seen(m, rows)
	return out
}

// total is how many words a graph's nodes have.
func total(g api.Graph) int {
	n := 0
	for _, k := range g.Nodes {
		n += len(k.F) + 2
	}
	return n
}

// stored is the measure of Put, but for the bounds of how many words there may be.
func stored(g api.Graph, words, space int) (api.Mem, [][]uint64, api.Errno) {
	switch {
	case space != 0 && space != 1:
		return api.Mem{}, nil, api.ErrArg
	case total(g) > words:
		return api.Mem{}, nil, api.ErrFull
	}
	m := empty(words)
	at, addresses := 0, []uint64{0}
	for _, n := range g.Nodes {
		addresses = append(addresses, address(space, at))
		at += len(n.F) + 2
	}
	for i, n := range g.Nodes {
		a := lay(m, addresses[i+1], n.H, n.F...)
		for f, v := range n.F {
			if pointer(n.H, f) {
				fields(m, a)[f] = addresses[v]
			}
		}
	}
	var rows [][]uint64
	for _, stack := range g.Stacks {
		var row []uint64
		for _, h := range stack {
			row = append(row, addresses[h])
		}
		rows = append(rows, row)
	}
	return m, rows, api.OK
}

// wantOf holds Of, Words and Alike of right memory against their measures, and what was handed in against what it was; rows stand in longer ones, of which nothing may change.
func wantOf(t *testing.T, m api.Mem, rows ...[]uint64) (api.Graph, api.Errno) {
	t.Helper()
	given := copied(rows)
	for i, row := range given {
		given[i] = append(row, 91, 92, 93)[:len(row)]
	}
	before := again(m)
	want, f := seen(m, rows)
	g, e := view.Of(m, given)
	if e != f || !same(g, want) || e == api.OK && !graph.Right(g) {
		t.Fatalf("Of %x, %#x: got %+v, %d, want %+v, %d", m, rows, g, e, want, f)
	}
	if n := view.Words(m, given); n != heavy(m, rows) {
		t.Fatalf("Words %x, %#x: got %d, want %d", m, rows, n, heavy(m, rows))
	}
	if is := view.Alike(m, given, g); is != (e == api.OK) {
		t.Fatalf("Alike %x, %#x, %+v: got %v", m, rows, g, is)
	}
	if !equal(m, before) {
		t.Fatalf("memory was %x, and is %x", before, m)
	}
	for i, row := range given {
		if !slices.Equal(row, rows[i]) || !slices.Equal(row[len(row):len(row)+3], []uint64{91, 92, 93}) {
			t.Fatalf("handles were %#x, and are %#x", rows, given)
		}
	}
	return g, e
}

// wantPut holds Put of a right graph against its measure, what is put against the graph (P16.3), and what was handed in against what it was.
func wantPut(t *testing.T, g api.Graph, words, space int) (api.Mem, [][]uint64, api.Errno) {
	t.Helper()
	before := twice(g)
	want, handles, f := stored(g, words, space)
	m, rows, e := view.Put(g, words, space)
	if e != f || !equal(m, want) || !level(rows, handles) {
		t.Fatalf("Put %+v, %d, %d: got %x, %#x, %d, want %x, %#x, %d", g, words, space, m, rows, e, want, handles, f)
	}
	if e == api.OK {
		k, _ := wantOf(t, m, rows...)
		if !same(k, graph.Canon(g)) || !view.Alike(m, rows, g) || view.Words(m, rows) != total(k) || !arena.Right(m) {
			t.Fatalf("Put %+v, %d, %d: it is put as %+v", g, words, space, k)
		}
	}
	if !same(g, before) {
		t.Fatalf("Put: what was handed in was %+v, and is %+v", before, g)
	}
	return m, rows, e
}

// wantAlike holds Alike of right memory and a right graph against what it must be, and what was handed in against what it was.
func wantAlike(t *testing.T, m api.Mem, rows [][]uint64, g api.Graph, want bool) {
	t.Helper()
	mem, handles, before := again(m), copied(rows), twice(g)
	if got := view.Alike(m, rows, g); got != want {
		t.Fatalf("Alike %x, %#x, %+v: got %v", m, rows, g, got)
	}
	if !equal(m, mem) || !level(rows, handles) || !same(g, before) {
		t.Fatalf("Alike: what was handed in was %x, %#x, %+v, and is %x, %#x, %+v", mem, handles, before, m, rows, g)
	}
}

// The example: an object whose pointer leads to itself, a handle to it: one node, whose field is 1; the handle is 1.
func TestExample(t *testing.T) {
	m := empty(16)
	m.Sp[0][0], m.Sp[0][2] = 0x01000001_00000001, 0x1_00000000
	g, e := view.Of(m, [][]uint64{{0x1_00000000}})
	h := api.Head{Tag: 1, Len: 1, Map: 1}
	if e != api.OK || len(g.Nodes) != 1 || g.Nodes[0].H != h || !slices.Equal(g.Nodes[0].F, []uint64{1}) || len(g.Stacks) != 1 || !slices.Equal(g.Stacks[0], []int{1}) {
		t.Errorf("Of: got %+v, %d", g, e)
	}
	if n := view.Words(m, [][]uint64{{0x1_00000000}}); n != 3 {
		t.Errorf("Words: got %d", n)
	}
	if !view.Alike(m, [][]uint64{{0x1_00000000}}, g) {
		t.Errorf("Alike: no")
	}
	k, rows, e := view.Put(g, 16, 0)
	if e != api.OK || !equal(k, m) || !level(rows, [][]uint64{{0x1_00000000}}) {
		t.Errorf("Put: got %x, %#x, %d", k, rows, e)
	}
}

// told is memory with objects in both spaces, that lead to each other, and to themselves, and with fillers: marked, so that each has a word for its twin that tells nothing.
//
// Here: at 0 pointers to itself, to nothing, and to that at 9; at 5 a filler of 4 words; at 9 a scalar (the address of that at 0), a pointer there, and a scalar (3); at 14 no fields;
// at 16 pointers into a ring there; at 20 one that leads to all that is no object. There: at 0 the ring's first (it leads to that at 3), at 3 the ring's second; at 6 one of 16 fields.
func told() api.Mem {
	m := marked(40)
	lay(m, here(0), pointers(3), here(0), 0, here(9))
	lay(m, here(5), filler(4))
	lay(m, here(9), both(), here(0), there(3), 3)
	lay(m, here(14), scalars(0))
	lay(m, here(16), pointers(2), there(0), there(0))
	lay(m, here(20), pointers(2), here(5), 7)
	lay(m, there(0), pointers(1), there(3))
	lay(m, there(3), pointers(1), there(0))
	lay(m, there(6), api.Head{Tag: 200, Len: 16, Map: 0x8001}, append(append([]uint64{here(14)}, 1, 2, 3, 4, 5, 6, 7, 8, 9, here(0), there(0), here(99), 1<<63, math.MaxUint64), here(9))...)
	return m
}

// P16.1: Of, as the document tells it; and how many words all that has.
func TestOfTold(t *testing.T) {
	none := node(scalars(0))
	// The ring, from its first on; that at 9 of here, ahead of the ring's second; that of 16 fields.
	ninth := func(to uint64) api.Node { return node(both(), here(0), to, 3) }
	long := node(api.Head{Tag: 200, Len: 16, Map: 0x8001}, 2, 1, 2, 3, 4, 5, 6, 7, 8, 9, here(0), there(0), here(99), 1<<63, math.MaxUint64, 3)
	for _, k := range []struct {
		rows  [][]uint64
		want  api.Graph
		words int
	}{
		// Without threads, without handles, with handles that are 0.
		{nil, drawn(nil), 0},
		{[][]uint64{}, drawn(nil), 0},
		{[][]uint64{nil}, drawn(nil, nil), 0},
		{[][]uint64{nil, {}, nil}, drawn(nil, nil, nil, nil), 0},
		{[][]uint64{{0}}, drawn(nil, []int{0}), 0},
		{[][]uint64{{0, 0}, nil, {0}}, drawn(nil, []int{0, 0}, nil, []int{0}), 0},
		// One object: twice, in one row and in two; with 0 around it.
		{[][]uint64{{here(14)}}, drawn([]api.Node{none}, []int{1}), 2},
		{[][]uint64{{here(14), here(14)}}, drawn([]api.Node{none}, []int{1, 1}), 2},
		{[][]uint64{{here(14)}, {here(14)}}, drawn([]api.Node{none}, []int{1}, []int{1}), 2},
		{[][]uint64{nil, {0, here(14), 0, here(14)}, nil, {here(14), 0}}, drawn([]api.Node{none}, nil, []int{0, 1, 0, 1}, nil, []int{1, 0}), 2},
		// A ring, begun at each of its objects, and at both.
		{[][]uint64{{there(0)}}, drawn([]api.Node{ring(2), ring(1)}, []int{1}), 6},
		{[][]uint64{{there(3)}}, drawn([]api.Node{ring(2), ring(1)}, []int{1}), 6},
		{[][]uint64{{there(3), there(0)}}, drawn([]api.Node{ring(2), ring(1)}, []int{1, 2}), 6},
		{[][]uint64{{there(3)}, {0, there(0), there(3)}}, drawn([]api.Node{ring(2), ring(1)}, []int{1}, []int{0, 2, 1}), 6},
		// An object that is reached twice, by two pointers and a handle.
		{[][]uint64{{here(16)}}, drawn([]api.Node{ring(2, 2), ring(3), ring(2)}, []int{1}), 10},
		{[][]uint64{{here(16), there(3)}}, drawn([]api.Node{ring(2, 2), ring(3), ring(2)}, []int{1, 3}), 10},
		{[][]uint64{{there(3), here(16)}}, drawn([]api.Node{ring(2), ring(1), ring(2, 2)}, []int{1, 3}), 10},
		// Scalars lead nowhere, though they look like addresses; an object leads to itself, to nothing, and to another one.
		{[][]uint64{{here(9)}}, drawn([]api.Node{ninth(2), ring(3), ring(2)}, []int{1}), 11},
		{[][]uint64{{here(0)}}, drawn([]api.Node{ring(1, 0, 2), ninth(3), ring(4), ring(3)}, []int{1}), 16},
		{[][]uint64{{here(14)}, {here(0), here(9)}}, drawn([]api.Node{none, ring(2, 0, 3), ninth(4), ring(5), ring(4)}, []int{1}, []int{2, 3}), 18},
		// Objects in both spaces, each followed by what it leads to.
		{[][]uint64{{there(6)}}, drawn([]api.Node{long, none, ninth(4), ring(5), ring(4)}, []int{1}), 31},
		{[][]uint64{{there(6)}, {there(0), here(9), 0, here(14)}}, drawn([]api.Node{long, none, ninth(4), ring(5), ring(4)}, []int{1}, []int{5, 3, 0, 2}), 31},
	} {
		if g, e := wantOf(t, told(), k.rows...); e != api.OK || !same(g, k.want) {
			t.Errorf("Of %#x: got %+v, %d, want %+v", k.rows, g, e, k.want)
		}
		if n := view.Words(told(), k.rows); n != k.words {
			t.Errorf("Words %#x: got %d, want %d", k.rows, n, k.words)
		}
	}
}

// nowhere are addresses at which there is no object in told memory: those of a filler, of words that aren't an object's first (of a twin, a field, what is no object's), of places that there are not, and what is no address.
func nowhere() []uint64 {
	l := []uint64{here(5), here(6), here(8), here(1), here(2), here(4), here(10), here(11), here(39), there(1), there(2), there(5), there(7), there(39)}
	for _, at := range []int{40, 41, 80, 4095, 4096, 1<<32 - 1} {
		l = append(l, here(at), there(at))
	}
	return append(l, 1, 2, 14, 40, 1<<32-1, address(2, 0), address(2, 14), address(3, 0), 1<<63, 1<<63+here(0), 1<<40+there(0), math.MaxUint64, first(scalars(0)))
}

// P16.1: ErrForm, of each handle, and of each pointer of an object that is reached, that leads nowhere; of what isn't reached nothing is asked.
func TestOfRefused(t *testing.T) {
	refused := func(m api.Mem, words int, rows ...[]uint64) {
		t.Helper()
		if g, e := wantOf(t, m, rows...); e != api.ErrForm || len(g.Nodes) != 0 || len(g.Stacks) != 0 {
			t.Fatalf("Of %#x: got %+v, %d", rows, g, e)
		}
		// What is reached has its words, also where there is no graph.
		if n := view.Words(m, rows); n != words {
			t.Fatalf("Words %#x: got %d, want %d", rows, n, words)
		}
		wantAlike(t, m, rows, api.Graph{}, false)
		wantAlike(t, m, rows, drawn(nil, make([][]int, len(rows))...), false)
		wantAlike(t, m, rows, drawn([]api.Node{node(scalars(0))}, []int{1}), false)
	}
	for _, a := range nowhere() {
		m := told()
		refused(m, 0, []uint64{a})
		refused(m, 0, []uint64{a, a})
		refused(m, 0, nil, []uint64{0, a})
		refused(m, 2, []uint64{here(14), a})
		refused(m, 2, []uint64{a, here(14)})
		refused(m, 2, []uint64{here(14)}, []uint64{a})
		refused(m, 2, []uint64{here(14)}, []uint64{a}, []uint64{0, here(14)})
		refused(m, 16, []uint64{a}, nil, []uint64{here(0)})
		// The pointers of objects that are reached by a handle, and by pointers; all pointers of a field's object; behind one that is nothing's, and behind one that is an object's.
		for _, k := range []struct {
			a     uint64
			i     int
			from  uint64
			words int
		}{
			{here(0), 0, here(0), 16}, {here(0), 1, here(0), 16}, {here(0), 2, here(0), 5}, {here(9), 1, here(9), 5}, {here(9), 1, here(0), 10}, {here(16), 0, here(16), 10}, {here(16), 1, here(16), 10},
			{there(0), 0, here(16), 7}, {there(3), 0, here(16), 10}, {there(3), 0, there(3), 3}, {there(6), 0, there(6), 29}, {there(6), 15, there(6), 20}, {there(0), 0, there(6), 31},
		} {
			m := told()
			fields(m, k.a)[k.i] = a
			refused(m, k.words, []uint64{k.from})
			refused(m, k.words, nil, []uint64{0, k.from}, []uint64{k.from})
			// As long as nobody reaches it, and in a scalar field, it may be what it likes.
			if _, e := wantOf(t, m, []uint64{here(14)}, []uint64{0}); e != api.OK {
				t.Errorf("Of what isn't reached: got %d", e)
			}
			if _, e := wantOf(t, m, nil); e != api.OK {
				t.Errorf("Of no handles: got %d", e)
			}
		}
		m = told()
		fields(m, here(9))[0], fields(m, here(9))[2], fields(m, there(6))[1] = a, a, a
		if _, e := wantOf(t, m, []uint64{here(0), there(6)}); e != api.OK {
			t.Errorf("Of the scalar %#x: got %d", a, e)
		}
	}
	refused(told(), 4, []uint64{here(20)})
	refused(told(), 20, []uint64{here(0), here(20)})
}

// P16.1: objects and fillers at the end of memory; what a head tells there may be too much.
func TestOfEdges(t *testing.T) {
	for _, words := range []int{16, 17, 4096} {
		for _, space := range []int{0, 1} {
			for n := range 15 {
				m := marked(words)
				at := words - n - 2
				fits := lay(m, address(space, at), scalars(n), slices.Repeat([]uint64{9}, n)...)
				if g, e := wantOf(t, m, []uint64{fits}); e != api.OK || !same(g, drawn([]api.Node{node(scalars(n), slices.Repeat([]uint64{9}, n)...)}, []int{1})) {
					t.Errorf("Of an object of %d fields at the end: got %+v, %d", n, g, e)
				}
				lay(m, address(space, at), scalars(n+1))
				if _, e := wantOf(t, m, []uint64{fits}); e != api.ErrForm {
					t.Errorf("Of an object of %d fields above the end: got %d", n+1, e)
				}
				lay(m, address(space, at), filler(n+2))
				if _, e := wantOf(t, m, []uint64{fits}); e != api.ErrForm {
					t.Errorf("Of a filler at the end: got %d", e)
				}
			}
			m := marked(words)
			for _, w := range []uint64{0, first(api.Head{Tag: 201}), first(api.Head{Tag: 1, Len: 17}), first(api.Head{Tag: 1, Len: 1, Map: 2}), first(api.Head{Tag: 255, Map: 1}), first(api.Head{Tag: 254}), math.MaxUint64} {
				m.Sp[space][0] = w
				if _, e := wantOf(t, m, []uint64{address(space, 0)}); e != api.ErrForm {
					t.Errorf("Of the word %#x: got %d", w, e)
				}
			}
		}
	}
	// Amid another one's words there may be an object, too: that's what At tells. Here a field is a head's word.
	m := marked(16)
	lay(m, here(0), scalars(3), first(pointers(1)), 5, here(0))
	want := drawn([]api.Node{ring(2), node(scalars(3), first(pointers(1)), 5, here(0))}, []int{1})
	if g, e := wantOf(t, m, []uint64{here(2)}); e != api.OK || !same(g, want) {
		t.Errorf("Of an object amid another one: got %+v, %d", g, e)
	}
	if n := view.Words(m, [][]uint64{{here(2)}}); n != 8 {
		t.Errorf("Words of an object amid another one: got %d", n)
	}
}

// P16.1: all pointers of four objects, and handles, over addresses of all kinds, in memory as short as can be.
func TestOfAllShort(t *testing.T) {
	l := []uint64{0, here(0), here(4), here(9), there(0), here(11), here(1), there(16), 9, address(2, 0)}
	rows := [][][]uint64{{{here(0)}}, {{there(0)}, {here(4)}}, {{here(4), 0}, nil, {here(0)}}, {nil, {0, here(9)}}, {{here(9), there(0)}, {there(0)}}, {{here(4)}, {here(11)}}}
	seen := map[api.Errno]int{}
	for n := range 10000 {
		m := empty(16)
		lay(m, here(0), pointers(2), l[n%10], l[n/10%10])
		lay(m, here(4), both(), here(9), l[n/100%10], here(1))
		lay(m, here(9), scalars(0))
		lay(m, here(11), filler(5))
		lay(m, there(0), pointers(1), l[n/1000])
		for _, handles := range rows {
			_, e := wantOf(t, m, handles...)
			seen[e]++
		}
	}
	if len(seen) != 2 || seen[api.OK] < 10000 || seen[api.ErrForm] < 10000 {
		t.Errorf("so many were answered so: %v", seen)
	}
}

// number is the next of a row of numbers all over, the same ones each time.
func number(seed *uint64, n int) int {
	*seed = *seed*6364136223846793005 + 1442695040888963407
	return int(*seed >> 33 % uint64(n))
}

// one of some.
func one[T any](l []T, seed *uint64) T { return l[number(seed, len(l))] }

// random is memory full of objects and fillers, side by side, whose pointers lead to objects, but for one of so many; and rows of handles to them.
func random(words, wrong int, seed *uint64) (api.Mem, [][]uint64) {
	m := marked(words)
	l := []uint64{0}
	for space := range 2 {
		for at := 0; at < words-20; {
			h := api.Head{Tag: 1 + number(seed, 200), Len: number(seed, 6)}
			h.Map = uint64(number(seed, 1<<h.Len))
			if number(seed, 6) == 0 {
				h = filler(1 + number(seed, 5))
			} else {
				l = append(l, address(space, at))
			}
			lay(m, address(space, at), h)
			at += long(h)
		}
	}
	lead := func() uint64 {
		if number(seed, wrong) == 0 {
			return address(number(seed, 3), number(seed, words+3))
		}
		return one(l, seed)
	}
	for _, a := range l[1:] {
		h, _ := known(m, a)
		for i := range h.Len {
			if fields(m, a)[i] = uint64(number(seed, 9)); pointer(h, i) || number(seed, 4) == 0 {
				fields(m, a)[i] = lead()
			}
		}
	}
	var rows [][]uint64
	for range number(seed, 5) {
		var row []uint64
		for range number(seed, 4) {
			row = append(row, lead())
		}
		rows = append(rows, row)
	}
	return m, rows
}

// P16.1 to P16.3: memory all over, held against the measure; what it has is put, and is alike then.
func TestMeasured(t *testing.T) {
	seen, nodes, lost := map[api.Errno]int{}, 0, 0
	for seed := range uint64(3000) {
		step := seed
		m, rows := random(24+number(&step, 80), 4+number(&step, 60), &step)
		g, e := wantOf(t, m, rows...)
		seen[e]++
		if e != api.OK {
			continue
		}
		nodes += len(g.Nodes)
		lost += m.Words*2 - view.Words(m, rows)
		words, space := max(16, total(g)), number(&step, 2)
		k, handles, e := wantPut(t, g, words, space)
		if e != api.OK || !view.Alike(k, handles, g) || !view.Alike(m, rows, g) {
			t.Fatalf("%d: Put of %+v: got %d", seed, g, e)
		}
		// What is put in the order in which it is reached is reached in that order.
		if then, _ := view.Of(k, handles); !same(then, g) {
			t.Fatalf("%d: got %+v, want %+v", seed, then, g)
		}
		if total(g) > 16 {
			if _, _, e := wantPut(t, g, total(g)-1, space); e != api.ErrFull {
				t.Fatalf("%d: Put of a word less: got %d", seed, e)
			}
		}
	}
	if len(seen) != 2 || seen[api.OK] < 500 || seen[api.ErrForm] < 500 || nodes < 3000 || lost < 3000 {
		t.Errorf("so many were answered so: %v, of so many nodes: %d; so many words aren't reached: %d", seen, nodes, lost)
	}
}

// P16.3: what isn't reached doesn't matter: each word of memory that is no head and no field of an object that is reached may be what it likes; each other one is told.
func TestEachWord(t *testing.T) {
	rows := [][]uint64{{here(0), 0}, nil, {here(14), there(3)}}
	inside := map[uint64]bool{}
	for _, a := range reached(told(), rows) {
		inside[a] = true
		h, _ := known(told(), a)
		for i := range h.Len {
			inside[a+2+uint64(i)] = true
		}
	}
	if len(inside) != 5+6+2 {
		t.Fatalf("so many words are told: %d", len(inside))
	}
	g, _ := wantOf(t, told(), rows...)
	for space := range 2 {
		for at := range 40 {
			a := address(space, at)
			for _, w := range []uint64{0, 1, 12345, here(0), here(5), there(3), there(99), first(scalars(2)), first(pointers(16)), first(filler(3)), math.MaxUint64} {
				m := told()
				if m.Sp[space][at] == w {
					continue
				}
				m.Sp[space][at] = w
				k, e := wantOf(t, m, rows...)
				if is := e == api.OK && same(k, g); is == inside[a] {
					t.Errorf("Of memory with %#x at %#x: got %+v, %d", w, a, k, e)
				}
				wantAlike(t, m, rows, g, !inside[a])
			}
		}
	}
}

// mixed is a graph with nodes of scalars, of pointers (one leads to itself), of both, of as many fields as can be, without fields, and with one that nothing reaches; and with threads of several handles, of those of nothing, and of none.
func mixed() api.Graph {
	many := node(api.Head{Tag: 200, Len: 16, Map: 0x8001}, slices.Repeat([]uint64{1<<63 + 9}, 16)...)
	many.F[0], many.F[15] = 3, 6
	return drawn([]api.Node{
		node(scalars(2), 5, math.MaxUint64), ring(2, 1), node(both(), 0, 4, 1), many, ring(1, 5, 0), node(scalars(0)), ring(7, 1, 0, 0),
	}, []int{4, 1, 0, 4, 6, 2}, nil, []int{0, 0}, []int{3, 5})
}

// renumbered is a graph whose nodes stand in another order: each at its new place.
func renumbered(g api.Graph, to []int) api.Graph {
	out := twice(g)
	became := func(n int) int {
		if n == 0 {
			return 0
		}
		return to[n-1] + 1
	}
	for i, n := range twice(g).Nodes {
		for f, v := range n.F {
			if pointer(n.H, f) {
				n.F[f] = uint64(became(int(v)))
			}
		}
		out.Nodes[to[i]] = n
	}
	for _, row := range out.Stacks {
		for i, h := range row {
			row[i] = became(h)
		}
	}
	return out
}

// P16.2: Alike of the graph itself, of its Canon, of the same nodes by other numbers, and with more that nothing reaches.
func TestAlike(t *testing.T) {
	for _, space := range []int{0, 1} {
		m, rows, _ := wantPut(t, mixed(), 100, space)
		wantAlike(t, m, rows, mixed(), true)
		wantAlike(t, m, rows, graph.Canon(mixed()), true)
		seed := uint64(3)
		for range 50 {
			to := []int{0, 1, 2, 3, 4, 5, 6}
			for i := range to {
				j := i + number(&seed, len(to)-i)
				to[i], to[j] = to[j], to[i]
			}
			k := renumbered(mixed(), to)
			wantAlike(t, m, rows, k, true)
			// What is put in another order is alike, too.
			other, handles, _ := wantPut(t, k, 80, 1-space)
			wantAlike(t, other, handles, mixed(), true)
		}
		more := mixed()
		more.Nodes = append(more.Nodes, ring(8, 1, 9), node(scalars(1), 8), ring(10))
		wantAlike(t, m, rows, more, true)
		// The node that nothing reaches may be what it likes, and be gone.
		more.Nodes[6] = node(scalars(1), 4)
		wantAlike(t, m, rows, more, true)
		more.Nodes = more.Nodes[:6]
		wantAlike(t, m, rows, more, true)
	}
	// Nothing is alike to nothing; a thread is another one than none.
	wantAlike(t, marked(16), nil, api.Graph{}, true)
	wantAlike(t, marked(16), nil, drawn(mixed().Nodes), true)
	wantAlike(t, marked(16), nil, drawn(nil, nil), false)
	wantAlike(t, marked(16), [][]uint64{nil}, api.Graph{}, false)
	wantAlike(t, marked(16), [][]uint64{{}}, drawn(mixed().Nodes, nil), true)
	wantAlike(t, marked(16), [][]uint64{{}}, drawn(nil, nil, nil), false)
	wantAlike(t, marked(16), [][]uint64{{0}}, drawn(nil, nil), false)
	wantAlike(t, marked(16), [][]uint64{{0}}, drawn(nil, []int{0}), true)
	wantAlike(t, marked(16), [][]uint64{{0}}, drawn(nil, []int{0, 0}), false)
}

// others are right graphs that are each another than mixed, by one thing that is reached.
func others() []api.Graph {
	change := func(f func(g *api.Graph)) api.Graph {
		g := mixed()
		f(&g)
		return g
	}
	var l []api.Graph
	for place, n := range mixed().Nodes[:6] {
		at := func(f func(n *api.Node)) api.Graph { return change(func(g *api.Graph) { f(&g.Nodes[place]) }) }
		l = append(l, at(func(n *api.Node) { n.H.Tag = n.H.Tag%200 + 1 }))
		if n.H.Len < 16 {
			l = append(l, at(func(n *api.Node) { n.H.Len, n.F = n.H.Len+1, append(n.F, 0) }))
		}
		if n.H.Len > 0 {
			l = append(l, at(func(n *api.Node) {
				n.H.Len, n.F = n.H.Len-1, n.F[:n.H.Len-1]
				n.H.Map &= 1<<n.H.Len - 1
			}))
		}
		for i := range n.F {
			if !pointer(n.H, i) {
				for bit := range 64 {
					l = append(l, at(func(n *api.Node) { n.F[i] ^= 1 << bit }))
				}
				l = append(l, at(func(n *api.Node) { n.H.Map, n.F[i] = n.H.Map|1<<i, 1 }), at(func(n *api.Node) { n.H.Map, n.F[i] = n.H.Map|1<<i, 0 }))
				continue
			}
			l = append(l, at(func(n *api.Node) { n.H.Map ^= 1 << i }))
			for v := range uint64(8) {
				if v != n.F[i] {
					l = append(l, at(func(n *api.Node) { n.F[i] = v }))
				}
			}
		}
	}
	for th, row := range mixed().Stacks {
		l = append(l,
			change(func(g *api.Graph) { g.Stacks = slices.Insert(g.Stacks, th, nil) }), change(func(g *api.Graph) { g.Stacks = slices.Delete(g.Stacks, th, th+1) }), change(func(g *api.Graph) { g.Stacks = slices.Insert(g.Stacks, th, []int{3}) }),
			change(func(g *api.Graph) { g.Stacks[th] = append(g.Stacks[th], 0) }), change(func(g *api.Graph) { g.Stacks[th] = append(g.Stacks[th], 2) }), change(func(g *api.Graph) { g.Stacks[th] = append(g.Stacks[th], 7) }),
		)
		for h := range row {
			l = append(l, change(func(g *api.Graph) { g.Stacks[th] = slices.Delete(g.Stacks[th], h, h+1) }))
			for v := range 8 {
				if v != row[h] {
					l = append(l, change(func(g *api.Graph) { g.Stacks[th][h] = v }))
				}
			}
		}
	}
	return append(l, change(func(g *api.Graph) { g.Stacks = append(g.Stacks, nil) }), change(func(g *api.Graph) { g.Stacks = g.Stacks[:3] }), change(func(g *api.Graph) { g.Stacks = nil }), change(func(g *api.Graph) { slices.Reverse(g.Stacks) }), api.Graph{})
}

// P16.2: Alike of graphs that differ in one thing: a head, a field, a handle, a thread; each put for itself, too.
func TestAlikeOfOthers(t *testing.T) {
	m, rows, _ := wantPut(t, mixed(), 4096, 1)
	for _, g := range others() {
		if !graph.Right(g) || same(canonical(g), canonical(mixed())) {
			t.Fatalf("that's no other graph: %+v", g)
		}
		wantAlike(t, m, rows, g, false)
		k, handles, e := wantPut(t, g, 100, 0)
		if e != api.OK {
			t.Fatalf("Put %+v: got %d", g, e)
		}
		wantAlike(t, k, handles, g, true)
		wantAlike(t, k, handles, mixed(), false)
	}
}

// P16.2: what Put refuses, in its order: each alone, and each two and three at once.
func TestPutRefused(t *testing.T) {
	// 17 words, 4097 words, and none.
	few := drawn([]api.Node{node(scalars(13), make([]uint64, 13)...), node(scalars(0))}, []int{2})
	many := drawn(append(slices.Repeat([]api.Node{node(scalars(16), make([]uint64, 16)...)}, 227), node(scalars(9), make([]uint64, 9)...)), []int{228})
	none := drawn(nil, nil, []int{0})
	if total(few) != 17 || total(many) != 4097 {
		t.Fatalf("so many words: %d, %d", total(few), total(many))
	}
	small := []int{math.MinInt, math.MinInt + 1, -1 << 32, -4096, -16, -1, 0, 1, 2, 14, 15}
	great := []int{4097, 4098, 65536, 1 << 31, 1<<32 + 16, 1<<32 + 4096, math.MaxInt - 1, math.MaxInt}
	wrong := []int{math.MinInt, -1 << 32, -2, -1, 2, 3, 16, 1 << 32, 1<<32 + 1, math.MaxInt}
	refused := func(g api.Graph, words, space int, want api.Errno) {
		t.Helper()
		before := twice(g)
		m, rows, e := view.Put(g, words, space)
		if e != want || m.Words != 0 || len(m.Sp[0]) != 0 || len(m.Sp[1]) != 0 || len(rows) != 0 {
			t.Errorf("Put of %d words, %d, %d: got memory of %d, %#x, %d, want %d", total(g), words, space, m.Words, rows, e, want)
		}
		if !same(g, before) {
			t.Errorf("Put: what was handed in was %+v, and is %+v", before, g)
		}
	}
	for _, g := range []api.Graph{few, many, none, {}} {
		for _, space := range append([]int{0, 1}, wrong...) {
			for _, words := range small {
				refused(g, words, space, api.ErrArg)
			}
			for _, words := range great {
				refused(g, words, space, api.ErrBig)
			}
		}
		for _, space := range wrong {
			for _, words := range []int{16, 17, 4096} {
				refused(g, words, space, api.ErrArg)
			}
		}
	}
	for _, space := range []int{0, 1} {
		refused(few, 16, space, api.ErrFull)
		for _, words := range []int{16, 17, 2000, 4095, 4096} {
			refused(many, words, space, api.ErrFull)
		}
		for _, words := range []int{17, 18, 4096} {
			if _, _, e := wantPut(t, few, words, space); e != api.OK {
				t.Errorf("Put of 17 words into %d: got %d", words, e)
			}
		}
		for _, words := range []int{16, 17, 4095, 4096} {
			if _, _, e := wantPut(t, none, words, space); e != api.OK {
				t.Errorf("Put of no nodes into %d: got %d", words, e)
			}
		}
	}
}

// P16.2: just as many words as the nodes have, one less and one more, of nodes of all lengths; that nothing reaches them doesn't matter.
func TestPutFits(t *testing.T) {
	for words := 16; words <= 70; words++ {
		for n := words - 1; n <= words+1; n++ {
			for last := 2; last <= 18; last++ {
				var g api.Graph
				for left := n; left > 0; {
					w := min(left, last)
					if left-w == 1 {
						w = max(2, w-1)
					}
					if left-w == 1 { // what is left is 3, and nodes have 2 words: the last one has 3
						w = 3
					}
					g.Nodes = append(g.Nodes, node(scalars(w-2), make([]uint64, w-2)...))
					left -= w
				}
				if total(g) != n {
					t.Fatalf("nodes of %d words: %d", n, total(g))
				}
				want := api.OK
				if n > words {
					want = api.ErrFull
				}
				g.Stacks = [][]int{nil, {0}}
				for _, space := range []int{0, 1} {
					if _, _, e := wantPut(t, g, words, space); e != want {
						t.Fatalf("Put of %d words into %d: got %d", n, words, e)
					}
				}
				g.Stacks = nil
				if _, _, e := wantPut(t, g, words, 0); e != want {
					t.Fatalf("Put of %d words into %d, without threads: got %d", n, words, e)
				}
			}
		}
	}
}

// P16.2: where objects and handles are put, word by word.
func TestPutTold(t *testing.T) {
	g := drawn([]api.Node{ring(3, 0, 1), node(scalars(0)), node(api.Head{Tag: 7, Len: 3, Map: 4}, 1, 0, 2), node(scalars(1), 3)}, []int{3, 0, 1, 3}, nil, []int{2})
	for _, space := range []int{0, 1} {
		a := func(at int) uint64 { return uint64(space+1)<<32 + uint64(at) }
		want := empty(20)
		copy(want.Sp[space], []uint64{
			0xc5_000003_00000007, 0, a(7), 0, a(0), 0x01_000000_00000000, 0, 0x07_000003_00000004, 0, 1, 0, a(5), 0x02_000001_00000000, 0, 3,
		})
		m, rows, e := wantPut(t, g, 20, space)
		if e != api.OK || !equal(m, want) || !level(rows, [][]uint64{{a(7), 0, a(0), a(7)}, nil, {a(5)}}) {
			t.Errorf("Put into %d: got %x, %#x, %d", space, m, rows, e)
		}
		for _, at := range []int{0, 5, 7, 12} {
			if b, e := object.Twin(m, a(at)); b != 0 || e != api.OK {
				t.Errorf("the twin of what is put at %d: got %#x, %d", at, b, e)
			}
		}
		// The node that no handle reaches is put, but not told.
		if k, e := view.Of(m, rows); e != api.OK || !same(k, drawn([]api.Node{node(api.Head{Tag: 7, Len: 3, Map: 4}, 1, 0, 2), node(scalars(0)), ring(1, 0, 3)}, []int{1, 0, 3, 1}, nil, []int{2})) {
			t.Errorf("Of what was put: got %+v, %d", k, e)
		}
		if n := view.Words(m, rows); n != 12 {
			t.Errorf("Words of what was put: got %d", n)
		}
		if k, e := view.Of(m, [][]uint64{{a(12)}}); e != api.OK || !same(k, drawn([]api.Node{node(scalars(1), 3)}, []int{1})) {
			t.Errorf("Of what was put at 12: got %+v, %d", k, e)
		}
		// Nodes without threads, threads without nodes, and nothing.
		g.Stacks = nil
		if m, rows, e := wantPut(t, g, 20, space); e != api.OK || !equal(m, want) || len(rows) != 0 {
			t.Errorf("Put of no threads: got %x, %#x, %d", m, rows, e)
		}
		g.Stacks = [][]int{{3, 0, 1, 3}, nil, {2}}
		if m, rows, e := wantPut(t, drawn(nil, nil, []int{0, 0}), 16, space); e != api.OK || !equal(m, empty(16)) || !level(rows, [][]uint64{nil, {0, 0}}) {
			t.Errorf("Put of no nodes: got %x, %#x, %d", m, rows, e)
		}
		if m, rows, e := wantPut(t, api.Graph{}, 4096, space); e != api.OK || !equal(m, empty(4096)) || len(rows) != 0 {
			t.Errorf("Put of nothing: got memory of %d, %#x, %d", m.Words, rows, e)
		}
	}
}

// P16.2, P16.3: all graphs of two nodes of two fields each, and two threads of up to one handle, put into the shortest memory.
func TestPutAllShort(t *testing.T) {
	heads := []api.Head{pointers(2), {Tag: 1, Len: 2, Map: 1}, {Tag: 1, Len: 2, Map: 2}, scalars(2)}
	rows := [][]int{nil, {0}, {1}, {2}}
	for n := range 4 * 4 * 81 * 16 {
		g := drawn([]api.Node{node(heads[n%4], uint64(n/16%3), uint64(n/48%3)), node(heads[n/4%4], uint64(n/144%3), uint64(n/432%3))}, rows[n/1296%4], rows[n/5184%4])
		wantPut(t, g, 16, n%2)
	}
}

// R1: as much as memory can have: a ring through both spaces, and a whole space of what leads to all around it.
func TestFull(t *testing.T) {
	m := empty(4096)
	var want api.Graph
	const n = 1365 // objects of 3 words a space
	for i := range 2 * n {
		next := (i + 1) % (2 * n)
		lay(m, address(i%2, i/2*3), pointers(1), address(next%2, next/2*3))
		want.Nodes = append(want.Nodes, ring(uint64(next+1)))
	}
	want.Stacks = [][]int{{1, 2 * n}}
	rows := [][]uint64{{here(0), address(1, 3*n-3)}}
	if g, e := wantOf(t, m, rows...); e != api.OK || !same(g, want) {
		t.Errorf("Of a ring through both spaces: got %d nodes, %d", len(g.Nodes), e)
	}
	if got := view.Words(m, rows); got != 6*n {
		t.Errorf("Words of a ring through both spaces: got %d", got)
	}
	wantAlike(t, m, rows, want, true)
	if _, _, e := wantPut(t, want, 4096, 0); e != api.ErrFull {
		t.Errorf("Put of what both spaces have: got %d", e)
	}
	var g api.Graph
	for i := range 227 {
		k := node(pointers(16))
		for f := range 16 {
			k.F = append(k.F, uint64((i*(f+1)+f)%228+1))
		}
		g.Nodes = append(g.Nodes, k)
	}
	g.Nodes = append(g.Nodes, ring(1, 2, 3, 4, 5, 0, 228, 227)) // the last 10 words of 4096
	g.Stacks = slices.Repeat([][]int{{1, 228, 7}}, 40)
	for _, space := range []int{0, 1} {
		if k, rows, e := wantPut(t, g, 4096, space); e != api.OK || len(rows) != 40 || !view.Alike(k, rows, g) {
			t.Errorf("Put of a whole space: got %d", e)
		}
		if _, _, e := wantPut(t, g, 4095, space); e != api.ErrFull {
			t.Errorf("Put of a word more than there is: got %d", e)
		}
	}
}

// R3: what comes out of Of is one's own: later calls on it, and what is written into its lists, or behind them, are seen neither in what was handed in nor in each other.
func TestGraphsAreValues(t *testing.T) {
	m, rows := told(), [][]uint64{{here(0), 0}, {there(6)}, {here(0), here(14)}}
	g, _ := view.Of(m, rows)
	was := twice(g)
	for kind := 1; kind <= 11; kind++ {
		then, _ := graph.Do(g, 0, api.Op{Kind: kind, New: scalars(2), V: 9})
		graph.Do(then, 1, api.Op{Kind: kind, H: 1, New: scalars(2), V: 9})
	}
	graph.Canon(g)
	view.Put(g, 100, 0)
	view.Alike(m, rows, g)
	if !same(g, was) {
		t.Fatalf("behind later calls on it: %+v, it was %+v", g, was)
	}
	check := func(back api.Graph) {
		t.Helper()
		if !same(g, back) || !equal(m, told()) || !level(rows, [][]uint64{{here(0), 0}, {there(6)}, {here(0), here(14)}}) {
			t.Fatalf("behind what was written into it: %+v, %x, %#x", g, m, rows)
		}
	}
	for i := range g.Nodes {
		grown := append(g.Nodes[i].F, 98)
		for f := range grown {
			grown[f]++
		}
		back := twice(was)
		back.Nodes[i].F = g.Nodes[i].F
		check(back)
		copy(g.Nodes[i].F, was.Nodes[i].F)
	}
	for i := range g.Stacks {
		grown := append(g.Stacks[i], 98)
		for h := range grown {
			grown[h]++
		}
		back := twice(was)
		back.Stacks[i] = g.Stacks[i]
		check(back)
		copy(g.Stacks[i], was.Stacks[i])
	}
	// And what is written into what was handed in isn't seen in what came out.
	clear(m.Sp[0])
	clear(m.Sp[1])
	clear(rows[0])
	clear(rows)
	if !same(g, was) {
		t.Fatalf("behind what was written into what was handed in: %+v, it was %+v", g, was)
	}
}

// R3: likewise of what comes out of Put.
func TestMemoriesAreValues(t *testing.T) {
	g := mixed()
	m, rows, _ := view.Put(g, 100, 0)
	mem, handles := again(m), copied(rows)
	k, others, _ := view.Put(g, 100, 0)
	then, _ := arena.Store(m, here(3), 7)
	then, _ = object.Put(then, here(20), scalars(3))
	then, _, _ = object.Join(then, here(0), there(0))
	then, _ = object.Set(then, here(0), 0, 9)
	arena.Clear(then, 0)
	view.Of(then, rows)
	view.Words(then, rows)
	view.Alike(then, rows, g)
	if !equal(m, mem) || !level(rows, handles) || !same(g, mixed()) {
		t.Fatalf("behind later calls on it: %x, %#x, %+v, it was %x, %#x", m, rows, g, mem, handles)
	}
	for i := range rows {
		grown := append(rows[i], 98)
		for h := range grown {
			grown[h]++
		}
		back := copied(handles)
		back[i] = rows[i]
		if !level(rows, back) || !same(g, mixed()) || !level(others, handles) {
			t.Fatalf("behind what was written into the handles of %d: %#x, %+v, %#x", i, rows, g, others)
		}
		copy(rows[i], handles[i])
	}
	for space := range 2 {
		grown := append(m.Sp[space], 98)
		for at := range grown {
			grown[at]++
		}
		back := again(mem)
		back.Sp[space] = m.Sp[space]
		if !equal(m, back) || !same(g, mixed()) || !equal(k, mem) {
			t.Fatalf("behind what was written into the space %d: %x, %+v, %x", space, m, g, k)
		}
		copy(m.Sp[space], mem.Sp[space])
	}
	for i := range g.Nodes {
		clear(g.Nodes[i].F)
	}
	for _, row := range g.Stacks {
		clear(row)
	}
	clear(g.Nodes)
	clear(g.Stacks)
	if !equal(m, mem) || !level(rows, handles) {
		t.Fatalf("behind what was written into the graph: %x, %#x, it was %x, %#x", m, rows, mem, handles)
	}
}

// R4: the same once more, whatever was called between.
func TestSameOnceMore(t *testing.T) {
	m, rows := told(), [][]uint64{{here(0)}, {there(6), 0}}
	g, e := view.Of(m, rows)
	k, handles, f := view.Put(mixed(), 60, 1)
	for space := range 2 {
		view.Put(g, 200+space, space)
		view.Put(mixed(), 1, space)
		view.Of(m, [][]uint64{{here(5)}})
		view.Of(k, handles)
		view.Alike(k, rows, g)
		view.Words(k, handles)
		if h, again := view.Of(m, rows); again != e || !same(h, g) {
			t.Errorf("Of once more: got %+v, %d, and %+v, %d", g, e, h, again)
		}
		if l, row, again := view.Put(mixed(), 60, 1); again != f || !equal(l, k) || !level(row, handles) {
			t.Errorf("Put once more: got %x, %#x, %d, and %x, %#x, %d", k, handles, f, l, row, again)
		}
		if n := view.Words(m, rows); n != 16+20 {
			t.Errorf("Words once more: got %d", n)
		}
	}
}

// R1: of memory and of graphs that aren't right nothing is promised, but that every call ends, and that what was handed in is as it was.
func TestEveryCallEnds(t *testing.T) {
	graphs := []api.Graph{
		{Nodes: []api.Node{{H: pointers(2), F: []uint64{9, math.MaxUint64, 3}}, {H: api.Head{Tag: -1, Len: math.MaxInt, Map: math.MaxUint64}, F: make([]uint64, 70)}, {H: api.Head{Len: math.MinInt}}}, Stacks: [][]int{{1, 2, 3, 4, 5, -1, math.MinInt, math.MaxInt}}},
		{Nodes: []api.Node{{H: filler(9), F: []uint64{1}}, {H: pointers(3)}, {H: api.Head{Tag: 255, Len: math.MaxInt - 1}}}, Stacks: [][]int{{-1}, {9}}},
		{Nodes: []api.Node{{H: api.Head{Tag: 1, Len: -1}, F: []uint64{5}}, {H: scalars(1), F: []uint64{1, 2}}, {H: api.Head{Tag: 255, Len: -7}}}, Stacks: [][]int{{1, 2, 3}}},
		{Nodes: slices.Repeat([]api.Node{{H: api.Head{Tag: 255, Len: math.MaxInt - 1}}}, 3)}, {Nodes: slices.Repeat([]api.Node{{}}, 3000)},
	}
	mems := []api.Mem{{}, {Words: math.MaxInt}, {Words: -1}, {Words: 16, Sp: [2][]uint64{told().Sp[0][:16], nil}}, {Words: 1 << 40, Sp: told().Sp}, {Words: 20, Sp: told().Sp}, {Words: 40, Sp: [2][]uint64{told().Sp[0][:10], told().Sp[1][:4]}}}
	for i, g := range graphs {
		before := twice(g)
		for _, words := range []int{-1, 16, 40, 4096, math.MaxInt} {
			for _, space := range []int{-1, 0, 1, 2} {
				view.Put(g, words, space)
			}
		}
		for _, m := range append(mems, told()) {
			was := again(m)
			for at := -1; at < 45; at++ {
				rows := [][]uint64{{here(at)}, {there(at), uint64(i)}}
				view.Of(m, rows)
				view.Words(m, rows)
				view.Alike(m, rows, g)
			}
			if !equal(m, was) {
				t.Fatalf("memory was %x, and is %x", was, m)
			}
		}
		if !same(g, before) {
			t.Fatalf("what was handed in was %+v, and is %+v", before, g)
		}
	}
}
