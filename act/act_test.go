package act_test

import (
	"math"
	"slices"
	"testing"

	"dovecote/act"
	"dovecote/api"
	"dovecote/graph"
	"dovecote/view"
)

// Numbers far outside of all that may be.
var far = []int{math.MinInt, math.MinInt + 1, -1 << 32, -65536, -4096, -2, 4097 + 1, 65536, 1<<31 - 1, 1 << 31, 1<<32 - 1, 1 << 32, 1<<32 + 1, math.MaxInt - 1, math.MaxInt}

// address is the measure: told by whole numbers, not by the layers below. So are all measures here.
func address(space, at int) uint64 { return uint64(space+1)*4294967296 + uint64(at) }

// here and there are addresses in the spaces 0 and 1.
func here(at int) uint64  { return address(0, at) }
func there(at int) uint64 { return address(1, at) }

// first is a head's word.
func first(h api.Head) uint64 {
	return uint64(h.Tag)*72057594037927936 + uint64(h.Len)*4294967296 + h.Map
}

// scalars is the head of an object of so many fields, none of which is a pointer.
func scalars(n int) api.Head { return api.Head{Tag: n + 1, Len: n} }

// pointers is the head of an object all fields of which are pointers.
func pointers(n int) api.Head { return api.Head{Tag: 200 - n, Len: n, Map: 1<<n - 1} }

// both is the head of an object of a scalar, a pointer and a scalar.
func both() api.Head { return api.Head{Tag: 77, Len: 3, Map: 2} }

// filler is the head of a filler of so many words.
func filler(n int) api.Head { return api.Head{Tag: 255, Len: n - 1} }

// object: is a head an object's?
func object(h api.Head) bool {
	return h.Tag >= 1 && h.Tag <= 200 && h.Len >= 0 && h.Len <= 16 && h.Map>>h.Len == 0
}

// pointer: is a field of a head one?
func pointer(h api.Head, i int) bool { return h.Map>>i%2 == 1 }

// marked is memory in which no two words are the same, none is 0, none is a head's, and none an address.
func marked(words int) api.Mem {
	m := api.Mem{Words: words}
	for space := range 2 {
		for at := range words {
			m.Sp[space] = append(m.Sp[space], uint64(space)<<63+uint64(1000+at))
		}
	}
	return m
}

// at are the words of memory from an address on.
func at(m api.Mem, a uint64) []uint64 { return m.Sp[a/4294967296-1][a%4294967296:] }

// lay writes an object's head and its fields into memory itself: the word of its twin, and all that isn't told, is what was there.
func lay(m api.Mem, a uint64, h api.Head, fields ...uint64) uint64 {
	at(m, a)[0] = first(h)
	for i, v := range fields {
		at(m, a)[2+i] = v
	}
	return a
}

// known is the head of the object at an address, and whether there is one that is no filler.
func known(m api.Mem, a uint64) (api.Head, bool) {
	space, place := a/4294967296, a%4294967296
	if space != 1 && space != 2 || place >= uint64(m.Words) {
		return api.Head{}, false
	}
	w := at(m, a)[0]
	h := api.Head{Tag: int(w / 72057594037927936), Len: int(w / 4294967296 % 16777216), Map: w % 4294967296}
	return h, object(h) && int(place)+h.Len+2 <= m.Words
}

// parts are those of a word's number.
func parts(w uint64) (int, int) {
	part := func(n uint64) int {
		if n >= 32768 {
			return int(n) - 65536
		}
		return int(n)
	}
	return part(w / 65536 % 65536), part(w % 65536)
}

// packed is the word of two parts.
func packed(re, im int) uint64 {
	round := func(n int) uint64 { return uint64((n%65536 + 65536) % 65536) }
	return round(re)*65536 + round(im)
}

// sum is what OAdd makes of a field.
func sum(a, b uint64) uint64 {
	x, y := parts(a)
	u, v := parts(b)
	return packed(x+u, y+v)
}

// product is what OMul makes of a field.
func product(a, b uint64) uint64 {
	x, y := parts(a)
	u, v := parts(b)
	return packed(x*u-y*v, x*v+y*u)
}

// again is memory once more, which shares nothing with it.
func again(m api.Mem) api.Mem {
	for space, l := range m.Sp {
		m.Sp[space] = slices.Clone(l)
	}
	return m
}

// longer is a row once more, that stands in a longer one: so many zeros are behind it.
func longer[T any](l []T) []T { return append(slices.Clip(l), make([]T, 3)...)[:len(l)] }

// behind are what stands behind a row that longer made.
func behind[T any](l []T) []T { return l[len(l) : len(l)+3] }

// twice is a heap once more, which shares nothing with it.
func twice(h api.Heap) api.Heap {
	h.M = again(h.M)
	h.Threads, h.Order = slices.Clone(h.Threads), slices.Clone(h.Order)
	for i, t := range h.Threads {
		h.Threads[i].Stack, h.Threads[i].Log, h.Threads[i].Left = slices.Clone(t.Stack), slices.Clone(t.Log), slices.Clone(t.Left)
		h.Threads[i].Pend, h.Threads[i].Done = slices.Clone(t.Pend), slices.Clone(t.Done)
	}
	return h
}

// roomy is a heap once more, all rows of which stand in longer ones.
func roomy(h api.Heap) api.Heap {
	for space, l := range h.M.Sp {
		h.M.Sp[space] = longer(l)
	}
	h.Threads, h.Order = longer(h.Threads), longer(h.Order)
	for i, t := range h.Threads {
		h.Threads[i].Stack, h.Threads[i].Log, h.Threads[i].Left, h.Threads[i].Pend, h.Threads[i].Done = longer(t.Stack), longer(t.Log), longer(t.Left), longer(t.Pend), longer(t.Done)
	}
	return h
}

// clean: is there still nothing behind the rows of a heap that roomy made?
func clean(h api.Heap) bool {
	is := slices.Equal(behind(h.M.Sp[0]), make([]uint64, 3)) && slices.Equal(behind(h.M.Sp[1]), make([]uint64, 3)) && slices.Equal(behind(h.Order), make([]int, 3))
	for _, t := range behind(h.Threads) {
		is = is && level(t, api.Thread{})
	}
	for _, t := range h.Threads {
		is = is && slices.Equal(behind(t.Stack), make([]uint64, 3)) && slices.Equal(behind(t.Log), make([]api.Entry, 3)) && slices.Equal(behind(t.Left), make([]api.Op, 3))
		is = is && slices.Equal(behind(t.Pend), make([]api.Entry, 3)) && slices.Equal(behind(t.Done), make([]api.Answer, 3))
	}
	return is
}

// level: are two threads the same?
func level(t, k api.Thread) bool {
	return slices.Equal(t.Stack, k.Stack) && t.Buf == k.Buf && slices.Equal(t.Log, k.Log) && slices.Equal(t.Left, k.Left) &&
		slices.Equal(t.Pend, k.Pend) && t.Want == k.Want && slices.Equal(t.Done, k.Done)
}

// same is the measure of Same.
func same(h, k api.Heap) bool {
	if h.M.Words != k.M.Words || !slices.Equal(h.M.Sp[0], k.M.Sp[0]) || !slices.Equal(h.M.Sp[1], k.M.Sp[1]) || len(h.Threads) != len(k.Threads) {
		return false
	}
	for i, t := range h.Threads {
		if !level(t, k.Threads[i]) {
			return false
		}
	}
	return h.From == k.From && h.To == k.To && h.Size == k.Size && h.Log == k.Log && h.Phase == k.Phase && h.Scan == k.Scan &&
		h.Flips == k.Flips && slices.Equal(h.Order, k.Order) && h.Broken == k.Broken
}

// right is the measure of Right.
func right(h api.Heap) bool {
	words := h.M.Words
	is := words >= 16 && words <= 4096 && len(h.M.Sp[0]) == words && len(h.M.Sp[1]) == words
	is = is && (h.From.Space == 0 && h.To.Space == 1 || h.From.Space == 1 && h.To.Space == 0)
	is = is && h.From.Limit == words && h.To.Limit == words && h.From.At >= 0 && h.From.At <= words && h.To.At >= 0 && h.To.At <= words
	is = is && h.Size >= 0 && h.Size <= 4096 && h.Log >= 1 && h.Log <= 64 && len(h.Threads) >= 1 && len(h.Threads) <= 4
	for _, t := range h.Threads {
		empty := t.Buf.At == 0 && t.Buf.End == 0
		is = is && (empty || t.Buf.At >= 0 && t.Buf.At <= t.Buf.End && t.Buf.End <= h.From.At) && len(t.Pend) < 2
	}
	return is && (h.Phase == 0 || h.Phase == 1 || h.Phase == 2) && h.Scan >= 0 && h.Scan <= h.To.At
}

// writes is the measure of Writes.
func writes(o api.Op) bool { return o.Kind >= 4 && o.Kind <= 7 }

// can is the measure of Can.
func can(h api.Heap, th int) bool {
	if th < 0 || th > len(h.Threads)-1 || h.Broken != 0 {
		return false
	}
	t := h.Threads[th]
	if len(t.Pend) != 0 {
		return true
	}
	if len(t.Left) == 0 || t.Want || h.Phase == 2 {
		return false
	}
	return h.Phase != 1 || !writes(t.Left[0]) || len(t.Log) < h.Log
}

// held is a handle, or why there is none.
func held(row []uint64, h int) (uint64, api.Errno) {
	if h < 0 || h >= len(row) {
		return 0, api.ErrHandle
	}
	return row[h], api.OK
}

// cause is the first of some that is one.
func cause(l ...api.Errno) api.Errno {
	for _, e := range l {
		if e != api.OK {
			return e
		}
	}
	return api.OK
}

// refusal is what is refused of an operation, by a thread with such handles.
func refusal(m api.Mem, row []uint64, o api.Op) api.Errno {
	full := api.OK
	if len(row) > 15 {
		full = api.ErrFull
	}
	a, noH := held(row, o.H)
	_, noK := held(row, o.K)
	switch {
	case o.Kind < 1 || o.Kind > 11 || o.Kind == 1 && !object(o.New):
		return api.ErrArg
	case o.Kind == 1:
		return full
	case o.Kind == 8:
		return cause(noH, noK)
	case o.Kind == 9:
		return cause(noH, full)
	case o.Kind == 10 && len(row) == 0:
		return api.ErrEmpty
	case o.Kind == 10 || o.Kind == 11:
		return api.OK
	case noH != api.OK:
		return noH
	case a == 0:
		return api.ErrNull
	}
	h, is := known(m, a)
	switch {
	case !is:
		return api.ErrForm
	case o.I < 0 || o.I >= h.Len:
		return api.ErrField
	case pointer(h, o.I) != (o.Kind == 3 || o.Kind == 5):
		return api.ErrKind
	case o.Kind == 3:
		return full
	case o.Kind == 5:
		return noK
	}
	return api.OK
}

// made makes an object for a thread, in a heap that is written into: its address, or 0, if there is no room for it.
func made(h *api.Heap, th int, k api.Head) uint64 {
	t := &h.Threads[th]
	n, left, space := k.Len+2, h.From.Limit-h.From.At, h.From.Space
	put := func(place int) uint64 {
		clear(h.M.Sp[space][place : place+n])
		return lay(h.M, address(space, place), k)
	}
	if t.Buf.End-t.Buf.At < n {
		if h.Size < n+n {
			if left < n {
				return 0
			}
			h.From.At += n
			return put(h.From.At - n)
		}
		if t.Buf.End > t.Buf.At {
			lay(h.M, address(space, t.Buf.At), filler(t.Buf.End-t.Buf.At))
		}
		t.Buf = api.Buf{At: 0, End: 0}
		if left < n {
			return 0
		}
		t.Buf.At = h.From.At
		h.From.At += min(left, h.Size)
		t.Buf.End = h.From.At
	}
	t.Buf.At += n
	return put(t.Buf.At - n)
}

// answered is the measure of Answer.
func answered(h api.Heap, th int, a api.Answer) api.Heap {
	if th < 0 || th > len(h.Threads)-1 {
		return h
	}
	h = twice(h)
	t := &h.Threads[th]
	t.Done = append(t.Done, a)
	if len(t.Left) > 0 {
		t.Left = t.Left[1:]
	}
	h.Order = append(h.Order, th)
	return h
}

// done is the measure of Do, of right heaps.
func done(h api.Heap, th int) api.Heap {
	if !can(h, th) {
		return h
	}
	h = twice(h)
	t := &h.Threads[th]
	if len(t.Pend) == 1 {
		t.Log = append(t.Log, t.Pend[0])
		t.Pend = nil
		return h
	}
	o := t.Left[0]
	if e := refusal(h.M, t.Stack, o); e != api.OK {
		return answered(h, th, api.Answer{E: e})
	}
	var a api.Answer
	obj, _ := held(t.Stack, o.H)
	to, _ := held(t.Stack, o.K)
	field := func() *uint64 { return &at(h.M, obj)[2+o.I] }
	switch o.Kind {
	case 1:
		b := made(&h, th, o.New)
		if b == 0 {
			t.Want = true
			return h
		}
		t.Stack = append(t.Stack, b)
	case 2:
		a.V = *field()
	case 3:
		t.Stack = append(t.Stack, *field())
	case 4:
		*field() = o.V
	case 5:
		*field() = to
	case 6:
		*field() = sum(*field(), o.V)
	case 7:
		*field() = product(*field(), o.V)
	case 8:
		a.Yes = obj == to
	case 9:
		t.Stack = append(t.Stack, obj)
	case 10:
		t.Stack = t.Stack[:len(t.Stack)-1]
	case 11:
		t.Want = true
		return h
	}
	if writes(o) && h.Phase == 1 {
		t.Pend = []api.Entry{{Obj: obj, Field: o.I}}
	}
	return answered(h, th, a)
}

// rows are all threads' handles.
func rows(h api.Heap) [][]uint64 {
	var l [][]uint64
	for _, t := range h.Threads {
		l = append(l, t.Stack)
	}
	return l
}

// wantGraph holds what a thread did against the graph that memory had, if it had one (P17.3).
func wantGraph(t *testing.T, h api.Heap, th int, then api.Heap) {
	t.Helper()
	g, e := view.Of(h.M, rows(h))
	if e != api.OK {
		return
	}
	k, e := view.Of(then.M, rows(then))
	was, is := h.Threads[th], then.Threads[th]
	// Who logs, or has to wait, changes nothing of the graph, and isn't answered.
	if len(was.Pend) == 0 && !is.Want {
		var a api.Answer
		g, a = graph.Do(g, th, was.Left[0])
		if len(is.Done) != len(was.Done)+1 || is.Done[len(was.Done)] != a {
			t.Fatalf("Do(%+v, %d): answered %+v, the graph answers %+v", h, th, is.Done, a)
		}
	} else if len(is.Done) != len(was.Done) {
		t.Fatalf("Do(%+v, %d): answered %+v", h, th, is.Done)
	}
	if e != api.OK || !graph.Same(k, graph.Canon(g)) {
		t.Fatalf("Do(%+v, %d): got the graph %+v, %d, want %+v", h, th, k, e, graph.Canon(g))
	}
}

// wantDo holds Do and Can of a right heap against their measures, what was handed in against what it was, and what came out against all that must be the same.
func wantDo(t *testing.T, h api.Heap, th int) api.Heap {
	t.Helper()
	if !right(h) {
		t.Fatalf("that heap isn't right: %+v", h)
	}
	given, want := roomy(h), done(h, th)
	is := act.Can(given, th)
	got := act.Do(given, th)
	if is != can(h, th) {
		t.Fatalf("Can(%+v, %d): got %v", h, th, is)
	}
	if !same(got, want) || !act.Same(got, want) {
		t.Fatalf("Do(%+v, %d): got %+v, want %+v", h, th, got, want)
	}
	if !same(given, h) || !clean(given) {
		t.Fatalf("Do(%d): what was handed in was %+v, and is %+v", th, h, given)
	}
	if !act.Right(given) || !right(got) || !act.Right(got) {
		t.Fatalf("Do(%+v, %d): a right heap becomes %+v", h, th, got)
	}
	for i, k := range got.Threads {
		if i != th && !level(k, h.Threads[i]) {
			t.Fatalf("Do(%+v, %d): the thread %d is %+v then", h, th, i, k)
		}
	}
	if !is {
		if !same(got, h) {
			t.Fatalf("Do(%+v, %d): it can't, and got %+v", h, th, got)
		}
		return got
	}
	wantGraph(t, h, th, got)
	return got
}

// told is a heap of four threads, whose objects are in a space; they lead to each other, and have marked words for their twins.
//
// At 0 a scalar (7), a pointer to that at 5, and a scalar; at 5 pointers to nothing, and to that at 0; at 9 two scalars; at 13 a filler of 4 words; at 17 no fields; at 19 16 fields, of
// which the first and the last one lead to those at 9 and 17; at 37 a pointer into the other space; at 62 one that doesn't fit. In the other space there is a pointer to nothing, at 0.
//
// The first thread has handles of all these, of nothing, of places where no object is, and of no places; the second one a piece of 8 words, three handles, and two entries in its log;
// the third one as many handles as may be; the fourth one a piece of 8 words, and none.
func told(space int) api.Heap {
	a := func(at int) uint64 { return address(space, at) }
	b := func(at int) uint64 { return address(1-space, at) }
	m := marked(64)
	lay(m, a(0), both(), 7, a(5), 1<<63+5)
	lay(m, a(5), pointers(2), 0, a(0))
	lay(m, a(9), scalars(2), packed(3, -4), math.MaxUint64)
	lay(m, a(13), filler(4))
	lay(m, a(17), scalars(0))
	lay(m, a(19), api.Head{Tag: 200, Len: 16, Map: 0x8001}, a(9), 1, 2, 3, 4, 5, 6, 7, 8, 9, 10, 11, 12, 13, 14, a(17))
	lay(m, a(37), pointers(1), b(0))
	lay(m, a(62), scalars(1))
	lay(m, b(0), pointers(1), 0)
	handles := []uint64{a(0), a(5), 0, a(9), a(17), a(19), a(0), a(37), b(0), a(13), a(1), a(62), a(64)}
	return api.Heap{
		M: m, From: api.Bump{Space: space, At: 56, Limit: 64}, To: api.Bump{Space: 1 - space, At: 3, Limit: 64}, Size: 8, Log: 3, Scan: 2, Flips: 5, Order: []int{1, 0, 0, 3},
		Threads: []api.Thread{
			{Stack: handles, Done: []api.Answer{{V: 9}, {E: api.ErrKind}}},
			{Stack: []uint64{a(19), 0, a(9)}, Buf: api.Buf{At: 40, End: 48}, Log: []api.Entry{{Obj: a(0), Field: 2}, {Obj: a(9)}}, Done: []api.Answer{{Yes: true}}},
			{Stack: append(slices.Clone(handles), 5, a(5), a(37))},
			{Buf: api.Buf{At: 48, End: 56}, Left: []api.Op{{Kind: 11}}, Done: []api.Answer{{}}},
		},
	}
}

// doing is a heap once more, whose thread is to do some things.
func doing(h api.Heap, th int, l ...api.Op) api.Heap {
	h = twice(h)
	h.Threads[th].Left = l
	return h
}

// phased is a heap once more, in a phase.
func phased(h api.Heap, phase int) api.Heap {
	h = twice(h)
	h.Phase = phase
	return h
}

// last is what a thread of a heap was answered last.
func last(h api.Heap, th int) api.Answer {
	l := h.Threads[th].Done
	return l[len(l)-1]
}

// The example: a thread that has to OCollect: Do lets it Want; Can is no then.
func TestExample(t *testing.T) {
	h := api.Heap{
		M: api.Mem{Words: 16, Sp: [2][]uint64{make([]uint64, 16), make([]uint64, 16)}}, From: api.Bump{Limit: 16}, To: api.Bump{Space: 1, Limit: 16},
		Log: 1, Threads: []api.Thread{{Left: []api.Op{{Kind: 11}}}},
	}
	if !act.Right(h) || !act.Can(h, 0) {
		t.Fatalf("Right, Can: %v, %v", act.Right(h), act.Can(h, 0))
	}
	k := wantDo(t, h, 0)
	if !k.Threads[0].Want || len(k.Threads[0].Left) != 1 || len(k.Threads[0].Done) != 0 || len(k.Order) != 0 || act.Can(k, 0) {
		t.Errorf("Do: got %+v", k)
	}
	if !act.Same(act.Do(k, 0), k) || act.Same(k, h) {
		t.Errorf("Do once more: got %+v", act.Do(k, 0))
	}
}

// change is something that is done to a heap, and whether one that was right is right then.
type change struct {
	do func(h *api.Heap)
	is bool
}

// numbers are changes of a number of a heap, which is right from a least to a greatest one.
func numbers(of func(h *api.Heap) *int, least, most int) []change {
	var l []change
	for _, n := range append([]int{least - 1, least, least + 1, (least + most) / 2, most - 1, most, most + 1}, far...) {
		l = append(l, change{func(h *api.Heap) { *of(h) = n }, least <= n && n <= most})
	}
	return l
}

// pieces are changes of a thread's piece, of a heap whose From is at 56.
func pieces(th int) []change {
	var l []change
	for b, is := range map[api.Buf]bool{
		{}: true, {At: 0, End: 1}: true, {At: 0, End: 56}: true, {At: 0, End: 57}: false, {At: 1, End: 1}: true, {At: 1}: false, {At: 55, End: 56}: true, {At: 56, End: 56}: true, {At: 56, End: 57}: false,
		{At: 57, End: 57}: false, {At: 57, End: 56}: false, {At: 9, End: 8}: false, {At: 8, End: 8}: true, {At: -1, End: 8}: false, {At: -1, End: 0}: false, {At: -1, End: -1}: false, {At: 0, End: -1}: false,
		{At: math.MinInt, End: 8}: false, {At: 8, End: math.MaxInt}: false, {At: math.MinInt, End: math.MaxInt}: false, {At: math.MaxInt, End: math.MinInt}: false, {At: math.MaxInt, End: math.MaxInt}: false,
		{At: 1 << 32, End: 1<<32 + 8}: false, {At: 0, End: 64}: false, {At: 8, End: 1<<32 + 8}: false, {At: -1 << 32, End: 1}: false,
	} {
		l = append(l, change{func(h *api.Heap) { h.Threads[th].Buf = b }, is})
	}
	return l
}

// spaces are changes of memory, and of where its spaces go on.
func spaces() []change {
	words := func(n, a, b int) func(h *api.Heap) {
		return func(h *api.Heap) {
			h.M = api.Mem{Words: n, Sp: [2][]uint64{make([]uint64, a), make([]uint64, b)}}
		}
	}
	turned := func(from, to int) func(h *api.Heap) {
		return func(h *api.Heap) { h.From.Space, h.To.Space = from, to }
	}
	l := []change{
		{words(64, 64, 64), true}, {words(64, 63, 64), false}, {words(64, 64, 63), false}, {words(64, 65, 64), false}, {words(64, 64, 65), false}, {words(63, 64, 64), false}, {words(65, 64, 64), false},
		{words(63, 63, 63), false}, {words(65, 65, 65), false}, {words(64, 0, 0), false}, {words(0, 0, 0), false}, {words(-1, 64, 64), false}, {func(h *api.Heap) { h.M = api.Mem{} }, false},
		{turned(0, 1), true}, {turned(1, 0), true}, {turned(0, 0), false}, {turned(1, 1), false}, {turned(0, 2), false}, {turned(2, 1), false}, {turned(-1, 0), false}, {turned(-1, 1), false}, {turned(1, -1), false},
		{turned(1, 2), false}, {turned(2, 3), false}, {turned(0, math.MaxInt), false}, {turned(math.MinInt, 0), false}, {turned(0, 1<<32+1), false}, {turned(1, 1<<32), false},
		{func(h *api.Heap) { h.From, h.To = h.To, h.From; h.Scan = 0; clear(h.Threads) }, true},
	}
	l = append(l, numbers(func(h *api.Heap) *int { return &h.From.At }, 56, 64)...)
	l = append(l, numbers(func(h *api.Heap) *int { return &h.From.Limit }, 64, 64)...)
	l = append(l, numbers(func(h *api.Heap) *int { return &h.To.Limit }, 64, 64)...)
	return append(l, numbers(func(h *api.Heap) *int { return &h.To.At }, 2, 64)...)
}

// bounds are changes of all that has bounds of its own; a heap of four threads is told.
func bounds() []change {
	l := numbers(func(h *api.Heap) *int { return &h.Size }, 0, 4096)
	l = append(l, numbers(func(h *api.Heap) *int { return &h.Log }, 1, 64)...)
	l = append(l, numbers(func(h *api.Heap) *int { return &h.Phase }, 0, 2)...)
	l = append(l, numbers(func(h *api.Heap) *int { return &h.Scan }, 0, 3)...)
	for th := range 4 {
		l = append(l, pieces(th)...)
		for n := range 5 {
			l = append(l, change{func(h *api.Heap) { h.Threads[th].Pend = make([]api.Entry, n) }, n < 2})
		}
		l = append(l, change{func(h *api.Heap) { h.Threads[th].Pend = []api.Entry{{Obj: math.MaxUint64, Field: math.MinInt}} }, true})
	}
	for n := range 5 {
		l = append(l, change{func(h *api.Heap) { h.Threads = h.Threads[:n] }, n > 0})
	}
	return append(l, change{func(h *api.Heap) { h.Threads = nil }, false}, change{func(h *api.Heap) { h.Threads = append(h.Threads, api.Thread{}) }, false}, change{func(h *api.Heap) { h.Threads = make([]api.Thread, 400) }, false})
}

// free are changes of all of which Right asks nothing.
func free() []change {
	var l []change
	for _, th := range []int{0, 3} {
		of := func(do func(t *api.Thread)) { l = append(l, change{func(h *api.Heap) { do(&h.Threads[th]) }, true}) }
		for _, n := range []int{1, 4, 65, 1000} {
			of(func(t *api.Thread) { t.Log = make([]api.Entry, n) })
			of(func(t *api.Thread) { t.Stack = slices.Repeat([]uint64{math.MaxUint64}, n) })
			of(func(t *api.Thread) { t.Left = slices.Repeat([]api.Op{{Kind: -1, H: -9, New: filler(0)}}, n) })
			of(func(t *api.Thread) { t.Done = slices.Repeat([]api.Answer{{E: -1, V: 1, Yes: true}}, n) })
		}
		of(func(t *api.Thread) { t.Want = true })
		of(func(t *api.Thread) { *t = api.Thread{} })
	}
	for _, n := range append([]int{-1, 0, 1, 12}, far...) {
		l = append(l, change{func(h *api.Heap) { h.Flips = n }, true}, change{func(h *api.Heap) { h.Broken = api.Errno(n) }, true}, change{func(h *api.Heap) { h.Order = []int{n, 3, n} }, true})
	}
	return append(l, change{func(h *api.Heap) { h.Order = nil }, true})
}

// P17.1: Right, as the document tells it: each thing that it asks broken alone, and just at its bound; and each two of the changes at once.
func TestRight(t *testing.T) {
	l := slices.Concat(spaces(), bounds(), free())
	for space := range 2 {
		if h := told(space); !act.Right(h) || !right(h) {
			t.Fatalf("Right(%+v): no", h)
		}
		for i, c := range l {
			h := told(space)
			c.do(&h)
			before := twice(h)
			if got := act.Right(h); got != c.is || got != right(h) || !same(h, before) {
				t.Errorf("Right of the change %d, %+v: got %v, want %v", i, h, got, c.is)
			}
		}
	}
	for i, c := range l {
		for k, d := range l {
			h := told(0)
			c.do(&h)
			if len(h.Threads) < 4 {
				continue
			}
			d.do(&h)
			if got := act.Right(h); got != right(h) {
				t.Fatalf("Right of the changes %d and %d, %+v: got %v", i, k, h, got)
			}
		}
	}
}

// P17.1: Right of memory as short and as long as may be.
func TestRightOfWords(t *testing.T) {
	for words, is := range map[int]bool{0: false, 1: false, 15: false, 16: true, 17: true, 4095: true, 4096: true, 4097: false, 5000: false} {
		for at := range 3 {
			h := api.Heap{M: marked(words), From: api.Bump{Space: 1, At: at * words / 2, Limit: words}, To: api.Bump{At: words, Limit: words}, Scan: words, Log: 64, Size: 4096, Threads: make([]api.Thread, 1)}
			if got := act.Right(h); got != is || got != right(h) {
				t.Errorf("Right of %d words, going on at %d: got %v", words, h.From.At, got)
			}
			// The piece ends where the space goes on.
			h.Threads[0].Buf = api.Buf{At: h.From.At, End: h.From.At}
			if got := act.Right(h); got != is {
				t.Errorf("Right of %d words, with a piece at the end: got %v", words, got)
			}
			h.Threads[0].Buf.End++
			if act.Right(h) {
				t.Errorf("Right of %d words, with a piece above the end", words)
			}
		}
	}
	if act.Right(api.Heap{}) {
		t.Errorf("Right of nothing")
	}
}

// P17.1: a write is OSet, OLink, OAdd, OMul, whatever else is told of it.
func TestWrites(t *testing.T) {
	for kind, want := range map[int]bool{api.OSet: true, api.OLink: true, api.OAdd: true, api.OMul: true, api.OAlloc: false, api.OGet: false, api.OFollow: false, api.OSame: false, api.OPush: false, api.OPop: false, api.OCollect: false} {
		for _, o := range []api.Op{{}, {H: 3, I: -1, K: 4, V: 5, New: scalars(2)}, {H: 4, I: 5, K: 6, V: 7, New: api.Head{Tag: 4}}} {
			o.Kind = kind
			if got := act.Writes(o); got != want {
				t.Errorf("Writes(%+v): got %v", o, got)
			}
		}
	}
	for _, kind := range append([]int{-7, -4, -1, 0, 12, 13, 20, 1<<32 + 4, 256 + 4}, far...) {
		if o := (api.Op{Kind: kind, H: 4, I: 4, K: 4, V: 4}); act.Writes(o) {
			t.Errorf("Writes(%+v): yes", o)
		}
	}
}

// lists are changes of the rows of a thread: one more, one less, one that is another, at each place.
func lists[T any](of func(t *api.Thread) *[]T, others ...T) []func(t *api.Thread) {
	var l []func(t *api.Thread)
	for _, v := range others {
		l = append(l, func(t *api.Thread) { *of(t) = append(*of(t), v) }, func(t *api.Thread) { *of(t) = slices.Insert(*of(t), 0, v) })
	}
	for i := range 2 {
		l = append(l, func(t *api.Thread) { *of(t) = slices.Delete(*of(t), i, i+1) })
		for _, v := range others {
			l = append(l, func(t *api.Thread) { (*of(t))[i] = v })
		}
	}
	return append(l, func(t *api.Thread) { *of(t) = nil }, func(t *api.Thread) { slices.Reverse(*of(t)) })
}

// listed is a heap in whose threads each row has two things that aren't the same; it needn't be right.
func listed() api.Heap {
	h := told(0)
	for i := range h.Threads {
		h.Threads[i] = api.Thread{
			Stack: []uint64{5, 6}, Buf: api.Buf{At: 1, End: 2}, Log: []api.Entry{{Obj: 1, Field: 2}, {Obj: 3}}, Left: []api.Op{{Kind: 1, New: scalars(1)}, {Kind: 4, H: 1, I: 2, K: 3, V: 4}},
			Pend: []api.Entry{{Obj: 9}, {Obj: 8, Field: 1}}, Done: []api.Answer{{E: 1}, {V: 2}},
		}
	}
	return h
}

// others are heaps that are each another than listed, by one thing.
func others() []api.Heap {
	var l []api.Heap
	of := func(do func(h *api.Heap)) {
		h := listed()
		do(&h)
		l = append(l, h)
	}
	var threads []func(t *api.Thread)
	threads = append(threads, lists(func(t *api.Thread) *[]uint64 { return &t.Stack }, 7, 0, 1<<63)...)
	threads = append(threads, lists(func(t *api.Thread) *[]api.Entry { return &t.Log }, api.Entry{}, api.Entry{Obj: 1}, api.Entry{Field: 2}, api.Entry{Obj: 3, Field: 2})...)
	threads = append(threads, lists(func(t *api.Thread) *[]api.Entry { return &t.Pend }, api.Entry{}, api.Entry{Obj: 9, Field: 1}, api.Entry{Obj: 8})...)
	threads = append(threads, lists(func(t *api.Thread) *[]api.Answer { return &t.Done }, api.Answer{}, api.Answer{E: 1, V: 2}, api.Answer{V: 2, Yes: true}, api.Answer{E: 1, Yes: true})...)
	threads = append(threads, lists(func(t *api.Thread) *[]api.Op { return &t.Left }, api.Op{}, api.Op{Kind: 1}, api.Op{Kind: 1, New: api.Head{Tag: 2, Len: 2}}, api.Op{Kind: 1, New: api.Head{Tag: 3, Len: 1}}, api.Op{Kind: 1, New: api.Head{Tag: 2, Len: 1, Map: 1}},
		api.Op{Kind: 5, H: 1, I: 2, K: 3, V: 4}, api.Op{Kind: 4, H: 2, I: 2, K: 3, V: 4}, api.Op{Kind: 4, H: 1, I: 1, K: 3, V: 4}, api.Op{Kind: 4, H: 1, I: 2, K: 4, V: 4}, api.Op{Kind: 4, H: 1, I: 2, K: 3, V: 3})...)
	threads = append(threads, func(t *api.Thread) { t.Buf.At++ }, func(t *api.Thread) { t.Buf.End-- }, func(t *api.Thread) { t.Want = true }, func(t *api.Thread) { *t = api.Thread{} })
	for th := range 4 {
		for _, do := range threads {
			of(func(h *api.Heap) { do(&h.Threads[th]) })
		}
		of(func(h *api.Heap) { h.Threads = slices.Delete(h.Threads, th, th+1) })
		of(func(h *api.Heap) { h.Order[th] += 9 })
		of(func(h *api.Heap) { h.Order = slices.Insert(h.Order, th, 7) })
	}
	for space := range 2 {
		for at := range 64 {
			of(func(h *api.Heap) { h.M.Sp[space][at]++ })
			of(func(h *api.Heap) { h.M.Sp[space][at] ^= 1 << 63 })
		}
		of(func(h *api.Heap) { h.M.Sp[space] = h.M.Sp[space][:63] })
		of(func(h *api.Heap) { h.M.Sp[space] = append(h.M.Sp[space], 0) })
		of(func(h *api.Heap) { h.M.Sp[space] = nil })
	}
	for _, n := range []int{-1, 1, 2, 1 << 32} {
		for _, number := range []func(h *api.Heap) *int{
			func(h *api.Heap) *int { return &h.M.Words }, func(h *api.Heap) *int { return &h.From.Space }, func(h *api.Heap) *int { return &h.From.At }, func(h *api.Heap) *int { return &h.From.Limit },
			func(h *api.Heap) *int { return &h.To.Space }, func(h *api.Heap) *int { return &h.To.At }, func(h *api.Heap) *int { return &h.To.Limit }, func(h *api.Heap) *int { return &h.Size },
			func(h *api.Heap) *int { return &h.Log }, func(h *api.Heap) *int { return &h.Phase }, func(h *api.Heap) *int { return &h.Scan }, func(h *api.Heap) *int { return &h.Flips }, func(h *api.Heap) *int { return (*int)(&h.Broken) },
		} {
			of(func(h *api.Heap) { *number(h) += n })
		}
	}
	of(func(h *api.Heap) { h.From, h.To = h.To, h.From })
	of(func(h *api.Heap) { h.M.Sp[0], h.M.Sp[1] = h.M.Sp[1], h.M.Sp[0] })
	of(func(h *api.Heap) { h.Threads = append(h.Threads, api.Thread{}) })
	of(func(h *api.Heap) { h.Threads = nil })
	of(func(h *api.Heap) { h.Order = append(h.Order, 0) })
	of(func(h *api.Heap) { h.Order = nil })
	return append(l, api.Heap{})
}

// P17.1: Same of any two, right or not: all fields, row by row.
func TestSame(t *testing.T) {
	want := func(h, k api.Heap, is bool) {
		t.Helper()
		was, other := twice(h), twice(k)
		if act.Same(h, k) != is || act.Same(k, h) != is || same(h, k) != is {
			t.Fatalf("Same(%+v, %+v): got %v, %v, want %v", h, k, act.Same(h, k), act.Same(k, h), is)
		}
		if !same(h, was) || !same(k, other) {
			t.Fatalf("Same: what was handed in was %+v, %+v, and is %+v, %+v", was, other, h, k)
		}
	}
	l := others()
	for i, k := range l {
		want(k, twice(k), true)
		want(listed(), k, false)
		// Each differs by a thing of its own.
		want(k, l[(i+1)%len(l)], false)
	}
	for space := range 2 {
		want(told(space), told(space), true)
		want(roomy(told(space)), told(space), true)
	}
	want(told(0), told(1), false)
	// A row without elements is a row without elements.
	want(api.Heap{}, api.Heap{M: api.Mem{Sp: [2][]uint64{{}, nil}}, Threads: []api.Thread{}, Order: []int{}}, true)
	want(api.Heap{Threads: make([]api.Thread, 2)}, api.Heap{Threads: []api.Thread{{Stack: []uint64{}, Log: []api.Entry{}}, {Left: []api.Op{}, Pend: []api.Entry{}, Done: []api.Answer{}}}}, true)
	want(api.Heap{Threads: make([]api.Thread, 2)}, api.Heap{Threads: make([]api.Thread, 1)}, false)
}

// wantAnswer holds Answer against its measure, and what was handed in against what it was.
func wantAnswer(t *testing.T, h api.Heap, th int, a api.Answer) api.Heap {
	t.Helper()
	given, want := roomy(h), answered(h, th, a)
	got := act.Answer(given, th, a)
	if !same(got, want) || !same(given, h) || !clean(given) || act.Right(got) != right(h) {
		t.Fatalf("Answer(%+v, %d, %+v): got %+v, want %+v; what was handed in is %+v", h, th, a, got, want, given)
	}
	return got
}

// P17.1: Answer of each thread, of none that there is, with nothing, one thing and more left, whatever else a thread is at.
func TestAnswer(t *testing.T) {
	answers := []api.Answer{{}, {E: api.ErrMemory}, {V: math.MaxUint64}, {Yes: true}, {E: -1, V: 1, Yes: true}}
	l := []api.Op{{Kind: api.OSet, V: 1}, {Kind: -5}, {Kind: api.OCollect}}
	for th := range 4 {
		for n := range 4 {
			h := doing(told(n%2), th, l[:n]...)
			for phase := range 3 {
				h.Phase = phase
				for _, a := range answers {
					k := wantAnswer(t, h, th, a)
					left, done := k.Threads[th].Left, k.Threads[th].Done
					if !slices.Equal(left, l[min(n, 1):n]) || len(done) != len(h.Threads[th].Done)+1 || last(k, th) != a || !slices.Equal(k.Order, []int{1, 0, 0, 3, th}) {
						t.Fatalf("Answer: got %+v", k)
					}
					wantAnswer(t, wantAnswer(t, k, th, a), 3-th, api.Answer{V: 3})
				}
				h.Threads[th].Want, h.Broken = true, api.Errno(phase)
				h.Threads[th].Pend = []api.Entry{{Obj: here(0), Field: 1}}
				if k := wantAnswer(t, h, th, answers[1]); !k.Threads[th].Want || len(k.Threads[th].Pend) != 1 {
					t.Fatalf("Answer of one that wants: got %+v", k)
				}
			}
		}
	}
	for _, th := range append([]int{-1, 4, 5}, far...) {
		for space := range 2 {
			h := doing(told(space), 0, l...)
			if k := wantAnswer(t, h, th, answers[4]); !same(k, h) {
				t.Errorf("Answer of the thread %d: got %+v", th, k)
			}
		}
		wantAnswer(t, api.Heap{}, th, answers[4])
	}
	if k := wantAnswer(t, api.Heap{}, 0, answers[1]); !same(k, api.Heap{}) {
		t.Errorf("Answer of nothing: got %+v", k)
	}
}

// P17.1: Can, as the document tells it.
func TestCanTold(t *testing.T) {
	set, get, collect := api.Op{Kind: api.OSet}, api.Op{Kind: api.OGet}, api.Op{Kind: api.OCollect}
	pend := []api.Entry{{Obj: here(0)}}
	full := make([]api.Entry, 3)
	for i, k := range []struct {
		t      api.Thread
		phase  int
		broken api.Errno
		want   bool
	}{
		// Nothing left, something left, in each phase.
		{api.Thread{}, 0, 0, false}, {api.Thread{}, 1, 0, false}, {api.Thread{}, 2, 0, false},
		{api.Thread{Left: []api.Op{get}}, 0, 0, true}, {api.Thread{Left: []api.Op{get}}, 1, 0, true}, {api.Thread{Left: []api.Op{get}}, 2, 0, false},
		{api.Thread{Left: []api.Op{collect, set}}, 0, 0, true}, {api.Thread{Left: []api.Op{collect, set}}, 1, 0, true}, {api.Thread{Left: []api.Op{collect, set}}, 2, 0, false},
		// A write, by how many entries the log has.
		{api.Thread{Left: []api.Op{set}}, 0, 0, true}, {api.Thread{Left: []api.Op{set}}, 1, 0, true}, {api.Thread{Left: []api.Op{set}}, 2, 0, false},
		{api.Thread{Left: []api.Op{set}, Log: full[:2]}, 1, 0, true}, {api.Thread{Left: []api.Op{set}, Log: full}, 1, 0, false}, {api.Thread{Left: []api.Op{set}, Log: make([]api.Entry, 4)}, 1, 0, false}, {api.Thread{Left: []api.Op{set}, Log: make([]api.Entry, 64)}, 1, 0, false},
		{api.Thread{Left: []api.Op{set}, Log: full}, 0, 0, true}, {api.Thread{Left: []api.Op{set}, Log: make([]api.Entry, 64)}, 0, 0, true}, {api.Thread{Left: []api.Op{set}, Log: full}, 2, 0, false},
		// Only the first one counts.
		{api.Thread{Left: []api.Op{get, set}, Log: full}, 1, 0, true}, {api.Thread{Left: []api.Op{set, get}, Log: full}, 1, 0, false}, {api.Thread{Left: []api.Op{collect, set}, Log: make([]api.Entry, 64)}, 1, 0, true},
		// Who wants waits.
		{api.Thread{Left: []api.Op{get}, Want: true}, 0, 0, false}, {api.Thread{Left: []api.Op{set}, Want: true}, 1, 0, false}, {api.Thread{Want: true}, 0, 0, false}, {api.Thread{Left: []api.Op{collect}, Want: true}, 2, 0, false},
		// What is pending is logged, whatever there is beside it.
		{api.Thread{Pend: pend}, 0, 0, true}, {api.Thread{Pend: pend}, 1, 0, true}, {api.Thread{Pend: pend}, 2, 0, true}, {api.Thread{Pend: pend, Want: true}, 0, 0, true}, {api.Thread{Pend: pend, Want: true}, 2, 0, true},
		{api.Thread{Pend: pend, Left: []api.Op{get}}, 2, 0, true}, {api.Thread{Pend: pend, Left: []api.Op{set}, Log: full}, 1, 0, true}, {api.Thread{Pend: pend, Left: []api.Op{set}, Log: make([]api.Entry, 70), Want: true}, 2, 0, true},
		// But not in what is broken.
		{api.Thread{Pend: pend, Left: []api.Op{get}}, 0, api.ErrForm, false}, {api.Thread{Left: []api.Op{get}}, 0, api.ErrFull, false}, {api.Thread{Left: []api.Op{set}}, 1, api.ErrMemory, false}, {api.Thread{Pend: pend}, 2, -1, false}, {api.Thread{Left: []api.Op{get}}, 1, 99, false},
	} {
		for th := range 4 {
			h := phased(told(th%2), k.phase)
			h.Broken, h.Threads[th] = k.broken, k.t
			if got := act.Can(h, th); got != k.want {
				t.Errorf("%d: Can of the thread %d: got %v", i, th, got)
			}
			wantDo(t, h, th)
		}
	}
}

// P17.1, P17.2: all that Can asks of, together; what can't do anything is as it was.
func TestCanMeasured(t *testing.T) {
	seen := map[bool]int{}
	pend := []api.Entry{{Obj: here(0), Field: 2}}
	lefts := [][]api.Op{nil, {}}
	for kind := range 13 {
		lefts = append(lefts, []api.Op{{Kind: kind, New: scalars(1)}}, []api.Op{{Kind: kind, H: 3, New: scalars(9)}, {Kind: (kind + 4) % 13}})
	}
	for _, left := range lefts {
		for n := range 2 * 2 * 3 * 3 * 2 * 4 {
			th := n % 2 * 3
			h := doing(told(n/2%2), th, left...)
			k := &h.Threads[th]
			h.Phase, h.Broken, h.Log = n/12%3, []api.Errno{0, 0, api.ErrNull}[n/36%3], []int{1, 64}[n/4%2]
			k.Want = n/108%2 == 1
			k.Log = make([]api.Entry, max(0, h.Log+n/8%4-1))
			if n%3 == 0 {
				k.Pend = pend
			}
			seen[act.Can(h, th)]++
			wantDo(t, h, th)
		}
	}
	for _, th := range append([]int{-1, 4, 5}, far...) {
		h := doing(told(0), 0, api.Op{Kind: api.OPop})
		if act.Can(h, th) || !same(wantDo(t, h, th), h) {
			t.Errorf("Can, Do of the thread %d: yes", th)
		}
	}
	if seen[true] < 500 || seen[false] < 500 {
		t.Errorf("so many can: %v", seen)
	}
}

// P17.2: what is pending is behind the log then, and nothing else is done: in each phase, however long the log is, whatever is left.
func TestPending(t *testing.T) {
	for _, n := range []int{0, 1, 2, 3, 4, 63, 64, 65, 100} {
		for phase := range 3 {
			for th := range 4 {
				for _, e := range []api.Entry{{Obj: here(0), Field: 2}, {}, {Obj: math.MaxUint64, Field: math.MinInt}} {
					h := phased(doing(told(0), th, api.Op{Kind: api.OSet, V: 5}, api.Op{Kind: api.OCollect}), phase)
					h.Threads[th].Log = make([]api.Entry, n)
					for i := range n {
						h.Threads[th].Log[i] = api.Entry{Obj: uint64(i), Field: i}
					}
					h.Threads[th].Pend, h.Threads[th].Want = []api.Entry{e}, n%2 == 1
					k := wantDo(t, h, th)
					was, is := h.Threads[th], k.Threads[th]
					if len(is.Pend) != 0 || !slices.Equal(is.Log, append(slices.Clone(was.Log), e)) || !slices.Equal(is.Left, was.Left) || len(is.Done) != len(was.Done) || is.Want != was.Want || len(k.Order) != 4 {
						t.Fatalf("Do with %+v pending: got %+v, it was %+v", e, is, was)
					}
				}
			}
		}
	}
}

// step is something that a thread does in the told heap, and what comes of it.
type step struct {
	o     api.Op
	a     api.Answer
	word  int      // the place of the word that is written, from the space's beginning on; -1: none is
	v     uint64   // this word then
	stack []uint64 // handles that are the next ones
}

// steps are what the first thread may do in the told heap of a space.
func steps(space int) []step {
	a := func(at int) uint64 { return address(space, at) }
	op := func(kind, h, i, k int, v uint64) api.Op { return api.Op{Kind: kind, H: h, I: i, K: k, V: v} }
	var l []step
	for _, k := range []struct {
		h, i int
		v    uint64
	}{{0, 0, 7}, {0, 2, 1<<63 + 5}, {6, 0, 7}, {3, 0, 0x3_fffc}, {3, 1, math.MaxUint64}, {5, 1, 1}, {5, 7, 7}, {5, 14, 14}} {
		l = append(l, step{op(api.OGet, k.h, k.i, -1, 99), api.Answer{V: k.v}, -1, 0, nil})
	}
	for _, k := range []struct {
		h, i int
		to   uint64
	}{{0, 1, a(5)}, {6, 1, a(5)}, {1, 0, 0}, {1, 1, a(0)}, {5, 0, a(9)}, {5, 15, a(17)}, {7, 0, address(1-space, 0)}, {8, 0, 0}} {
		l = append(l, step{op(api.OFollow, k.h, k.i, 40, 99), api.Answer{}, -1, 0, []uint64{k.to}})
	}
	for _, k := range []struct{ h, i, word int }{{0, 0, 2}, {0, 2, 4}, {6, 2, 4}, {3, 0, 11}, {3, 1, 12}, {5, 1, 22}, {5, 14, 35}} {
		for _, v := range []uint64{0, 9, 1 << 63, math.MaxUint64, a(5), first(filler(3))} {
			l = append(l, step{op(api.OSet, k.h, k.i, 99, v), api.Answer{}, k.word, v, nil})
		}
	}
	for _, k := range []struct{ h, i, word int }{{0, 1, 3}, {6, 1, 3}, {1, 0, 7}, {1, 1, 8}, {5, 0, 21}, {5, 15, 36}, {7, 0, 39}} {
		// What K leads to isn't asked.
		for to, b := range []uint64{a(0), a(5), 0, a(9), a(17), a(19), a(0), a(37), address(1-space, 0), a(13), a(1), a(62), a(64)} {
			l = append(l, step{op(api.OLink, k.h, k.i, to, 99), api.Answer{}, k.word, b, nil})
		}
	}
	l = append(l,
		step{op(api.OAdd, 0, 0, -1, 0), api.Answer{}, 2, 7, nil}, step{op(api.OAdd, 0, 0, -1, 2), api.Answer{}, 2, 9, nil}, step{op(api.OAdd, 3, 0, 99, 0x10000), api.Answer{}, 11, 0x4_fffc, nil}, step{op(api.OAdd, 3, 0, 0, 4), api.Answer{}, 11, 0x3_0000, nil},
		// (-1, -1) and (1, 1); bits that don't count are gone; (32767, 0) goes round.
		step{op(api.OAdd, 3, 1, 0, 0x1_0001), api.Answer{}, 12, 0, nil}, step{op(api.OAdd, 0, 2, 0, 0), api.Answer{}, 4, 5, nil}, step{op(api.OAdd, 3, 1, 0, 0x8000_8000), api.Answer{}, 12, 0x7fff_7fff, nil}, step{op(api.OAdd, 0, 0, 0, 0xabcd_0000_7fff_fffe), api.Answer{}, 2, 0x7fff_0005, nil},
		// 7 times (2, 0), (0, 1), (8192, 1); (3, -4) times itself; (-1, -1) times itself, and times (-32768, 0).
		step{op(api.OMul, 0, 0, -1, 0x2_0000), api.Answer{}, 2, 14, nil}, step{op(api.OMul, 0, 0, -1, 1), api.Answer{}, 2, 0xfff9_0000, nil}, step{op(api.OMul, 0, 0, 99, 0x2000_0001), api.Answer{}, 2, 0xfff9_e000, nil}, step{op(api.OMul, 3, 0, 0, 0x3_fffc), api.Answer{}, 11, 0xfff9_ffe8, nil},
		step{op(api.OMul, 3, 1, 0, 0xffff_ffff), api.Answer{}, 12, 2, nil}, step{op(api.OMul, 3, 1, 0, 0x1_8000_0000), api.Answer{}, 12, 0x8000_8000, nil}, step{op(api.OMul, 0, 2, 0, 0), api.Answer{}, 4, 0, nil}, step{op(api.OMul, 5, 14, 0, 0x1_0000), api.Answer{}, 35, 14, nil},
	)
	for _, k := range []struct {
		h, k int
		yes  bool
	}{{0, 0, true}, {0, 6, true}, {6, 0, true}, {0, 1, false}, {2, 2, true}, {2, 0, false}, {3, 2, false}, {9, 9, true}, {9, 10, false}, {11, 11, true}, {12, 12, true}, {12, 11, false}, {0, 8, false}} {
		l = append(l, step{op(api.OSame, k.h, -1, k.k, 99), api.Answer{Yes: k.yes}, -1, 0, nil})
	}
	for h, b := range []uint64{a(0), a(5), 0, a(9), a(17), a(19), a(0), a(37), address(1-space, 0), a(13), a(1), a(62), a(64)} {
		l = append(l, step{op(api.OPush, h, -1, -1, 99), api.Answer{}, -1, 0, []uint64{b}})
	}
	return l
}

// P17.2: what a thread does, as the document tells it; in PCopy the object and the field of a write are pending then.
func TestDoTold(t *testing.T) {
	more := []api.Op{{Kind: api.OCollect}, {Kind: api.OPop, V: 3}}
	for space := range 2 {
		for _, k := range steps(space) {
			for phase := range 2 {
				h := phased(doing(told(space), 0, append([]api.Op{k.o}, more...)...), phase)
				want := twice(h)
				if k.word >= 0 {
					want.M.Sp[space][k.word] = k.v
					if h.Threads[0].Stack[k.o.H] == address(1-space, 0) {
						t.Fatalf("%+v writes over there", k)
					}
					if phase == api.PCopy {
						want.Threads[0].Pend = []api.Entry{{Obj: h.Threads[0].Stack[k.o.H], Field: k.o.I}}
					}
				}
				want.Threads[0].Stack = append(want.Threads[0].Stack, k.stack...)
				want.Threads[0].Done = append(want.Threads[0].Done, k.a)
				want.Threads[0].Left = more
				want.Order = []int{1, 0, 0, 3, 0}
				if got := wantDo(t, h, 0); !same(got, want) {
					t.Fatalf("Do of %+v in the phase %d: got %+v, want %+v", k.o, phase, got, want)
				}
			}
		}
		// Over there an object may be written, too.
		h := phased(doing(told(space), 0, api.Op{Kind: api.OLink, H: 8, K: 3}), api.PCopy)
		if k := wantDo(t, h, 0); k.M.Sp[1-space][2] != address(space, 9) || !slices.Equal(k.Threads[0].Pend, []api.Entry{{Obj: address(1-space, 0)}}) {
			t.Errorf("OLink over there: got %+v", k)
		}
	}
}

// P17.2: OPop takes handles one by one, and refuses then; OCollect lets the thread want, whatever it has.
func TestPopsAndCollects(t *testing.T) {
	for phase := range 2 {
		for th := range 4 {
			h := phased(doing(told(0), th, slices.Repeat([]api.Op{{Kind: api.OPop, H: -1}}, 18)...), phase)
			row := h.Threads[th].Stack
			for n := len(row) - 1; n >= 0; n-- {
				h = wantDo(t, h, th)
				if !slices.Equal(h.Threads[th].Stack, row[:n]) || last(h, th) != (api.Answer{}) {
					t.Fatalf("OPop: got %+v", h.Threads[th])
				}
			}
			if h = wantDo(t, h, th); last(h, th) != (api.Answer{E: api.ErrEmpty}) || len(h.Threads[th].Stack) != 0 {
				t.Fatalf("OPop of none: got %+v", h.Threads[th])
			}
			h = phased(doing(told(0), th, api.Op{Kind: api.OCollect, H: -1, I: -1, K: -1}, api.Op{Kind: api.OPop}), phase)
			k := wantDo(t, h, th)
			want := twice(h)
			want.Threads[th].Want = true
			if !same(k, want) || act.Can(k, th) || !same(wantDo(t, k, th), k) {
				t.Fatalf("OCollect: got %+v", k)
			}
		}
	}
}

// P17.2: what is refused, each alone, and two at once in their order; nothing is written, and nothing pending, then.
func TestRefusedTold(t *testing.T) {
	field := []int{api.OGet, api.OFollow, api.OSet, api.OLink, api.OAdd, api.OMul}
	leads := func(kind int) bool { return kind == api.OFollow || kind == api.OLink }
	type refused struct {
		th int
		o  api.Op
		e  api.Errno
	}
	var l []refused
	of := func(e api.Errno, th int, o api.Op) { l = append(l, refused{th, o, e}) }
	for _, kind := range field {
		// A handle that there isn't, ahead of all else; a handle of nothing; one of what is no object; with fields, and handles K, that there aren't, too.
		for _, i := range []int{0, -1, 99} {
			for _, k := range []int{0, -1, 99} {
				for _, h := range append([]int{-1, 13, 14, 16}, far...) {
					of(api.ErrHandle, 0, api.Op{Kind: kind, H: h, I: i, K: k})
				}
				of(api.ErrHandle, 2, api.Op{Kind: kind, H: 16, I: i, K: k})
				of(api.ErrHandle, 3, api.Op{Kind: kind, H: 0, I: i, K: k})
				of(api.ErrNull, 0, api.Op{Kind: kind, H: 2, I: i, K: k})
				of(api.ErrNull, 2, api.Op{Kind: kind, H: 2, I: i, K: k})
				for _, h := range []int{9, 10, 11, 12} {
					of(api.ErrForm, 0, api.Op{Kind: kind, H: h, I: i, K: k})
					of(api.ErrForm, 2, api.Op{Kind: kind, H: h, I: i, K: k})
				}
				of(api.ErrForm, 2, api.Op{Kind: kind, H: 13, I: i, K: k})
			}
		}
		for _, k := range []int{0, -1, 99} {
			for h, n := range map[int]int{0: 3, 1: 2, 3: 2, 4: 0, 5: 16, 7: 1, 8: 1} {
				for _, i := range append([]int{-1, n, n + 1, 17}, far...) {
					of(api.ErrField, 0, api.Op{Kind: kind, H: h, I: i, K: k})
					of(api.ErrField, 2, api.Op{Kind: kind, H: h, I: i, K: k})
				}
			}
			for _, f := range []struct {
				h, i  int
				leads bool
			}{{0, 0, false}, {0, 1, true}, {0, 2, false}, {1, 0, true}, {1, 1, true}, {3, 1, false}, {5, 0, true}, {5, 1, false}, {5, 14, false}, {5, 15, true}, {8, 0, true}} {
				if f.leads != leads(kind) {
					of(api.ErrKind, 0, api.Op{Kind: kind, H: f.h, I: f.i, K: k})
					of(api.ErrKind, 2, api.Op{Kind: kind, H: f.h, I: f.i, K: k})
				}
			}
		}
	}
	for _, n := range append([]int{-1, 13, 16}, far...) {
		of(api.ErrHandle, 0, api.Op{Kind: api.OLink, H: 0, I: 1, K: n})
		of(api.ErrHandle, 0, api.Op{Kind: api.OSame, H: n, K: 0})
		of(api.ErrHandle, 0, api.Op{Kind: api.OSame, H: 0, K: n})
		of(api.ErrHandle, 0, api.Op{Kind: api.OSame, H: n, K: n})
		of(api.ErrHandle, 0, api.Op{Kind: api.OPush, H: n})
	}
	for _, kind := range append([]int{-1, 0, 12, 13, 255, 256 + api.OSet}, far...) {
		of(api.ErrArg, 0, api.Op{Kind: kind})
		of(api.ErrArg, 3, api.Op{Kind: kind, H: -1, New: scalars(1)})
	}
	of(api.ErrHandle, 3, api.Op{Kind: api.OSame})
	of(api.ErrHandle, 3, api.Op{Kind: api.OPush})
	of(api.ErrHandle, 2, api.Op{Kind: api.OPush, H: 16})
	of(api.ErrHandle, 2, api.Op{Kind: api.OLink, H: 0, I: 1, K: 16})
	of(api.ErrFull, 2, api.Op{Kind: api.OPush, H: 15})
	of(api.ErrFull, 2, api.Op{Kind: api.OPush, H: 2})
	of(api.ErrFull, 2, api.Op{Kind: api.OFollow, H: 0, I: 1})
	of(api.ErrFull, 2, api.Op{Kind: api.OFollow, H: 5, I: 15})
	of(api.ErrFull, 2, api.Op{Kind: api.OAlloc, New: scalars(0)})
	of(api.ErrFull, 2, api.Op{Kind: api.OAlloc, New: pointers(16)})
	of(api.ErrEmpty, 3, api.Op{Kind: api.OPop})
	for _, h := range heads() {
		of(api.ErrArg, 0, api.Op{Kind: api.OAlloc, New: h})
		of(api.ErrArg, 2, api.Op{Kind: api.OAlloc, New: h})
	}
	for n, k := range l {
		for phase := range 2 {
			h := phased(doing(told((n+phase)%2), k.th, k.o, api.Op{Kind: api.OCollect}), phase)
			want := twice(h)
			want.Threads[k.th].Done = append(want.Threads[k.th].Done, api.Answer{E: k.e})
			want.Threads[k.th].Left = []api.Op{{Kind: api.OCollect}}
			want.Order = append(want.Order, k.th)
			if got := wantDo(t, h, k.th); !same(got, want) {
				t.Fatalf("Do of %+v by the thread %d: got %+v, want %+v", k.o, k.th, got, want)
			}
		}
	}
}

// heads are those that aren't right, and fillers'.
func heads() []api.Head {
	l := []api.Head{
		{}, {Tag: -1}, {Tag: 201}, {Tag: 254}, {Tag: 256}, {Tag: 0, Len: 17}, {Tag: 201, Len: 2, Map: 4}, {Tag: 1, Len: -1}, {Tag: 1, Len: -2}, {Tag: 1, Len: 17}, {Tag: 200, Len: 17, Map: 1 << 17}, {Tag: 1, Map: 1},
		{Tag: 1, Len: 1, Map: 2}, {Tag: 1, Len: 16, Map: 1 << 16}, {Tag: 1, Len: 16, Map: 1 << 63}, filler(1), filler(2), filler(17), filler(65536), filler(65537), filler(0), {Tag: 255, Len: 2, Map: 1},
	}
	for _, n := range far {
		l = append(l, api.Head{Tag: n}, api.Head{Tag: n, Len: 1, Map: 1}, api.Head{Tag: 1, Len: n}, api.Head{Tag: 255, Len: n})
	}
	return l
}

// P17.2: all kinds, with handles and fields of all kinds, of threads with few and with as many handles as may be, and more.
func TestDoMeasured(t *testing.T) {
	seen := map[api.Errno]int{}
	h := told(0)
	h.Threads[3].Stack = append(slices.Clone(h.Threads[2].Stack), 0, here(9)) // a right heap may have that, too
	for kind := -1; kind < 14; kind++ {
		for o := range 20 {
			for _, i := range []int{-1, 0, 1, 2, 3, 15, 16} {
				for _, k := range []int{-1, 0, 2, 12, 15, 18} {
					th := []int{0, 2, 3}[(o+i+k+6)%3]
					b := phased(doing(h, th, api.Op{Kind: kind, H: o - 1, I: i, K: k, V: uint64(o * i * 77777), New: scalars(i)}), (o+k+2)%2)
					then := wantDo(t, b, th)
					if !then.Threads[th].Want {
						seen[last(then, th).E]++
					}
				}
			}
		}
	}
	for _, e := range []api.Errno{api.OK, api.ErrArg, api.ErrFull, api.ErrHandle, api.ErrNull, api.ErrField, api.ErrKind, api.ErrForm} {
		if seen[e] < 20 {
			t.Errorf("so many were answered so: %v", seen)
		}
	}
}

// P17.2: OAlloc, as the document tells it: words of a heap of 64, of which so many are taken, by a thread with a piece, or without one.
func TestAllocTold(t *testing.T) {
	for _, k := range []struct {
		at, size int
		buf      api.Buf
		n        int // fields
		place    int // where the object is then; -1: there is no room
		then     int // where the space goes on
		after    api.Buf
		gap      int // where a filler is
	}{
		// It just fits the piece; with a word left; with all of it left but one.
		{56, 8, api.Buf{At: 40, End: 44}, 2, 40, 56, api.Buf{At: 44, End: 44}, -1}, {56, 8, api.Buf{At: 40, End: 45}, 2, 40, 56, api.Buf{At: 44, End: 45}, -1}, {56, 0, api.Buf{At: 0, End: 56}, 16, 0, 56, api.Buf{At: 18, End: 56}, -1},
		{64, 8, api.Buf{At: 62, End: 64}, 0, 62, 64, api.Buf{At: 64, End: 64}, -1}, {64, 0, api.Buf{At: 46, End: 64}, 16, 46, 64, api.Buf{At: 64, End: 64}, -1},
		// It wants a new piece: of none, of one that is used up, of one with 1 and 3 words left.
		{0, 8, api.Buf{}, 2, 0, 8, api.Buf{At: 4, End: 8}, -1}, {20, 8, api.Buf{}, 0, 20, 28, api.Buf{At: 22, End: 28}, -1}, {20, 8, api.Buf{At: 20, End: 20}, 1, 20, 28, api.Buf{At: 23, End: 28}, -1}, {20, 8, api.Buf{At: 9, End: 10}, 0, 20, 28, api.Buf{At: 22, End: 28}, 9},
		{20, 8, api.Buf{At: 7, End: 10}, 2, 20, 28, api.Buf{At: 24, End: 28}, 7}, {20, 36, api.Buf{At: 3, End: 20}, 16, 20, 56, api.Buf{At: 38, End: 56}, 3},
		// The new piece is shorter than others: as many words as there are left, just enough, and too few.
		{59, 8, api.Buf{}, 2, 59, 64, api.Buf{At: 63, End: 64}, -1}, {60, 8, api.Buf{}, 2, 60, 64, api.Buf{At: 64, End: 64}, -1}, {61, 8, api.Buf{}, 2, -1, 61, api.Buf{}, -1}, {60, 8, api.Buf{At: 50, End: 53}, 2, 60, 64, api.Buf{At: 64, End: 64}, 50},
		{61, 8, api.Buf{At: 50, End: 53}, 2, -1, 61, api.Buf{}, 50}, {64, 4096, api.Buf{At: 63, End: 64}, 16, -1, 64, api.Buf{}, 63}, {64, 8, api.Buf{At: 64, End: 64}, 0, -1, 64, api.Buf{}, -1},
		// Twice its words are just the size, and more: it goes straight into the space then, and the piece stays as it is.
		{20, 8, api.Buf{At: 7, End: 10}, 3, 20, 25, api.Buf{At: 7, End: 10}, -1}, {20, 9, api.Buf{At: 7, End: 10}, 3, 20, 25, api.Buf{At: 7, End: 10}, -1}, {20, 10, api.Buf{At: 7, End: 10}, 3, 20, 30, api.Buf{At: 25, End: 30}, 7}, {20, 0, api.Buf{}, 0, 20, 22, api.Buf{}, -1},
		{20, 3, api.Buf{}, 0, 20, 22, api.Buf{}, -1}, {20, 4, api.Buf{}, 0, 20, 24, api.Buf{At: 22, End: 24}, -1}, {46, 35, api.Buf{At: 0, End: 17}, 16, 46, 64, api.Buf{At: 0, End: 17}, -1},
		// And is refused there, where the piece stays as it is, too.
		{47, 35, api.Buf{At: 0, End: 17}, 16, -1, 47, api.Buf{At: 0, End: 17}, -1}, {62, 8, api.Buf{At: 7, End: 10}, 3, -1, 62, api.Buf{At: 7, End: 10}, -1}, {59, 8, api.Buf{At: 7, End: 10}, 3, 59, 64, api.Buf{At: 7, End: 10}, -1}, {63, 0, api.Buf{}, 0, -1, 63, api.Buf{}, -1}, {62, 0, api.Buf{}, 0, 62, 64, api.Buf{}, -1},
	} {
		for n := range 16 {
			space, th, phase := n%2, n/2%4, n/8
			h := api.Heap{
				M: marked(64), From: api.Bump{Space: space, At: k.at, Limit: 64}, To: api.Bump{Space: 1 - space, Limit: 64}, Size: k.size, Log: 1, Phase: phase, Threads: make([]api.Thread, 4),
			}
			head := pointers(k.n)
			h.Threads[th] = api.Thread{Stack: make([]uint64, 15), Buf: k.buf, Left: []api.Op{{Kind: api.OAlloc, New: head}}, Log: make([]api.Entry, 1)}
			want := twice(h)
			own := &want.Threads[th]
			want.From.At, own.Buf = k.then, k.after
			if k.gap >= 0 {
				want.M.Sp[space][k.gap] = first(filler(k.buf.End - k.buf.At))
			}
			if k.place >= 0 {
				clear(want.M.Sp[space][k.place : k.place+k.n+2])
				want.M.Sp[space][k.place] = first(head)
				own.Stack, own.Left, own.Done, want.Order = append(own.Stack, address(space, k.place)), nil, []api.Answer{{}}, []int{th}
			} else {
				own.Want = true
			}
			if got := wantDo(t, h, th); !same(got, want) {
				t.Fatalf("OAlloc of %+v: got %+v, want %+v", k, got, want)
			}
		}
	}
}

// P17.2: OAlloc of objects of all lengths, with pieces and spaces of all kinds.
func TestAllocMeasured(t *testing.T) {
	seen := map[bool]int{}
	for at := range 33 {
		for _, buf := range []api.Buf{{}, {At: at, End: at}, {At: max(0, at-1), End: at}, {At: max(0, at-4), End: at}, {At: at / 2, End: at}, {At: at / 3, End: at / 2}, {At: 0, End: min(2, at)}} {
			for _, size := range []int{0, 3, 4, 5, 6, 8, 11, 12, 20, 32, 36, 4096} {
				for n := range 17 {
					h := api.Heap{M: marked(32), From: api.Bump{Space: n % 2, At: at, Limit: 32}, To: api.Bump{Space: 1 - n%2, Limit: 32}, Size: size, Log: 1, Phase: at % 2, Threads: make([]api.Thread, 2)}
					h.Threads[1] = api.Thread{Buf: buf, Left: []api.Op{{Kind: api.OAlloc, New: scalars(n)}}}
					seen[wantDo(t, h, 1).Threads[1].Want]++
				}
			}
		}
	}
	if seen[true] < 5000 || seen[false] < 5000 {
		t.Errorf("so many want: %v", seen)
	}
}

// P17.2: OAlloc of a thread that waited: where there is room now, the object is made.
func TestAllocGrantedLater(t *testing.T) {
	h := doing(told(0), 0, api.Op{Kind: api.OAlloc, New: scalars(16)})
	k := wantDo(t, h, 0)
	if !k.Threads[0].Want || k.From.At != 56 {
		t.Fatalf("OAlloc of what doesn't fit: got %+v", k)
	}
	k.Threads[0].Want, k.From.At = false, 40
	k.Threads[1].Buf, k.Threads[3].Buf = api.Buf{}, api.Buf{}
	if k = wantDo(t, k, 0); k.From.At != 58 || last(k, 0) != (api.Answer{}) || k.Threads[0].Stack[13] != here(40) {
		t.Fatalf("OAlloc of what fits by now: got %+v", k)
	}
}

// P17.2: a write, step by step: in PCopy it is pending behind it, in the log behind the next step; a log that is full stops it; in PStop what is pending is logged, and no more.
func TestWritesAreLogged(t *testing.T) {
	for _, kind := range []int{api.OSet, api.OLink, api.OAdd, api.OMul} {
		i := 0
		if kind == api.OLink {
			i = 1
		}
		o := api.Op{Kind: kind, H: 0, I: i, K: 4, V: 5}
		e := api.Entry{Obj: here(0), Field: i}
		h := phased(doing(told(0), 0, slices.Repeat([]api.Op{o}, 9)...), api.PCopy)
		for n := range 3 {
			h = wantDo(t, h, 0)
			if !slices.Equal(h.Threads[0].Pend, []api.Entry{e}) || len(h.Threads[0].Log) != n || len(h.Threads[0].Left) != 8-n {
				t.Fatalf("the write %d: got %+v", n, h.Threads[0])
			}
			h.Phase = 1 + n%2 // all may be told to stand still between both steps
			h = wantDo(t, h, 0)
			if len(h.Threads[0].Pend) != 0 || !slices.Equal(h.Threads[0].Log, slices.Repeat([]api.Entry{e}, n+1)) || len(h.Threads[0].Left) != 8-n {
				t.Fatalf("its entry: got %+v", h.Threads[0])
			}
			if h.Phase == api.PStop && act.Can(h, 0) {
				t.Fatalf("Can in PStop: yes")
			}
			h.Phase = api.PCopy
		}
		if act.Can(h, 0) || !same(wantDo(t, h, 0), h) {
			t.Fatalf("Can with a full log: yes")
		}
		h.Phase = api.PIdle
		if h = wantDo(t, h, 0); len(h.Threads[0].Pend) != 0 || len(h.Threads[0].Log) != 3 || len(h.Threads[0].Left) != 5 {
			t.Fatalf("the write in PIdle: got %+v", h.Threads[0])
		}
	}
}

// number is the next of a row of numbers all over, the same ones each time.
func number(seed *uint64, n int) int {
	*seed = *seed*6364136223846793005 + 1442695040888963407
	return int(*seed >> 33 % uint64(n))
}

// program are things to do, all over: most of them are of a kind that may be done.
func program(n int, seed *uint64) []api.Op {
	var l []api.Op
	for range n {
		o := api.Op{Kind: 1 + number(seed, 9), H: number(seed, 5), I: number(seed, 4), K: number(seed, 5), V: uint64(number(seed, 1<<30)) * uint64(number(seed, 1<<31))}
		switch number(seed, 14) {
		case 0, 1:
			o.Kind = api.OAlloc
		case 2:
			o.Kind, o.H, o.I = number(seed, 14), number(seed, 20)-2, number(seed, 20)-2
		case 3:
			o.Kind = api.OPop + number(seed, 2)
		case 4, 5:
			o.Kind = api.OPush
		}
		o.New = api.Head{Tag: 1 + number(seed, 200), Len: number(seed, 5)}
		o.New.Map = uint64(number(seed, 1<<o.New.Len))
		if number(seed, 20) == 0 {
			o.New = api.Head{Tag: number(seed, 256), Len: number(seed, 19), Map: uint64(number(seed, 70))}
		}
		l = append(l, o)
	}
	return l
}

// begun is a heap without objects, for threads with programs all over.
func begun(seed *uint64) api.Heap {
	words := 16 + number(seed, 150)
	space := number(seed, 2)
	h := api.Heap{M: marked(words), From: api.Bump{Space: space, Limit: words}, To: api.Bump{Space: 1 - space, Limit: words}, Size: number(seed, 20), Log: 1 + number(seed, 5)}
	for range 1 + number(seed, 4) {
		h.Threads = append(h.Threads, api.Thread{Left: program(5+number(seed, 90), seed)})
	}
	return h
}

// loosened is a heap in which somebody may go on, where nobody could: the phase is another one, logs are empty, and who waited goes on with the next thing. Nobody has done it but the test.
func loosened(h api.Heap, seed *uint64) api.Heap {
	h = twice(h)
	h.Phase = []int{api.PIdle, api.PCopy, api.PCopy, api.PStop}[number(seed, 4)]
	for i := range h.Threads {
		t := &h.Threads[i]
		if number(seed, 3) == 0 {
			t.Log = nil
		}
		if t.Want {
			t.Want, t.Left = false, t.Left[1:]
		}
	}
	return h
}

// P17.3: a right heap stays right over long rows of steps, no other thread changes, and it is what the graph is told to be.
func TestLongRows(t *testing.T) {
	seen, wants, entries := map[api.Errno]int{}, 0, 0
	for seed := range uint64(150) {
		step := seed
		h := begun(&step)
		g := graph.New(len(h.Threads))
		for range 250 {
			can := slices.DeleteFunc([]int{-1, 0, 1, 2, 3, 4}, func(th int) bool { return !act.Can(h, th) })
			if len(can) == 0 {
				h = loosened(h, &step)
				continue
			}
			if th := number(&step, 6) - 1; !act.Can(h, th) {
				wantDo(t, h, th)
			}
			was, th := h, can[number(&step, len(can))]
			h = wantDo(t, h, th)
			if len(h.Order) == len(was.Order) {
				entries += len(h.Threads[th].Log) - len(was.Threads[th].Log)
				wants += len(was.Threads[th].Log) + 1 - len(h.Threads[th].Log)
				continue
			}
			var a api.Answer
			g, a = graph.Do(g, th, was.Threads[th].Left[0])
			if last(h, th) != a || h.Order[len(was.Order)] != th {
				t.Fatalf("%d: Do(%+v, %d): got %+v, want %+v", seed, was, th, h, a)
			}
			seen[a.E]++
			if !view.Alike(h.M, rows(h), g) {
				t.Fatalf("%d: Do(%+v, %d): got %+v, which isn't alike %+v", seed, was, th, h, g)
			}
		}
	}
	for _, e := range []api.Errno{api.OK, api.ErrArg, api.ErrFull, api.ErrHandle, api.ErrNull, api.ErrField, api.ErrKind, api.ErrEmpty} {
		if seen[e] < 50 {
			t.Errorf("so many were answered so: %v", seen)
		}
	}
	if wants < 1000 || entries < 200 {
		t.Errorf("so many waited: %d; so many entries were logged: %d", wants, entries)
	}
}

// P17.3: all rows of three steps of a thread with two objects, in the shortest memory.
func TestAllShort(t *testing.T) {
	m := marked(16)
	lay(m, here(0), both(), 3, 0, 5)
	lay(m, here(5), pointers(1), here(5))
	h := api.Heap{M: m, From: api.Bump{At: 8, Limit: 16}, To: api.Bump{Space: 1, Limit: 16}, Size: 6, Log: 1, Threads: []api.Thread{{Stack: []uint64{here(0), here(5)}}, {Stack: []uint64{here(0)}}}}
	ops := []api.Op{
		{Kind: api.OAlloc, New: pointers(1)}, {Kind: api.OAlloc, New: scalars(3)}, {Kind: api.OGet, H: 0, I: 2}, {Kind: api.OGet, H: 2}, {Kind: api.OFollow, H: 0, I: 1}, {Kind: api.OFollow, H: 1}, {Kind: api.OSet, H: 0, V: 1 << 40},
		{Kind: api.OLink, H: 0, I: 1, K: 1}, {Kind: api.OLink, H: 1, K: 2}, {Kind: api.OAdd, H: 0, I: 2, V: 0xffff_ffff}, {Kind: api.OMul, H: 0, I: 2, V: 0x8000_0003}, {Kind: api.OSame, H: 1, K: 2}, {Kind: api.OPush, H: 1}, {Kind: api.OPop}, {Kind: api.OCollect},
	}
	for n := range 15 * 15 * 15 * 2 {
		k := doing(h, 0, ops[n%15], ops[n/15%15], ops[n/225%15])
		k.Phase = n / 3375
		for range 5 {
			k = wantDo(t, k, 0)
		}
	}
}

// R1: as much as a heap may have: 4096 words, 4 threads, full logs, many things to do and to have done, in both spaces.
func TestFull(t *testing.T) {
	for space := range 2 {
		h := api.Heap{M: marked(4096), From: api.Bump{Space: space, Limit: 4096}, To: api.Bump{Space: 1 - space, At: 4096, Limit: 4096}, Size: 4096, Log: 64, Scan: 4096, Flips: math.MaxInt}
		for range 4 {
			h.Threads = append(h.Threads, api.Thread{Log: make([]api.Entry, 64)})
		}
		h.Threads[3].Left = slices.Repeat([]api.Op{{Kind: api.OAlloc, New: pointers(16)}, {Kind: api.OLink, I: 15}, {Kind: api.OPush}, {Kind: api.OFollow, I: 15}, {Kind: api.OPop}, {Kind: api.OPop}, {Kind: api.OPop}}, 228)
		h.Threads[3].Done = make([]api.Answer, 5000)
		n := 0
		for ; act.Can(h, 3); n++ {
			then := act.Do(h, 3)
			// Each step is held against the measure where something is made, or isn't.
			if n%7 == 0 && n%100 < 20 || n > 227*7-3 {
				then = wantDo(t, h, 3)
			}
			h = then
		}
		if k := h.Threads[3]; n != 227*7+1 || !k.Want || len(k.Done) != 5000+227*7 || h.From.At != 4096 || k.Buf != (api.Buf{}) || !act.Right(h) || at(h.M, address(space, 4086))[0] != first(filler(10)) {
			t.Errorf("%d steps were done: got %+v, going on at %d", n, h.Threads[3].Buf, h.From.At)
		}
	}
}

// scrambled writes into all rows of a heap, and behind them.
func scrambled(h api.Heap) {
	for space := range 2 {
		for i, l := 0, append(h.M.Sp[space], 9); i < len(l); i++ {
			l[i] += 7
		}
	}
	for i, l := 0, append(h.Order, 9); i < len(l); i++ {
		l[i] += 7
	}
	for _, t := range h.Threads {
		for i, l := 0, append(t.Stack, 9); i < len(l); i++ {
			l[i] += 7
		}
		for i, l := 0, append(t.Log, api.Entry{Obj: 9}); i < len(l); i++ {
			l[i].Field += 7
		}
		for i, l := 0, append(t.Pend, api.Entry{Obj: 9}); i < len(l); i++ {
			l[i].Field += 7
		}
		for i, l := 0, append(t.Left, api.Op{Kind: 9}); i < len(l); i++ {
			l[i].Kind += 7
		}
		for i, l := 0, append(t.Done, api.Answer{V: 9}); i < len(l); i++ {
			l[i].V += 7
		}
	}
	for i, l := 0, append(h.Threads, api.Thread{}); i < len(l); i++ {
		l[i] = api.Thread{Want: true}
	}
}

// values are steps of all kinds: each is a heap and a thread that can do something.
func values() ([]api.Heap, []int) {
	var l []api.Heap
	var who []int
	of := func(h api.Heap, th int, kind int) {
		for i := range h.Threads {
			h.Threads[i].Log = append(h.Threads[i].Log, api.Entry{Obj: 3})
			h.Threads[i].Left = append(h.Threads[i].Left, api.Op{Kind: kind}, api.Op{Kind: api.OPush}, api.Op{Kind: api.OPop})
		}
		l, who = append(l, h), append(who, th)
	}
	for space := range 2 {
		for phase := range 2 {
			for kind := range 13 {
				h := phased(told(space), phase)
				h.Log = 9
				of(doing(h, 0, api.Op{Kind: kind, H: 0, K: 3, V: 5, New: scalars(1)}), 0, kind)
				of(doing(h, 0, api.Op{Kind: kind, H: 0, I: 1, K: 3, V: 5, New: scalars(5)}), 0, kind)
				of(doing(h, 1, api.Op{Kind: kind, H: 9, New: pointers(4)}), 1, kind)
				of(doing(h, 2, api.Op{Kind: kind, H: 1, I: 1, New: scalars(0)}), 2, kind)
				h.Threads[1].Pend, h.Threads[3].Pend = []api.Entry{{Obj: 7}}, []api.Entry{{Obj: 5}}
				of(h, 3, kind)
			}
		}
	}
	return l, who
}

// R3: what comes out is one's own: what is written into it, or behind its rows, isn't seen in what was handed in, nor the other way round; nor are later calls.
func TestHeapsAreValues(t *testing.T) {
	calls := []func(h api.Heap, th int) api.Heap{
		act.Do,
		func(h api.Heap, th int) api.Heap { return act.Answer(h, th, api.Answer{V: 4}) },
	}
	l, who := values()
	for i, h := range l {
		for _, call := range calls {
			given := roomy(h)
			out := call(given, who[i])
			was := twice(out)
			if same(out, h) {
				t.Fatalf("nothing was done: %+v", h)
			}
			// Later calls on it, of all threads, over some steps.
			for th := range 4 {
				for n, k := 0, out; n < 4; n++ {
					act.Answer(k, th, api.Answer{V: 8})
					k = act.Do(k, th)
					act.Right(k)
					act.Same(k, out)
				}
			}
			if !same(out, was) || !same(given, h) || !clean(given) {
				t.Fatalf("behind later calls: %+v, %+v, it was %+v, %+v", out, given, was, h)
			}
			scrambled(out)
			if !same(given, h) || !clean(given) {
				t.Fatalf("behind what was written into what came out: %+v, it was %+v", given, h)
			}
			out = call(given, who[i])
			scrambled(given)
			if !same(out, was) {
				t.Fatalf("behind what was written into what was handed in: %+v, it was %+v", out, was)
			}
		}
	}
}

// R3: no two rows of what comes out share anything: what is written behind one of them isn't seen in another.
func TestRowsAreApart(t *testing.T) {
	l, who := values()
	for i, h := range l {
		out := act.Do(h, who[i])
		was := twice(out)
		for space := range 2 {
			_ = append(out.M.Sp[space], 1, 2, 3, 4, 5, 6, 7, 8, 9)
		}
		_ = append(out.Order, 1, 2, 3, 4, 5, 6, 7, 8, 9)
		_ = append(out.Threads, make([]api.Thread, 9)...)
		for _, k := range out.Threads {
			_ = append(k.Stack, 1, 2, 3, 4, 5, 6, 7, 8, 9)
			_ = append(k.Log, make([]api.Entry, 9)...)
			_ = append(k.Pend, make([]api.Entry, 9)...)
			_ = append(k.Left, make([]api.Op, 9)...)
			_ = append(k.Done, make([]api.Answer, 9)...)
		}
		if !same(out, was) {
			t.Fatalf("behind what was written behind its rows: %+v, it was %+v", out, was)
		}
	}
}

// R4: the same once more, whatever was called between.
func TestSameOnceMore(t *testing.T) {
	l, who := values()
	var outs []api.Heap
	for i, h := range l {
		outs = append(outs, act.Do(h, who[i]))
	}
	for i := range l {
		n := len(l) - 1 - i
		if got := act.Do(l[n], who[n]); !same(got, outs[n]) || !act.Same(got, outs[n]) || !act.Can(l[n], who[n]) || !act.Right(l[n]) {
			t.Fatalf("Do once more: got %+v, and %+v", got, outs[n])
		}
	}
}

// R1: of heaps that aren't right nothing is promised, but that every call ends, and that what was handed in is as it was.
func TestEveryCallEnds(t *testing.T) {
	ops := []api.Op{}
	for kind := range 13 {
		ops = append(ops, api.Op{Kind: kind, New: scalars(2), V: 3}, api.Op{Kind: kind, I: 1, New: pointers(16)}, api.Op{Kind: kind, H: math.MinInt, I: math.MaxInt, K: math.MinInt, New: filler(3)})
	}
	for i, c := range slices.Concat(spaces(), bounds(), free()) {
		for n, o := range ops {
			if (i+n)%4 != 0 {
				continue
			}
			h := told(i % 2)
			for th := range h.Threads {
				h.Threads[th].Left = []api.Op{o}
			}
			h.Phase = n % 2
			c.do(&h)
			was := twice(h)
			for th := -1; th < 6; th++ {
				k := act.Do(h, th)
				for next := range 3 {
					k = act.Do(k, next)
				}
				act.Right(k)
				act.Can(k, th)
				act.Answer(k, th, api.Answer{})
			}
			if !same(h, was) {
				t.Fatalf("what was handed in was %+v, and is %+v", was, h)
			}
		}
	}
	for _, h := range []api.Heap{{}, {Threads: make([]api.Thread, 9)}, {Threads: []api.Thread{{Left: ops[3:]}}}, {Threads: []api.Thread{{Stack: make([]uint64, 40), Left: ops[6:]}}, Phase: 1, Log: 1}} {
		for th := -1; th < 10; th++ {
			for k := range 30 {
				h = act.Do(h, th)
				h = act.Answer(h, k-1, api.Answer{})
			}
			act.Right(h)
		}
	}
}
