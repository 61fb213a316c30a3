package log_test

import (
	"math"
	"slices"
	"testing"

	"dovecote/api"
	"dovecote/log"
)

// greatest is the greatest word.
const greatest = math.MaxUint64

// mark stands in the room behind a log's end: no call may change it, and none may tell it.
var mark = api.Entry{Obj: 0xabadcafe_12345678, Field: -77}

// Numbers far outside of all that may be: sums and differences of them go round at 2^64.
var far = []int{math.MinInt, math.MinInt + 1, math.MinInt + 64, -(1 << 62), -(1 << 32), -65, -64, -63, 4096, 1<<31 - 1, 1 << 31, 1<<32 - 1, 1 << 32, 1<<32 + 1, 1 << 62, math.MaxInt - 64, math.MaxInt - 1, math.MaxInt}

// lengths are those of the edges, and longer ones.
var lengths = []int{0, 1, 2, 3, 62, 63, 64, 65, 66, 127, 128, 129, 1000}

// entries are of the edges: many differ in one part alone, or have their parts turned round, or the same sum of them.
var entries = []api.Entry{
	{}, {Obj: 0, Field: 1}, {Obj: 1, Field: 0}, {Obj: 0, Field: -1}, {Obj: 1, Field: 1}, {Obj: 1, Field: -1},
	{Obj: 5, Field: 0}, {Obj: 5, Field: 1}, {Obj: 6, Field: 0}, {Obj: 4, Field: 2}, {Obj: 5, Field: 15}, {Obj: 5, Field: 16},
	{Obj: 1 << 32, Field: 5}, {Obj: 1<<32 + 5, Field: 0}, {Obj: 2<<32 + 5, Field: 0}, {Obj: 2 << 32, Field: 5}, {Obj: 1 << 63, Field: 5},
	{Obj: greatest, Field: 0}, {Obj: greatest - 1, Field: 1}, {Obj: greatest, Field: -1}, {Obj: greatest, Field: 1}, {Obj: 0, Field: 1 << 32},
	{Obj: greatest, Field: math.MaxInt}, {Obj: greatest, Field: math.MinInt}, {Obj: 0, Field: math.MinInt}, {Obj: 0, Field: math.MaxInt}, {Obj: 5, Field: 5 + 1<<32},
}

// at is an entry of an object's field.
func at(obj uint64, field int) api.Entry { return api.Entry{Obj: obj, Field: field} }

// logOf is one of so many entries: the first ones of the edges, then many others, of which some come again.
func logOf(n int) []api.Entry {
	l := make([]api.Entry, n)
	for i := range l {
		if l[i] = at(1<<32+uint64(i*i%97), i%5); i < len(entries) {
			l[i] = entries[(i*5+n)%len(entries)]
		}
	}
	return l
}

// roomy is a log once more, with so many marks in the room behind its end.
func roomy(l []api.Entry, room int) []api.Entry {
	n := len(l)
	out := make([]api.Entry, n+room)
	copy(out, l)
	for i := range room {
		out[n+i] = mark
	}
	return out[:n]
}

// forms are a log in each way it may be handed in: with room behind its end, and without; of none, nil, too.
func forms(l []api.Entry) [][]api.Entry {
	out := [][]api.Entry{roomy(l, 0), roomy(l, 1), roomy(l, 20)}
	if len(l) == 0 {
		out = append(out, nil)
	}
	return out
}

// logsOf are logs of so many entries each, with room behind their ends; those below 0 are nil.
func logsOf(lens ...int) [][]api.Entry {
	out := make([][]api.Entry, len(lens), len(lens)+1)
	for i, n := range lens {
		if n >= 0 {
			out[i] = roomy(logOf(n), i%3)
		}
	}
	return out
}

// whole is a log with the room behind its end.
func whole(l []api.Entry) []api.Entry { return l[:cap(l)] }

// held looks, behind some calls, whether logs are as they were, with the room behind their ends.
func held(t *testing.T, logs ...[]api.Entry) func() {
	t.Helper()
	var before [][]api.Entry
	for _, l := range logs {
		before = append(before, slices.Clone(whole(l)))
	}
	return func() {
		t.Helper()
		for i, l := range logs {
			if !slices.Equal(whole(l), before[i]) {
				t.Fatalf("what was handed in was %v, and is %v", before[i], whole(l))
			}
		}
	}
}

// alike: are two rows of logs the same?
func alike(a, b [][]api.Entry) bool { return slices.EqualFunc(a, b, slices.Equal) }

// The measures: each call's promise in the plainest words, by places alone.

// add is what Add must answer.
func add(l []api.Entry, e api.Entry, most int) ([]api.Entry, api.Errno) {
	if len(l) >= most || len(l) >= 64 {
		return l, 4
	}
	out := make([]api.Entry, len(l)+1)
	copy(out, l)
	out[len(l)] = e
	return out, 0
}

// first is what First must answer.
func first(l []api.Entry) (api.Entry, []api.Entry, bool) {
	if len(l) < 1 {
		return api.Entry{}, l, false
	}
	out := make([]api.Entry, len(l)-1)
	for i := range out {
		out[i] = l[i+1]
	}
	return l[0], out, true
}

// next is what Next must answer.
func next(l [][]api.Entry) (int, bool) {
	for place, one := range l {
		if len(one) > 0 {
			return place, true
		}
	}
	return 0, false
}

// many is what Many must answer.
func many(l [][]api.Entry) int {
	n := 0
	for _, one := range l {
		for range one {
			n++
		}
	}
	return n
}

// once is what Once must answer.
func once(l []api.Entry) []api.Entry {
	var out []api.Entry
next:
	for place, e := range l {
		for _, later := range l[place+1:] {
			if later.Obj == e.Obj && later.Field == e.Field {
				continue next
			}
		}
		out = append(out, e)
	}
	return out
}

func wantAdd(t *testing.T, l []api.Entry, e api.Entry, most int) []api.Entry {
	t.Helper()
	look := held(t, l)
	want, f := add(l, e, most)
	got, g := log.Add(l, e, most)
	if !slices.Equal(got, want) || g != f {
		t.Fatalf("Add(%v, %v, %d): got %v, %d, want %v, %d", l, e, most, got, g, want, f)
	}
	look()
	return got
}

func wantFirst(t *testing.T, l []api.Entry) (api.Entry, []api.Entry, bool) {
	t.Helper()
	look := held(t, l)
	e, rest, is := log.First(l)
	if f, want, was := first(l); e != f || !slices.Equal(rest, want) || is != was {
		t.Fatalf("First(%v): got %v, %v, %t, want %v, %v, %t", l, e, rest, is, f, want, was)
	}
	look()
	return e, rest, is
}

// wantLogs holds Next and Many against the measures.
func wantLogs(t *testing.T, l [][]api.Entry) (int, bool, int) {
	t.Helper()
	look, before := held(t, l...), slices.Clone(l)
	place, is := log.Next(l)
	if p, was := next(l); place != p || is != was {
		t.Fatalf("Next(%v): got %d, %t, want %d, %t", l, place, is, p, was)
	}
	n := log.Many(l)
	if want := many(l); n != want {
		t.Fatalf("Many(%v): got %d, want %d", l, n, want)
	}
	look()
	if !alike(l, before) {
		t.Fatalf("Next and Many of %v: what was handed in is %v", before, l)
	}
	return place, is, n
}

func wantOnce(t *testing.T, l []api.Entry) []api.Entry {
	t.Helper()
	look := held(t, l)
	got := log.Once(l)
	if want := once(l); !slices.Equal(got, want) {
		t.Fatalf("Once(%v): got %v, want %v", l, got, want)
	}
	look()
	return got
}

// P10.1, P10.2: the example: Add of (5, 0), of (5, 1), of (5, 0): Once tells (5, 1), (5, 0).
func TestExample(t *testing.T) {
	for _, l := range forms(nil) {
		for _, e := range []api.Entry{at(5, 0), at(5, 1), at(5, 0)} {
			var f api.Errno
			if l, f = log.Add(l, e, 3); f != 0 {
				t.Fatalf("Add of %v: %d", e, f)
			}
		}
		if want := []api.Entry{{Obj: 5, Field: 0}, {Obj: 5, Field: 1}, {Obj: 5, Field: 0}}; !slices.Equal(l, want) {
			t.Errorf("Add: got %v", l)
		}
		if got := log.Once(l); !slices.Equal(got, []api.Entry{{Obj: 5, Field: 1}, {Obj: 5, Field: 0}}) {
			t.Errorf("Once: got %v", got)
		}
	}
}

// P10.1: an entry is added behind, as long as there are fewer than most, and fewer than 64; else it is refused, and the log is as it was (R2).
func TestAdd(t *testing.T) {
	for _, x := range []struct {
		n, most int
		e       api.Errno
	}{
		{0, math.MinInt, api.ErrFull}, {0, -1, api.ErrFull}, {0, 0, api.ErrFull}, {0, 1, api.OK}, {0, 64, api.OK}, {0, math.MaxInt, api.OK},
		{1, math.MinInt, api.ErrFull}, {1, -1, api.ErrFull}, {1, 0, api.ErrFull}, {1, 1, api.ErrFull}, {1, 2, api.OK}, {1, math.MaxInt, api.OK},
		{10, 9, api.ErrFull}, {10, 10, api.ErrFull}, {10, 11, api.OK}, {10, 63, api.OK}, {10, 64, api.OK}, {10, 65, api.OK},
		{62, 62, api.ErrFull}, {62, 63, api.OK}, {62, 64, api.OK}, {62, 65, api.OK},
		{63, 0, api.ErrFull}, {63, 62, api.ErrFull}, {63, 63, api.ErrFull}, {63, 64, api.OK}, {63, 65, api.OK}, {63, math.MaxInt, api.OK},
		{64, -1, api.ErrFull}, {64, 63, api.ErrFull}, {64, 64, api.ErrFull}, {64, 65, api.ErrFull}, {64, 66, api.ErrFull}, {64, math.MaxInt, api.ErrFull},
		{65, 0, api.ErrFull}, {65, 64, api.ErrFull}, {65, 65, api.ErrFull}, {65, 66, api.ErrFull}, {65, math.MinInt, api.ErrFull}, {65, math.MaxInt, api.ErrFull},
		{1000, 1000, api.ErrFull}, {1000, 1001, api.ErrFull}, {1000, math.MaxInt, api.ErrFull},
	} {
		for _, l := range forms(logOf(x.n)) {
			want := logOf(x.n)
			if x.e == api.OK {
				want = append(want, at(7, 3))
			}
			if got, e := log.Add(l, at(7, 3), x.most); !slices.Equal(got, want) || e != x.e {
				t.Errorf("Add behind %d, of at most %d: got %v, %d", x.n, x.most, got, e)
			}
		}
	}
}

// P10.1: logs of all lengths of the edges, with as many as there are, some less, some more, those of the edges and those far outside for most.
func TestAddMeasured(t *testing.T) {
	for i, n := range lengths {
		mosts := append([]int{-1, 0, 1, 63, 64, 65, n - 2, n - 1, n, n + 1, n + 2, -n, -n - 1}, far...)
		for _, l := range forms(logOf(n)) {
			for j, most := range mosts {
				wantAdd(t, l, entries[(i+j)%len(entries)], most)
			}
		}
	}
}

// P10.1: each entry of the edges is kept as it is, also where the log has it already.
func TestAddOfEachEntry(t *testing.T) {
	for _, e := range entries {
		for _, n := range []int{0, 1, 30, 63, 64} {
			for _, l := range forms(logOf(n)) {
				wantAdd(t, wantAdd(t, l, e, 64), e, 64)
			}
		}
	}
}

// P10.1: the first one, and the others in order, of logs that are longer than may be, too; nothing, where there is none.
func TestFirst(t *testing.T) {
	for _, l := range forms(nil) {
		if e, rest, is := log.First(l); e != (api.Entry{}) || len(rest) != 0 || is {
			t.Errorf("First of none: got %v, %v, %t", e, rest, is)
		}
	}
	for _, x := range []struct {
		l    []api.Entry
		e    api.Entry
		rest []api.Entry
	}{
		{[]api.Entry{{}}, at(0, 0), nil}, // an entry whose parts are 0 is one
		{[]api.Entry{{Obj: 5, Field: 1}}, at(5, 1), nil},
		{[]api.Entry{{}, {}}, at(0, 0), []api.Entry{{}}},
		{[]api.Entry{{Obj: 5, Field: 1}, {Obj: 5, Field: 1}}, at(5, 1), []api.Entry{{Obj: 5, Field: 1}}}, // once alone
		{[]api.Entry{{Obj: 9, Field: 2}, {Obj: 5, Field: 1}, {Obj: 7, Field: 3}, {Obj: 9, Field: 2}}, at(9, 2), []api.Entry{{Obj: 5, Field: 1}, {Obj: 7, Field: 3}, {Obj: 9, Field: 2}}},
		{[]api.Entry{{Obj: greatest, Field: math.MinInt}, {Obj: 1, Field: math.MaxInt}}, at(greatest, math.MinInt), []api.Entry{{Obj: 1, Field: math.MaxInt}}},
	} {
		for _, l := range forms(x.l) {
			if e, rest, is := log.First(l); e != x.e || !slices.Equal(rest, x.rest) || !is {
				t.Errorf("First(%v): got %v, %v, %t", l, e, rest, is)
			}
		}
	}
	for _, n := range lengths {
		for _, l := range forms(logOf(n)) {
			wantFirst(t, l)
		}
	}
}

// P10.2: no logs, logs of none, and of which the first, one in the middle, or only the last has an entry.
func TestNextAndMany(t *testing.T) {
	for _, x := range []struct {
		lens  []int // below 0: nil
		place int
		is    bool
		n     int
	}{
		{nil, 0, false, 0},
		{[]int{-1}, 0, false, 0},
		{[]int{0}, 0, false, 0},
		{[]int{0, -1, 0, 0}, 0, false, 0},
		{[]int{1}, 0, true, 1},
		{[]int{64}, 0, true, 64},
		{[]int{1, 0, -1}, 0, true, 1},
		{[]int{1, 2, 3}, 0, true, 6},
		{[]int{-1, 1}, 1, true, 1},
		{[]int{0, 1, 0}, 1, true, 1},
		{[]int{0, -1, 5, 0}, 2, true, 5},
		{[]int{0, -1, 1, 7, 0, 2}, 2, true, 10}, // not the longest one, but the first
		{[]int{-1, -1, -1, 1}, 3, true, 1},
		{[]int{0, 0, 0, 0, 0, 63}, 5, true, 63},
		{[]int{0, 65, 0, 64, -1, 63, 1000}, 1, true, 1192},
	} {
		l := logsOf(x.lens...)
		if place, is := log.Next(l); place != x.place || is != x.is {
			t.Errorf("Next of logs of %v: got %d, %t", x.lens, place, is)
		}
		if n := log.Many(l); n != x.n {
			t.Errorf("Many of logs of %v: got %d", x.lens, n)
		}
	}
	if place, is := log.Next([][]api.Entry{}); place != 0 || is || log.Many([][]api.Entry{}) != 0 {
		t.Errorf("of no logs: got %d, %t", place, is)
	}
	if place, is := log.Next([][]api.Entry{nil, {{}}}); place != 1 || !is || log.Many([][]api.Entry{nil, {{}}}) != 1 {
		t.Errorf("an entry whose parts are 0 is one: got %d, %t", place, is)
	}
}

// rising goes through all rows of at most so many numbers of -1 to most.
func rising(n, most int) [][]int {
	out := [][]int{nil}
	for i := 0; i < len(out); i++ {
		if len(out[i]) == n {
			continue
		}
		for k := -1; k <= most; k++ {
			out = append(out, append(slices.Clone(out[i]), k))
		}
	}
	return out
}

// P10.2: all rows of at most five short logs, nil ones too; one log in each place of a long row; all lengths of the edges together.
func TestNextAndManyMeasured(t *testing.T) {
	for _, lens := range rising(5, 2) {
		wantLogs(t, logsOf(lens...))
	}
	for i := range 100 {
		for _, n := range []int{1, 2, 64, 65} {
			l := make([][]api.Entry, 100)
			l[i] = logOf(n)
			wantLogs(t, l)
			l[99] = roomy(logOf(3), 4)
			wantLogs(t, l)
		}
	}
	for i := range lengths {
		wantLogs(t, logsOf(lengths[i:]...))
		wantLogs(t, logsOf(lengths[:i]...))
	}
}

// P10.2: an empty log with room behind its end has no entry, whatever stands there; and so have logs behind the row's end none.
func TestRoomIsNoEntry(t *testing.T) {
	l := [][]api.Entry{roomy(nil, 3), roomy(nil, 20), {at(5, 1)}}
	if place, is := log.Next(l[:2]); place != 0 || is {
		t.Errorf("Next: got %d, %t", place, is)
	}
	if n := log.Many(l[:2]); n != 0 {
		t.Errorf("Many: got %d", n)
	}
	if place, is, n := wantLogs(t, l); place != 2 || !is || n != 1 {
		t.Errorf("got %d, %t, %d", place, is, n)
	}
}

// P10.2: nothing, entries that are all the same, all different, that differ in one part alone, that stand first and last, and side by side.
func TestOnce(t *testing.T) {
	for _, x := range []struct{ l, want []api.Entry }{
		{nil, nil},
		{[]api.Entry{}, nil},
		{[]api.Entry{{}}, []api.Entry{{}}}, // an entry whose parts are 0 is one
		{[]api.Entry{at(5, 1)}, []api.Entry{at(5, 1)}},
		{[]api.Entry{at(5, 1), at(5, 1)}, []api.Entry{at(5, 1)}},
		{[]api.Entry{at(5, 1), at(5, 1), at(5, 1), at(5, 1)}, []api.Entry{at(5, 1)}},
		{[]api.Entry{{}, {}, {}}, []api.Entry{{}}},
		{[]api.Entry{at(9, 2), at(2, 9), at(5, 0)}, []api.Entry{at(9, 2), at(2, 9), at(5, 0)}}, // in order, not rising
		{[]api.Entry{at(5, 0), at(5, 1), at(5, -1)}, []api.Entry{at(5, 0), at(5, 1), at(5, -1)}},
		{[]api.Entry{at(6, 1), at(5, 1), at(1<<32+5, 1)}, []api.Entry{at(6, 1), at(5, 1), at(1<<32+5, 1)}},
		{[]api.Entry{at(5, 0), at(6, 0), at(5, 1), at(5, 0)}, []api.Entry{at(6, 0), at(5, 1), at(5, 0)}},                     // first and last
		{[]api.Entry{at(6, 0), at(5, 0), at(5, 0), at(7, 0)}, []api.Entry{at(6, 0), at(5, 0), at(7, 0)}},                     // side by side
		{[]api.Entry{at(5, 0), at(5, 0), at(6, 0), at(5, 0)}, []api.Entry{at(6, 0), at(5, 0)}},                               // side by side, and later
		{[]api.Entry{at(5, 0), at(6, 0), at(5, 0), at(6, 0)}, []api.Entry{at(5, 0), at(6, 0)}},                               // by turns
		{[]api.Entry{at(5, 0), at(6, 0), at(6, 0), at(5, 0)}, []api.Entry{at(6, 0), at(5, 0)}},                               // there and back
		{[]api.Entry{at(5, 0), at(6, 0), at(7, 0), at(6, 0), at(8, 0)}, []api.Entry{at(5, 0), at(7, 0), at(6, 0), at(8, 0)}}, // in the middle
		{[]api.Entry{at(greatest, math.MinInt), at(greatest, math.MaxInt), at(greatest, math.MinInt)}, []api.Entry{at(greatest, math.MaxInt), at(greatest, math.MinInt)}},
	} {
		for _, l := range forms(x.l) {
			if got := log.Once(l); !slices.Equal(got, x.want) {
				t.Errorf("Once(%v): got %v, want %v", l, got, x.want)
			}
			wantOnce(t, l)
		}
	}
}

// P10.2: all short logs of entries that differ in one part alone; the edges in each turn; all lengths of the edges.
func TestOnceMeasured(t *testing.T) {
	few := []api.Entry{{}, {Obj: 1}, {Field: 1}, {Obj: 1, Field: 1}, {Obj: 0, Field: -1}}
	for _, places := range rising(5, 3) {
		var l []api.Entry
		for _, p := range places {
			l = append(l, few[p+1])
		}
		wantOnce(t, l)
	}
	for i := range entries {
		turned := slices.Concat(entries[i:], entries[:i])
		wantOnce(t, turned)
		wantOnce(t, slices.Concat(turned, entries))
		wantOnce(t, slices.Concat(entries[i:], entries[i:], turned, entries[:i]))
	}
	for _, n := range lengths {
		for _, l := range forms(logOf(n)) {
			wantOnce(t, l)
			wantOnce(t, slices.Concat(l, logOf(5), l))
		}
	}
}

// P10.2: what is told once is told once again as it is.
func TestOnceOfOnce(t *testing.T) {
	for _, n := range lengths {
		l := wantOnce(t, slices.Concat(logOf(n), logOf(n/2)))
		if got := wantOnce(t, l); !slices.Equal(got, l) {
			t.Fatalf("Once of %v, which has each once: got %v", l, got)
		}
	}
}

// P10.2: logs and rows of logs that are far longer than programs make them: the calls end soon all the same.
func TestVeryLong(t *testing.T) {
	const n = 1 << 17
	there, back, rows := make([]api.Entry, n), make([]api.Entry, n), make([][]api.Entry, n)
	for i := range n {
		there[i] = at(1<<32+uint64(i/16), i%16)
		back[n-1-i] = there[i]
	}
	if got := log.Once(slices.Concat(there, there, back)); !slices.Equal(got, back) {
		t.Errorf("Once: got %d entries", len(got))
	}
	if e, rest, is := log.First(there); e != there[0] || !slices.Equal(rest, there[1:]) || !is {
		t.Errorf("First: got %v, %d others, %t", e, len(rest), is)
	}
	if got, e := log.Add(there, at(5, 0), math.MaxInt); !slices.Equal(got, there) || e != api.ErrFull {
		t.Errorf("Add: got %d entries, %d", len(got), e)
	}
	if place, is := log.Next(rows); place != 0 || is || log.Many(rows) != 0 {
		t.Errorf("Next of logs of none: got %d, %t", place, is)
	}
	rows[n-1] = there
	if place, is := log.Next(rows); place != n-1 || !is || log.Many(rows) != n {
		t.Errorf("Next: got %d, %t", place, is)
	}
	for i := range rows {
		rows[i] = back[:3]
	}
	if place, is := log.Next(rows); place != 0 || !is || log.Many(rows) != 3*n {
		t.Errorf("Next: got %d, %t", place, is)
	}
}

// P10.3: what was added first is taken first, up to where it is full, down to where it is empty; as many are left less.
func TestFirstIn(t *testing.T) {
	for most := range 70 {
		var l []api.Entry
		n := min(most, 64)
		for i := range n {
			if l = wantAdd(t, l, entries[i%len(entries)], most); log.Many([][]api.Entry{l}) != i+1 {
				t.Fatalf("behind %d that were added: got %v", i+1, l)
			}
		}
		wantAdd(t, l, at(7, 3), most)
		for i := range n {
			e, rest, is := wantFirst(t, l)
			if e != entries[i%len(entries)] || !is || log.Many([][]api.Entry{rest}) != n-1-i {
				t.Fatalf("the one at the place %d: got %v, %v, %t", i, e, rest, is)
			}
			l = rest
		}
		if e, rest, is := wantFirst(t, l); e != (api.Entry{}) || len(rest) != 0 || is {
			t.Fatalf("behind all: got %v, %v, %t", e, rest, is)
		}
	}
}

// P10.3: a log's first one is the same behind what is added; and where one was taken of a full log, there is room for one more.
func TestTakenWhereItIsFull(t *testing.T) {
	for _, n := range []int{1, 2, 63, 64} {
		for _, l := range forms(logOf(n)) {
			wantAdd(t, l, at(7, 3), n)
			e, rest, _ := wantFirst(t, l)
			if n < 64 {
				if f, _, is := wantFirst(t, wantAdd(t, l, at(7, 3), n+1)); f != e || !is {
					t.Fatalf("First behind Add to %v: got %v, %t", l, f, is)
				}
			}
			if got := wantAdd(t, rest, at(7, 3), n); !slices.Equal(got, append(slices.Clone(l[1:]), at(7, 3))) {
				t.Fatalf("Add to %v without the first: got %v", l, got)
			}
		}
	}
}

// P10.3: logs of many threads are emptied, one entry of the Next log at a time: log by log, in order, one less left each time.
func TestEmptied(t *testing.T) {
	for _, lens := range [][]int{{}, {0, -1}, {3}, {1, 0, 2, -1}, {0, 64, 0, 63}, {-1, 0, 65, 5, 1}, {2, 2, 2, 2, 100}} {
		l := logsOf(lens...)
		look := held(t, l...)
		all := slices.Concat(l...)
		logs := slices.Clone(l)
		for i, want := range all {
			place, is, n := wantLogs(t, logs)
			if !is || n != len(all)-i {
				t.Fatalf("of logs of %v, behind %d: got %d, %t, %d", lens, i, place, is, n)
			}
			e, rest, _ := wantFirst(t, logs[place])
			if e != want {
				t.Fatalf("of logs of %v, behind %d: got %v, want %v", lens, i, e, want)
			}
			logs[place] = rest
		}
		if place, is, n := wantLogs(t, logs); place != 0 || is || n != 0 {
			t.Fatalf("of logs of %v, behind all: got %d, %t, %d", lens, place, is, n)
		}
		look()
	}
}

// P10.3: long rows of calls, as a row of numbers tells, held against the measures; no log that came out on the way is changed later.
func TestLongRowsOfCalls(t *testing.T) {
	for seed := range uint64(20) {
		l := roomy(nil, int(seed))
		var kept, had [][]api.Entry
		for range 500 {
			seed = seed*6364136223846793005 + 1442695040888963407
			if seed>>62 != 0 {
				l = wantAdd(t, l, entries[seed>>40%uint64(len(entries))], int(seed>>50%80))
			} else {
				_, l, _ = wantFirst(t, l)
			}
			kept, had = append(kept, l), append(had, slices.Clone(l))
		}
		for i := range kept {
			wantOnce(t, kept[i])
			if !slices.Equal(kept[i], had[i]) {
				t.Fatalf("the log behind step %d was %v, and is %v", i, had[i], kept[i])
			}
		}
		wantLogs(t, kept)
	}
}

// R3: what is added to a log isn't seen by who has another that goes on from it, also where there is room behind it.
func TestTwoGoOnFromOne(t *testing.T) {
	for n := range 64 {
		for _, l := range forms(logOf(n)) {
			look := held(t, l)
			a, _ := log.Add(l, at(41, 0), 64)
			b, _ := log.Add(l, at(42, 0), 64)
			c, _ := log.Add(b[:n], at(43, 0), 64) // cut by who has it: the 42 is room behind its end now
			if a[n] != at(41, 0) || b[n] != at(42, 0) || c[n] != at(43, 0) {
				t.Fatalf("Add to %v: got %v, %v, %v", l, a, b, c)
			}
			look()
			_, d, _ := log.First(b)
			e, _ := log.Add(d, at(44, 0), 64)
			f, _ := log.Add(d, at(45, 0), 64)
			g, _ := log.Add(d[:n-min(n, 1)], at(46, 0), 64)
			if b[n] != at(42, 0) || e[n] != at(44, 0) || f[n] != at(45, 0) || !slices.Equal(d, b[1:]) || g[len(g)-1] != at(46, 0) {
				t.Fatalf("First of %v, Add: got %v, %v, %v, %v", b, d, e, f, g)
			}
			look()
		}
	}
}

// R3: what is told once shares no room with what it was told of: each is added to, and the other is as it was.
func TestOnceIsAddedTo(t *testing.T) {
	for _, n := range []int{0, 1, 2, 20, 63} {
		for _, l := range forms(logOf(n)) {
			look := held(t, l)
			o := wantOnce(t, l)
			a, b := wantAdd(t, o, at(41, 0), 64), wantAdd(t, o, at(42, 0), 64)
			if a[len(o)] != at(41, 0) || b[len(o)] != at(42, 0) || !slices.Equal(o, once(l)) {
				t.Fatalf("Add to Once of %v: got %v, %v, %v", l, o, a, b)
			}
			look()
		}
	}
}

// R3: a log that is handed back with an error, or with no first one, is taken on like any other: who had it sees nothing of that.
func TestRefusedAndTakenOn(t *testing.T) {
	for _, n := range []int{64, 65, 100} {
		for _, l := range forms(logOf(n)) {
			look := held(t, l)
			a, e := log.Add(l, at(41, 0), math.MaxInt)
			if e != api.ErrFull {
				t.Fatalf("Add behind %d: got %d", n, e)
			}
			for range n - 63 {
				_, a, _ = log.First(a)
			}
			if a = wantAdd(t, a, at(42, 0), 64); !slices.Equal(a, append(logOf(n)[n-63:], at(42, 0))) {
				t.Fatalf("of %d: got %v", n, a)
			}
			look()
		}
	}
	for _, l := range forms(nil) {
		look := held(t, l)
		refused, _ := log.Add(l, at(41, 0), 0)
		_, none, _ := log.First(l)
		for _, a := range [][]api.Entry{refused, none} {
			if a = wantAdd(t, a, at(43, 0), 1); !slices.Equal(a, []api.Entry{at(43, 0)}) {
				t.Fatalf("of none: got %v", a)
			}
		}
		look()
	}
}

// R4: asked again, and with other calls between, the answers are the same.
func TestTheSameAgain(t *testing.T) {
	l := slices.Concat(logOf(20), logOf(30))
	told, added := log.Once(l), wantAdd(t, l, at(7, 3), 64)
	for range 50 {
		wantOnce(t, logOf(5))
		wantAdd(t, logOf(63), at(9, 1), 64)
		wantLogs(t, [][]api.Entry{nil, logOf(7)})
		_, rest, _ := wantFirst(t, l)
		wantAdd(t, rest, at(8, 2), 64)
		if !slices.Equal(log.Once(l), told) || !slices.Equal(wantAdd(t, l, at(7, 3), 64), added) {
			t.Fatal("asked again, it is answered something else")
		}
	}
}
