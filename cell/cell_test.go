package cell_test

import (
	"fmt"
	"math"
	"math/rand/v2"
	"runtime"
	"slices"
	"strings"
	"testing"
	"weak"

	"ligature/api"
	"ligature/cell"
	"ligature/clock"
)

const most = api.MaxLive

// made is what a transaction has made of an element: a value, or nothing.
type made struct {
	value string
	is    bool
}

func (m made) String() string {
	if !m.is {
		return "gone"
	}
	return fmt.Sprintf("%q", m.value)
}

type version struct {
	by int
	made
}

// element is a Cell as the document tells it, in two ways: by its versions, and by what it was for
// each transaction when that began, from which Read and Check follow without any version.
type element struct {
	versions []version
	now      made         // what the commits have made of it
	changed  int          // the number of the last commit that did
	then     map[int]made // what it was when a live transaction began
	own      map[int]made // what a live transaction has made of it
}

// world is a Clock with some Cells, and what the document says of them.
type world struct {
	t        *testing.T
	clock    *clock.Clock
	cells    []*cell.Cell[string]
	elements []*element
	begun    int
	commits  int
	live     []int
	mark     map[int]int // the number of commits when a transaction began
	place    map[int]int // the number of the commit of a transaction
	past     []string    // the steps so far, for messages
}

func newWorld(t *testing.T, cells int) *world {
	w := &world{t: t, clock: clock.New(), mark: map[int]int{}, place: map[int]int{}}
	for range cells {
		w.cells = append(w.cells, cell.New[string]())
		w.elements = append(w.elements, &element{then: map[int]made{}, own: map[int]made{}})
	}
	return w
}

func (w *world) say(format string, a ...any) { w.past = append(w.past, fmt.Sprintf(format, a...)) }

func (w *world) fail(format string, a ...any) {
	w.t.Helper()
	w.t.Fatalf("%s\nafter %s", fmt.Sprintf(format, a...), strings.Join(w.past, ", "))
}

func (w *world) begin() int {
	w.t.Helper()
	n, err := w.clock.Begin()
	if err != api.OK {
		w.fail("Begin: %d", err)
	}
	w.say("%d begins", n)
	w.begun++
	w.mark[n] = w.commits
	w.live = append(w.live, n)
	for _, e := range w.elements {
		e.then[n] = e.now
	}
	return n
}

// end takes n from the live ones.
func (w *world) end(n int) {
	w.live = slices.DeleteFunc(w.live, func(l int) bool { return l == n })
	for _, e := range w.elements {
		delete(e.then, n)
		delete(e.own, n)
	}
}

func (w *world) commit(n int) {
	w.t.Helper()
	if err := w.clock.Commit(n); err != api.OK {
		w.fail("Commit(%d): %d", n, err)
	}
	w.say("%d commits", n)
	w.commits++
	w.place[n] = w.commits
	for _, e := range w.elements {
		if m, ok := e.own[n]; ok {
			e.now, e.changed = m, w.commits
		}
	}
	w.end(n)
}

// abort aborts n. Undo is called in all Cells, before or after that.
func (w *world) abort(n int, before bool) {
	w.t.Helper()
	if before {
		w.undoAll(n)
	}
	if err := w.clock.Abort(n); err != api.OK {
		w.fail("Abort(%d): %d", n, err)
	}
	w.say("%d aborts", n)
	if !before {
		w.undoAll(n)
	}
	w.end(n)
}

func (w *world) undoAll(n int) {
	for i := range w.cells {
		w.undo(i, n)
	}
}

// undo calls Undo, of a transaction that is not committed.
func (w *world) undo(i, n int) {
	w.say("%d: undo %d", i, n)
	w.cells[i].Undo(n)
	e := w.elements[i]
	delete(e.own, n)
	e.versions = slices.DeleteFunc(e.versions, func(v version) bool { return v.by == n })
}

// clashes: another live one has written the element, or one has committed since n began.
func (w *world) clashes(i, n int) bool {
	e := w.elements[i]
	for other := range e.own {
		if other != n {
			return true
		}
	}
	return e.changed > w.mark[n]
}

func (w *world) check(i, n int) api.Errno {
	if w.clashes(i, n) {
		return api.ErrClash
	}
	return api.OK
}

func (w *world) read(i, n int) made {
	e := w.elements[i]
	if m, ok := e.own[n]; ok {
		return m
	}
	return e.then[n]
}

// write has n write a value, or remove the element. The value of a removal is handed in as well, and
// must never be seen again.
func (w *world) write(i, n int, m made) api.Errno {
	w.t.Helper()
	want := w.check(i, n)
	value := m.value
	if !m.is {
		value = "of a removal"
	}
	got := w.cells[i].Write(w.clock, n, value, !m.is)
	w.say("%d: %d writes %v (%d)", i, n, m, got)
	if got != want {
		w.fail("Write(%d): got %d, want %d", n, got, want)
	}
	if want != api.OK {
		return want
	}
	e := w.elements[i]
	e.own[n] = m
	if last := len(e.versions) - 1; last >= 0 && e.versions[last].by == n {
		e.versions[last].made = m
	} else {
		e.versions = append(e.versions, version{n, m})
	}
	return want
}

func (w *world) settled(by int) bool {
	if w.place[by] == 0 {
		return false
	}
	for _, n := range w.live {
		if w.place[by] > w.mark[n] {
			return false
		}
	}
	return true
}

// obsolete returns the place of the first obsolete version, or -1.
func (w *world) obsolete(i int) int {
	l := w.elements[i].versions
	for k, v := range l {
		if k == 0 && !v.is && w.settled(v.by) {
			return k
		}
		for _, later := range l[k+1:] {
			if w.settled(later.by) {
				return k
			}
		}
	}
	return -1
}

func (w *world) sweep(i int) bool {
	w.t.Helper()
	k := w.obsolete(i)
	got := w.cells[i].Sweep(w.clock)
	w.say("%d: sweep (%t)", i, got)
	if got != (k >= 0) {
		w.fail("Sweep: got %t, and the first obsolete version is at %d", got, k)
	}
	if k >= 0 {
		e := w.elements[i]
		e.versions = slices.Delete(e.versions, k, k+1)
	}
	return got
}

// sweepAll sweeps a Cell until there is nothing to sweep, and looks at all after each time.
func (w *world) sweepAll(i int) {
	w.t.Helper()
	for w.sweep(i) {
		w.wantAll()
	}
	w.wantAll()
}

// told returns what Each tells.
func told[T any](x *cell.Cell[T]) []T {
	var l []T
	x.Each(func(v T) { l = append(l, v) })
	return l
}

// wantAll asks all Cells for all that they tell, for every live transaction.
func (w *world) wantAll() {
	w.t.Helper()
	for i, x := range w.cells {
		e := w.elements[i]
		if got := x.Len(); got != len(e.versions) {
			w.fail("Len: got %d, want %v", got, e.versions)
		}
		var values []string
		for _, v := range e.versions {
			if v.is {
				values = append(values, v.value)
			}
		}
		if got := told(x); !slices.Equal(got, values) {
			w.fail("Each: got %q, want %v", got, e.versions)
		}
		if got := x.Spare(w.clock); got != (w.obsolete(i) >= 0) {
			w.fail("Spare: got %t, with %v", got, e.versions)
		}
		for _, n := range w.live {
			w.wantRead(i, n)
			if got := x.Check(w.clock, n); got != w.check(i, n) {
				w.fail("Check(%d): got %d, with %v", n, got, e.versions)
			}
		}
	}
}

func (w *world) wantRead(i, n int) {
	w.t.Helper()
	if v, ok := w.cells[i].Read(w.clock, n); (made{v, ok}) != w.read(i, n) {
		w.fail("Read(%d): got %q, %t, want %v, with %v", n, v, ok, w.read(i, n), w.elements[i].versions)
	}
}

// wantLater asks what one that begins now reads.
func (w *world) wantLater() {
	w.t.Helper()
	if len(w.live) == most {
		return
	}
	n := w.begin()
	w.wantAll()
	w.abort(n, true)
	w.wantAll()
}

func is(value string) made { return made{value, true} }

var gone = made{}

// committed has a new transaction write the first Cell and commit.
func (w *world) committed(l ...made) {
	w.t.Helper()
	for _, m := range l {
		n := w.begin()
		if w.write(0, n, m) != api.OK {
			w.fail("Write(%d) is refused", n)
		}
		w.commit(n)
		w.wantAll()
	}
}

// wants asks the first Cell for exactly these versions, as a test itself writes them out.
func (w *world) wants(l ...made) {
	w.t.Helper()
	w.wantAll()
	var values []string
	for _, m := range l {
		if m.is {
			values = append(values, m.value)
		}
	}
	if got := told(w.cells[0]); w.cells[0].Len() != len(l) || !slices.Equal(got, values) {
		w.fail("got %d versions, %q, want %v", w.cells[0].Len(), got, l)
	}
}

func (w *world) wantsRead(n int, want made) {
	w.t.Helper()
	if v, ok := w.cells[0].Read(w.clock, n); (made{v, ok}) != want {
		w.fail("Read(%d): got %q, %t, want %v", n, v, ok, want)
	}
}

func (w *world) wantsCheck(n int, want api.Errno) {
	w.t.Helper()
	if got := w.cells[0].Check(w.clock, n); got != want {
		w.fail("Check(%d): got %d, want %d", n, got, want)
	}
}

func (w *world) wantsWrite(n int, m made, want api.Errno) {
	w.t.Helper()
	if got := w.write(0, n, m); got != want {
		w.fail("Write(%d): got %d, want %d", n, got, want)
	}
}

func (w *world) wantsSpare(want bool) {
	w.t.Helper()
	if got := w.cells[0].Spare(w.clock); got != want {
		w.fail("Spare: got %t", got)
	}
}

func (w *world) wantsSweep(want bool) {
	w.t.Helper()
	if got := w.sweep(0); got != want {
		w.fail("Sweep: got %t", got)
	}
}

// P7.1

func TestCellWithoutVersions(t *testing.T) {
	if cell.New[string]() == nil || cell.New[string]() == cell.New[string]() {
		t.Fatal("New returns no new Cell")
	}
	w := newWorld(t, 1)
	look := func() {
		t.Helper()
		w.wants()
		w.wantsSpare(false)
		w.wantsSweep(false)
		for _, n := range w.live {
			w.wantsRead(n, gone)
			w.wantsCheck(n, api.OK)
			w.undo(0, n)
		}
	}
	look()
	for range most {
		w.begin()
		look()
	}
	w.commit(2)
	w.abort(3, true)
	look()
	w.wantsWrite(4, is("a"), api.OK)
	w.wants(is("a"))
}

func TestAWriteIsReadByItsWriterOnly(t *testing.T) {
	w := newWorld(t, 1)
	a, b := w.begin(), w.begin()
	w.wantsWrite(a, is("p"), api.OK)
	w.wantsRead(a, is("p"))
	w.wantsRead(b, gone)
	c := w.begin()
	w.wantsRead(c, gone)
	w.commit(a)
	d := w.begin()
	w.wantsRead(b, gone)
	w.wantsRead(c, gone)
	w.wantsRead(d, is("p"))
	w.wants(is("p"))
}

func TestReadConsidersTheLastVisibleVersion(t *testing.T) {
	// Each of the old ones has its own version, with visible ones before it and others after it.
	w := newWorld(t, 1)
	var old []int
	old = append(old, w.begin())
	w.committed(is("a"), is("b"))
	old = append(old, w.begin())
	w.committed(gone)
	old = append(old, w.begin())
	w.committed(is("d"))
	w.wantsRead(old[0], gone)
	w.wantsRead(old[1], is("b"))
	w.wantsRead(old[2], gone)
	last := w.begin()
	w.wantsRead(last, is("d"))
	w.wantsWrite(last, is("e"), api.OK)
	w.wantsRead(last, is("e"))
	w.wants(is("a"), is("b"), gone, is("d"), is("e"))
	w.wantsRead(old[1], is("b"))
}

func TestATransactionThatWritesAgainHasOneVersion(t *testing.T) {
	for _, older := range [][]made{nil, {is("a")}, {is("a"), gone}, {is("a"), is("b")}} {
		for _, l := range [][]made{
			{is("p"), is("q")}, {is("p"), gone}, {gone, is("p")}, {gone, gone}, {is("p"), is("p")},
			{is("p"), gone, is("q")}, {gone, is("p"), gone}, {is("p"), is("q"), is("r"), is("")},
		} {
			w := newWorld(t, 1)
			w.committed(older...)
			n, other := w.begin(), w.begin()
			for _, m := range l {
				w.wantsWrite(n, m, api.OK)
				w.wants(append(older[:len(older):len(older)], m)...)
				w.wantsRead(n, m)
				w.wantsCheck(n, api.OK)
				w.wantsCheck(other, api.ErrClash)
			}
			w.commit(n)
			later := w.begin()
			w.wantsRead(later, l[len(l)-1])
			w.wants(append(older[:len(older):len(older)], l[len(l)-1])...)
		}
	}
}

func TestTwoWritersInTurnHaveTwoVersions(t *testing.T) {
	w := newWorld(t, 1)
	a := w.begin()
	w.wantsWrite(a, is("p"), api.OK)
	w.commit(a)
	b := w.begin()
	w.wantsWrite(b, is("q"), api.OK)
	w.wants(is("p"), is("q"))
	w.wantsWrite(b, is("r"), api.OK)
	w.wants(is("p"), is("r"))
}

func TestRefusedWhileAnotherLiveOneHasWritten(t *testing.T) {
	for _, first := range []made{is("p"), gone} {
		w := newWorld(t, 1)
		w.committed(is("a"))
		older, a, b := w.begin(), w.begin(), w.begin()
		w.wantsCheck(b, api.OK)
		w.wantsWrite(a, first, api.OK)
		younger := w.begin()
		for _, n := range []int{older, b, younger} {
			for range 2 {
				w.wantsCheck(n, api.ErrClash)
				w.wantsWrite(n, is("q"), api.ErrClash)
				w.wantsWrite(n, gone, api.ErrClash)
				w.wants(is("a"), first)
				w.wantsRead(n, is("a"))
			}
		}
		w.wantsCheck(a, api.OK)
		w.wantsRead(a, first)
	}
}

func TestRefusedAfterTheOtherHasCommitted(t *testing.T) {
	for _, first := range []made{is("p"), gone} {
		w := newWorld(t, 1)
		w.committed(is("a"))
		older, a, b := w.begin(), w.begin(), w.begin()
		w.wantsWrite(a, first, api.OK)
		w.commit(a)
		for _, n := range []int{older, b} {
			w.wantsCheck(n, api.ErrClash)
			w.wantsWrite(n, is("q"), api.ErrClash)
			w.wantsWrite(n, gone, api.ErrClash)
			w.wants(is("a"), first)
			w.wantsRead(n, is("a"))
		}
		later := w.begin()
		w.wantsCheck(later, api.OK)
		w.wantsWrite(later, is("r"), api.OK)
		w.wants(is("a"), first, is("r"))
		w.wantsCheck(older, api.ErrClash)
	}
}

func TestNotRefusedAfterTheOtherHasAborted(t *testing.T) {
	for _, before := range []bool{false, true} {
		for _, first := range []made{is("p"), gone} {
			w := newWorld(t, 1)
			w.committed(is("a"))
			older, a, b := w.begin(), w.begin(), w.begin()
			w.wantsWrite(a, first, api.OK)
			w.wantsCheck(b, api.ErrClash)
			w.abort(a, before)
			w.wants(is("a"))
			for _, n := range []int{older, b} {
				w.wantsCheck(n, api.OK)
				w.wantsRead(n, is("a"))
			}
			w.wantsWrite(b, is("q"), api.OK)
			w.wantsCheck(older, api.ErrClash)
			w.wants(is("a"), is("q"))
		}
	}
}

func TestOnlyTheLastVersionIsChecked(t *testing.T) {
	// Of the writers, the old one conflicts with a version that is not the last one either.
	w := newWorld(t, 1)
	old := w.begin()
	w.committed(is("a"), is("b"))
	young := w.begin()
	w.wantsCheck(old, api.ErrClash)
	w.wantsCheck(young, api.OK)
	w.wantsWrite(young, is("c"), api.OK)
	w.abort(young, false)
	w.wantsCheck(old, api.ErrClash)
}

func TestARemovedElement(t *testing.T) {
	w := newWorld(t, 1)
	w.committed(is("a"))
	before := w.begin()
	n := w.begin()
	w.wantsWrite(n, gone, api.OK)
	w.wantsRead(n, gone)
	w.wantsRead(before, is("a"))
	w.commit(n)
	after := w.begin()
	w.wantsRead(before, is("a"))
	w.wantsRead(after, gone)
	w.wantsCheck(before, api.ErrClash)
	w.wantsCheck(after, api.OK)
	w.wantsWrite(after, is("b"), api.OK)
	w.wantsRead(after, is("b"))
	w.wantsRead(before, is("a"))
	w.wants(is("a"), gone, is("b"))
	w.commit(after)
	later := w.begin()
	w.wantsRead(later, is("b"))
	w.wantsRead(before, is("a"))
	w.wantsCheck(before, api.ErrClash)
}

func TestARemovalOfNothing(t *testing.T) {
	w := newWorld(t, 1)
	n, other := w.begin(), w.begin()
	w.wantsWrite(n, gone, api.OK)
	w.wants(gone)
	w.wantsRead(n, gone)
	w.wantsCheck(other, api.ErrClash)
	w.commit(n)
	w.wants(gone)
	w.wantsCheck(other, api.ErrClash)
	w.wantsRead(w.begin(), gone)
}

func TestUndo(t *testing.T) {
	for _, older := range [][]made{nil, {is("a")}, {is("a"), gone}} {
		for _, m := range []made{is("p"), gone} {
			w := newWorld(t, 1)
			w.committed(older...)
			n, other := w.begin(), w.begin()
			was := w.read(0, n)
			w.wantsWrite(n, m, api.OK)
			for range 2 {
				w.undo(0, n)
				w.wants(older...)
				w.wantsRead(n, was)
				w.wantsRead(other, was)
				w.wantsCheck(n, api.OK)
				w.wantsCheck(other, api.OK)
			}
			// It is still live, and may write again.
			w.wantsWrite(n, is("q"), api.OK)
			w.wants(append(older[:len(older):len(older)], is("q"))...)
			w.wantsCheck(other, api.ErrClash)
			w.abort(n, false)
			w.wants(older...)
		}
	}
}

func TestUndoOfOneThatHasWrittenNothing(t *testing.T) {
	w := newWorld(t, 1)
	w.committed(is("a"))
	idle, n, other := w.begin(), w.begin(), w.begin()
	for range 2 {
		w.undo(0, idle)
		w.wants(is("a"))
	}
	w.wantsWrite(n, is("b"), api.OK)
	w.wantsWrite(other, is("c"), api.ErrClash)
	for _, m := range []int{idle, other, 0, -1, -n, n + 100, math.MaxInt, math.MinInt} {
		w.cells[0].Undo(m)
		w.wants(is("a"), is("b"))
		w.wantsRead(n, is("b"))
	}
	w.abort(idle, false)
	w.wants(is("a"), is("b"))
	w.commit(n)
	w.abort(other, true)
	w.wants(is("a"), is("b"))
}

func TestUndoAfterAnotherHasWritten(t *testing.T) {
	// Between Abort and Undo the version does not conflict, so that it need not be the last one.
	for _, l := range [][2]int{{2, 3}, {3, 2}} {
		aborted, other := l[0], l[1]
		c, x := clock.New(), cell.New[string]()
		c.Begin()
		x.Write(c, 1, "a", false)
		c.Commit(1)
		c.Begin()
		c.Begin()
		x.Write(c, aborted, "b", false)
		c.Abort(aborted)
		if err := x.Write(c, other, "c", false); err != api.OK || x.Len() != 3 {
			t.Fatalf("Write: got %d, and %d versions", err, x.Len())
		}
		x.Undo(aborted)
		if got := told(x); !slices.Equal(got, []string{"a", "c"}) || x.Len() != 2 {
			t.Errorf("got %q", got)
		}
		if v, ok := x.Read(c, other); v != "c" || !ok {
			t.Errorf("Read: got %q, %t", v, ok)
		}
	}
}

// P7.2

func TestExample(t *testing.T) {
	w := newWorld(t, 1)
	w.committed(is("a"), is("b"), gone)
	for _, n := range []int{1, 2, 3} {
		if !w.clock.Settled(n) {
			t.Fatalf("%d is not settled", n)
		}
	}
	w.wants(is("a"), is("b"), gone)
	w.wantsSweep(true)
	w.wants(is("b"), gone)
	w.wantsSweep(true)
	w.wants(gone)
	w.wantsSweep(true)
	w.wants()
	w.wantsSweep(false)
	if got := w.cells[0].Len(); got != 0 {
		t.Errorf("got %d", got)
	}
}

func TestObsoleteWithoutLiveOnes(t *testing.T) {
	for _, x := range []struct{ versions, left []made }{
		{nil, nil},
		{[]made{is("a")}, []made{is("a")}},
		{[]made{gone}, nil},
		{[]made{is("a"), is("b")}, []made{is("b")}},
		{[]made{is("a"), gone}, nil},
		{[]made{gone, is("a")}, []made{is("a")}},
		{[]made{gone, gone}, nil},
		{[]made{is("a"), gone, is("b")}, []made{is("b")}},
		{[]made{is("a"), is("b"), is("c"), is("d")}, []made{is("d")}},
		{[]made{is("a"), gone, is("b"), gone}, nil},
	} {
		w := newWorld(t, 1)
		w.committed(x.versions...)
		for left := x.versions; len(left) > len(x.left); left = left[1:] {
			w.wants(left...)
			w.wantsSpare(true)
			w.wantsSweep(true)
			w.wants(left[1:]...)
		}
		w.wantsSpare(false)
		w.wantsSweep(false)
		w.wants(x.left...)
		w.wantLater()
	}
}

func TestObsoleteWithOneFromBeforeTheCommit(t *testing.T) {
	for _, last := range []made{is("b"), gone} {
		w := newWorld(t, 1)
		w.committed(is("a"))
		old := w.begin()
		w.committed(last)
		w.wantsSpare(false)
		w.wantsSweep(false)
		w.wants(is("a"), last)
		w.wantsRead(old, is("a"))
		// One that began after it changes nothing.
		young := w.begin()
		w.wantsSpare(false)
		w.wantsSweep(false)
		w.wantsRead(young, last)
		w.abort(old, true)
		w.wantsSpare(true)
		w.wantsSweep(true)
		w.wants(last)
		w.wantsSpare(!last.is)
		w.wantsRead(young, last)
	}
}

func TestObsoleteWithOneFromAfterTheCommit(t *testing.T) {
	for _, last := range []made{is("b"), gone} {
		w := newWorld(t, 1)
		w.committed(is("a"), last)
		young := w.begin()
		w.wantsSpare(true)
		w.wantsSweep(true)
		w.wants(last)
		w.wantsRead(young, last)
		w.wantsSpare(!last.is)
		w.wantsSweep(!last.is)
		w.wantsRead(young, last)
		w.wantsCheck(young, api.OK)
		w.wantsSpare(false)
		w.wantsSweep(false)
	}
}

func TestObsoleteWithOneFromBetween(t *testing.T) {
	w := newWorld(t, 1)
	w.committed(is("a"), is("b"))
	old := w.begin()
	w.committed(is("c"), is("d"))
	w.wantsSweep(true)
	w.wants(is("b"), is("c"), is("d"))
	w.wantsSweep(false)
	w.wantsRead(old, is("b"))
	w.commit(old)
	w.sweepAll(0)
	w.wants(is("d"))
}

func TestALiveWriterMakesNothingObsolete(t *testing.T) {
	for _, m := range []made{is("b"), gone} {
		w := newWorld(t, 1)
		w.committed(is("a"))
		n := w.begin()
		w.wantsWrite(n, m, api.OK)
		w.wantsSpare(false)
		w.wantsSweep(false)
		w.wants(is("a"), m)
		w.commit(n)
		w.wantsSpare(true)
	}
}

func TestALaterSettledWriterNeedNotBeTheNext(t *testing.T) {
	// The version between is of one that was aborted, and is not undone yet.
	c, x := clock.New(), cell.New[string]()
	for i, v := range []string{"a", "b", "c"} {
		c.Begin()
		x.Write(c, i+1, v, false)
		if i == 1 {
			c.Abort(2)
		} else {
			c.Commit(i + 1)
		}
	}
	if x.Len() != 3 || !x.Spare(c) || !x.Sweep(c) {
		t.Fatal("the first version is not obsolete")
	}
	if got := told(x); !slices.Equal(got, []string{"b", "c"}) {
		t.Errorf("got %q", got)
	}
}

func TestFirstVersionGoneAndSettled(t *testing.T) {
	w := newWorld(t, 1)
	w.committed(gone)
	n := w.begin()
	w.wantsSpare(true)
	w.wantsWrite(n, is("a"), api.OK)
	w.wantsSpare(true) // whatever is behind it
	w.wantsSweep(true)
	w.wants(is("a"))
	w.wantsRead(n, is("a"))
	w.wantsSweep(false)
	w.undo(0, n)
	w.wants()
	w.wantsRead(n, gone)
	w.wantsCheck(n, api.OK)
}

func TestFirstVersionGoneAndNotSettled(t *testing.T) {
	w := newWorld(t, 1)
	old := w.begin()
	n := w.begin()
	w.wantsWrite(n, gone, api.OK)
	w.wantsSpare(false) // it is live
	w.wantsSweep(false)
	w.commit(n)
	w.wantsSpare(false) // old began before it was committed, and must be refused
	w.wantsSweep(false)
	w.wants(gone)
	w.wantsCheck(old, api.ErrClash)
	w.committed(is("a"))
	w.wantsSpare(false)
	w.wantsSweep(false)
	w.wants(gone, is("a"))
	w.commit(old)
	w.wantsSweep(true)
	w.wants(is("a"))
}

func TestAGoneVersionThatIsNotTheFirst(t *testing.T) {
	w := newWorld(t, 1)
	w.committed(is("a"))
	old := w.begin()
	w.committed(gone)
	middle := w.begin()
	w.committed(is("b"))
	w.wantsSpare(false)
	w.abort(old, false)
	// Now the removal is settled: a is obsolete because of what is later, and the removal is not yet.
	w.wantsSweep(true)
	w.wants(gone, is("b"))
	w.wantsRead(middle, gone)
	// Now it is the first one.
	w.wantsSweep(true)
	w.wants(is("b"))
	w.wantsRead(middle, gone)
	w.wantsCheck(middle, api.ErrClash)
	w.wantsSweep(false)
}

func TestASettledRemovalBehindAValueIsNotSweptFirst(t *testing.T) {
	w := newWorld(t, 1)
	w.committed(is("a"), gone)
	w.wantsSweep(true)
	w.wants(gone)
}

func TestFirstVersionSettledAndNotGone(t *testing.T) {
	w := newWorld(t, 1)
	w.committed(is("a"))
	for range most {
		w.wantsSpare(false)
		w.wantsSweep(false)
		w.wants(is("a"))
		w.wantsRead(w.begin(), is("a"))
	}
}

func TestEachTellsInOrderAndWithoutTheGone(t *testing.T) {
	w := newWorld(t, 1)
	w.begin()
	w.committed(is("b"), gone, is(""), is("a"), gone, gone, is("b"))
	w.wants(is("b"), gone, is(""), is("a"), gone, gone, is("b"))
	if got := told(w.cells[0]); !slices.Equal(got, []string{"b", "", "a", "b"}) {
		t.Errorf("got %q", got)
	}
	n := w.begin()
	w.wantsWrite(n, is("c"), api.OK) // a live one's too
	if got := told(w.cells[0]); !slices.Equal(got, []string{"b", "", "a", "b", "c"}) {
		t.Errorf("got %q", got)
	}
}

func TestEachOfNoFunction(t *testing.T) {
	w := newWorld(t, 1)
	w.cells[0].Each(nil)
	w.committed(is("a"), is("b"))
	w.cells[0].Each(nil)
	w.wants(is("a"), is("b"))
}

func TestEachWithAFunctionThatChangesTheCell(t *testing.T) {
	for _, change := range []struct {
		name string
		make func(w *world, n int)
		left []made
	}{
		{"write", func(w *world, n int) { w.write(0, n, is("z")) }, []made{is("a"), is("b"), is("z")}},
		{"remove", func(w *world, n int) { w.write(0, n, gone) }, []made{is("a"), is("b"), gone}},
		{"sweep", func(w *world, n int) { w.sweep(0) }, []made{is("b"), is("c")}},
		{"undo", func(w *world, n int) { w.undo(0, n) }, []made{is("a"), is("b")}},
	} {
		w := newWorld(t, 1)
		w.committed(is("a"), is("b"))
		n := w.begin()
		w.wantsWrite(n, is("c"), api.OK)
		var got []string
		w.cells[0].Each(func(v string) {
			got = append(got, v)
			change.make(w, n)
		})
		if !slices.Equal(got, []string{"a", "b", "c"}) {
			t.Errorf("%s: got %q", change.name, got)
		}
		w.wants(change.left...)
	}
}

func TestAskingChangesNothing(t *testing.T) {
	w := newWorld(t, 1)
	w.committed(is("a"), gone)
	w.begin()
	w.committed(is("b"))
	n := w.begin()
	w.wantsWrite(n, is("c"), api.OK)
	for range 100 {
		w.wants(is("a"), gone, is("b"), is("c"))
		w.wantsSpare(true)
	}
}

func TestALongChain(t *testing.T) {
	const long = 20000
	c, x := clock.New(), cell.New[int]()
	old, _ := c.Begin()
	for i := range long {
		n, _ := c.Begin()
		if err := x.Write(c, n, i, false); err != api.OK {
			t.Fatalf("Write %d: got %d", i, err)
		}
		c.Commit(n)
	}
	if x.Len() != long || x.Spare(c) || x.Sweep(c) {
		t.Fatalf("got %d versions", x.Len())
	}
	if _, ok := x.Read(c, old); ok || x.Check(c, old) != api.ErrClash {
		t.Error("the old one reads, or may write")
	}
	c.Commit(old)
	n, _ := c.Begin()
	for left := long; left > 1; left-- {
		if v, ok := x.Read(c, n); v != long-1 || !ok || x.Len() != left {
			t.Fatalf("got %d, %t, of %d", v, ok, x.Len())
		}
		if !x.Sweep(c) {
			t.Fatalf("Sweep: false, with %d left", left)
		}
	}
	if x.Sweep(c) || x.Len() != 1 {
		t.Errorf("got %d versions", x.Len())
	}
}

// P7.3

func TestSweepChangesNoResult(t *testing.T) {
	// For each set of moments: one transaction begins there and stays, and then all is swept.
	l := []made{is("a"), is("b"), gone, is("c"), gone}
	for set := range 1 << (len(l) + 1) {
		for _, write := range []bool{false, true} {
			w := newWorld(t, 1)
			for i := range len(l) + 1 {
				if set>>i&1 == 1 && len(w.live) < most-1 {
					w.begin()
				}
				if i < len(l) {
					w.committed(l[i])
				}
			}
			if n := w.begin(); write {
				w.wantsWrite(n, is("z"), api.OK)
			}
			type answer struct {
				read  made
				check api.Errno
			}
			all := func() map[int]answer {
				m := map[int]answer{}
				for _, n := range w.live {
					v, ok := w.cells[0].Read(w.clock, n)
					m[n] = answer{made{v, ok}, w.cells[0].Check(w.clock, n)}
				}
				return m
			}
			before := all()
			for w.sweep(0) {
				for n, a := range all() {
					if a != before[n] {
						w.fail("%d: got %v, and %v before", n, a, before[n])
					}
				}
				w.wantAll()
			}
			w.wantLater()
		}
	}
}

func TestSweepChangesNothingForLaterOnes(t *testing.T) {
	for _, last := range []made{is("b"), gone, is("")} {
		w := newWorld(t, 1)
		w.committed(is("a"), last)
		for {
			w.wantLater()
			if !w.sweep(0) {
				break
			}
		}
		n := w.begin()
		w.wantsRead(n, last)
		w.wantsWrite(n, is("c"), api.OK)
		w.wantsRead(n, is("c"))
		w.commit(n)
		w.wantsRead(w.begin(), is("c"))
	}
}

// passed writes a value, and asks whether it is returned as it was.
func passed[T any](t *testing.T, v T, same func(a, b T) bool) {
	t.Helper()
	c, x := clock.New(), cell.New[T]()
	look := func(n int) {
		t.Helper()
		if got, ok := x.Read(c, n); !ok || !same(got, v) {
			t.Errorf("Read: got %v, %t, want %v", got, ok, v)
		}
		if l := told(x); len(l) != 1 || !same(l[0], v) {
			t.Errorf("Each: got %v, want %v", l, v)
		}
	}
	a, _ := c.Begin()
	if err := x.Write(c, a, v, false); err != api.OK {
		t.Fatalf("Write: got %d", err)
	}
	look(a)
	c.Commit(a)
	b, _ := c.Begin()
	look(b)
	// A removal has the zero value, whatever was handed in.
	var zero T
	if err := x.Write(c, b, v, true); err != api.OK {
		t.Fatalf("Write: got %d", err)
	}
	if got, ok := x.Read(c, b); ok || !same(got, zero) {
		t.Errorf("Read of a removal: got %v, %t", got, ok)
	}
	if l := told(x); len(l) != 1 || !same(l[0], v) {
		t.Errorf("Each beside a removal: got %v", l)
	}
}

func equal[T comparable](a, b T) bool { return a == b }

func TestValuesAreReturnedAsTheyWerePassed(t *testing.T) {
	for _, v := range []string{"", "a", "\x00", "\xff\xfe", strings.Repeat("ab", 1<<16)} {
		passed(t, v, equal[string])
	}
	for _, v := range []int{0, 1, -1, math.MaxInt, math.MinInt} {
		passed(t, v, equal[int])
	}
	passed(t, true, equal[bool])
	passed(t, false, equal[bool])
	passed(t, struct{}{}, equal[struct{}])
	passed(t, [3]int{1, 2, 3}, equal[[3]int])
	passed(t, api.Edge{From: 1, To: 2, Type: "t", W: 2.5}, equal[api.Edge])
	passed(t, api.Edge{}, equal[api.Edge])
	passed(t, &api.Edge{From: 3}, equal[*api.Edge])
	passed(t, nil, equal[*api.Edge])
	passed(t, nil, equal[any])
	passed[any](t, 7, equal[any])
	passed[error](t, api.ErrClash, equal[error])
	bits := func(a, b float64) bool { return math.Float64bits(a) == math.Float64bits(b) }
	for _, v := range []float64{0, math.Copysign(0, -1), math.Inf(1), math.NaN(), math.Float64frombits(0xfff8000000000123)} {
		passed(t, v, bits)
	}
	node := func(a, b api.Node) bool { return slices.Equal(a.Labels, b.Labels) && slices.Equal(a.Props, b.Props) }
	passed(t, api.Node{}, node)
	passed(t, api.Node{Labels: []string{"a", "b"}, Props: []api.Prop{{Key: "k", V: api.Val{Kind: api.Text, T: "x"}}}}, node)
}

func TestSlicesAndFunctionsAreReturnedAsTheyWerePassed(t *testing.T) {
	whole := []int{1, 2, 3, 4}
	passed(t, whole[1:2:3], func(a, b []int) bool {
		return (a == nil) == (b == nil) && len(a) == len(b) && cap(a) == cap(b) && (len(a) == 0 || &a[0] == &b[0])
	})
	passed(t, []int{}, func(a, b []int) bool { return len(a) == 0 && len(b) == 0 })
	if !slices.Equal(whole, []int{1, 2, 3, 4}) {
		t.Errorf("the argument is now %v", whole)
	}
	passed(t, func() int { return 5 }, func(a, b func() int) bool {
		return (a == nil) == (b == nil) && (a == nil || a() == b())
	})
}

func TestNilCell(t *testing.T) {
	nilCell(t, "a")
	nilCell(t, 7)
	nilCell(t, api.Edge{From: 1})
	nilCell(t, struct{}{})
}

func nilCell[T comparable](t *testing.T, v T) {
	t.Helper()
	var x *cell.Cell[T]
	var zero T
	c := clock.New()
	c.Begin()
	c.Begin()
	c.Commit(2)
	for _, k := range []*clock.Clock{c, nil} {
		for _, n := range []int{1, 2, 3, 0, -1, math.MaxInt, math.MinInt} {
			for _, gone := range []bool{false, true} {
				if got := x.Write(k, n, v, gone); got != api.ErrNone {
					t.Errorf("Write: got %d", got)
				}
			}
			if got := x.Check(k, n); got != api.ErrNone {
				t.Errorf("Check: got %d", got)
			}
			if got, ok := x.Read(k, n); got != zero || ok {
				t.Errorf("Read: got %v, %t", got, ok)
			}
			x.Undo(n)
		}
		if x.Spare(k) || x.Sweep(k) || x.Len() != 0 {
			t.Error("it has versions")
		}
	}
	x.Each(func(v T) { t.Errorf("Each: got %v", v) })
	x.Each(nil)
}

// What holds everywhere

func TestCellsDoNotKnowOneAnother(t *testing.T) {
	w := newWorld(t, 3)
	a, b := w.begin(), w.begin()
	w.write(0, a, is("p"))
	w.write(1, b, is("q"))
	w.wantAll()
	if w.write(1, a, is("r")) != api.ErrClash || w.write(2, a, is("s")) != api.OK {
		t.Error("the Cells are mixed up")
	}
	w.wantAll()
	w.undo(0, a)
	w.wantAll()
	w.abort(b, true)
	w.wantAll()
	w.commit(a)
	w.wantAll()
	w.wants()
}

func TestACopiedCellGoesOn(t *testing.T) {
	w := newWorld(t, 1)
	w.committed(is("a"), is("b"))
	other := *w.cells[0]
	w.cells[0] = &other
	w.wants(is("a"), is("b"))
	w.wantsSweep(true)
	w.committed(is("c"))
	w.wants(is("b"), is("c"))
}

func TestAZeroCellHasNoVersions(t *testing.T) {
	w := newWorld(t, 1)
	w.cells[0] = new(cell.Cell[string])
	w.wants()
	w.wantsSweep(false)
	w.committed(is("a"))
	w.wants(is("a"))
}

func TestNothingPanics(t *testing.T) {
	// What these return is not specified, but that they return is.
	numbers := []int{0, 1, 2, 3, 4, -1, math.MaxInt, math.MinInt}
	for _, c := range []*clock.Clock{nil, clock.New(), {}} {
		x := cell.New[string]()
		for range 2 {
			for _, n := range numbers {
				x.Write(c, n, "a", false)
				x.Write(c, n, "a", n%2 == 0)
				x.Read(c, n)
				x.Check(c, n)
				x.Spare(c)
				x.Sweep(c)
				x.Len()
				told(x)
			}
			for _, n := range numbers[1:] {
				x.Undo(n)
			}
			c.Begin()
		}
	}
}

// large is a value that is told apart from others by its address.
type large struct{ next *large }

func TestWhatIsRemovedIsNotKept(t *testing.T) {
	c, x := clock.New(), cell.New[*large]()
	// write returns a pointer that does not keep the value.
	write := func(n int, gone bool) weak.Pointer[large] {
		v := &large{new(large)}
		x.Write(c, n, v, gone)
		return weak.Make(v)
	}
	kept := func(p weak.Pointer[large]) bool {
		runtime.GC()
		return p.Value() != nil
	}
	c.Begin()
	first := write(1, false)
	if !kept(first) {
		t.Fatal("a value that can be read is not kept")
	}
	second := write(1, false)
	if kept(first) || !kept(second) {
		t.Error("a value that was replaced is kept")
	}
	c.Commit(1)
	c.Begin()
	if kept(write(2, true)) {
		t.Error("the value of a removal is kept")
	}
	third := write(2, false)
	x.Undo(2)
	if kept(third) || !kept(second) {
		t.Error("a value that was undone is kept")
	}
	fourth := write(2, false)
	c.Commit(2)
	if !x.Sweep(c) || kept(second) || !kept(fourth) {
		t.Error("a value that was swept is kept")
	}
	runtime.KeepAlive(x)
}

// P7.1 to P7.3 together

// step is one call, or an abort with its Undo.
type step struct {
	kind int
	cell int
	n    int
}

const (
	begin = iota
	commit
	abortFirst
	undoFirst
	write
	remove
	undo
	sweep
)

// do makes a step. Values are told apart by the number of the step, and some are empty.
func (w *world) do(x step) {
	w.t.Helper()
	switch x.kind {
	case begin:
		w.begin()
	case commit:
		w.commit(x.n)
	case abortFirst, undoFirst:
		w.abort(x.n, x.kind == undoFirst)
	case write:
		value := ""
		if k := len(w.past); k%5 != 4 {
			value = fmt.Sprint("v", k)
		}
		w.write(x.cell, x.n, is(value))
	case remove:
		w.write(x.cell, x.n, gone)
	case undo:
		w.undo(x.cell, x.n)
	default:
		w.sweep(x.cell)
	}
}

// next returns the steps that are possible, with at most so many live transactions.
func (w *world) next(live int) []step {
	l := []step{{kind: sweep}}
	if len(w.live) < live {
		l = append(l, step{kind: begin})
	}
	for _, n := range w.live {
		for _, kind := range []int{commit, abortFirst, write, remove} {
			l = append(l, step{kind: kind, n: n})
		}
	}
	return l
}

func TestEveryShortSequence(t *testing.T) {
	seen := 0
	var extend func(h []step, left int)
	extend = func(h []step, left int) {
		seen++
		w := newWorld(t, 1)
		for _, x := range h {
			w.do(x)
		}
		w.wantAll()
		next := w.next(3)
		w.wantLater()
		w.sweepAll(0)
		w.wantLater()
		if left == 0 {
			return
		}
		for _, x := range next {
			extend(append(h[:len(h):len(h)], x), left-1)
		}
	}
	extend(nil, 7)
	if seen < 100000 {
		t.Errorf("only %d sequences", seen)
	}
}

// follow makes the steps of a script on two Cells.
func follow(t *testing.T, script []byte) {
	w := newWorld(t, 2)
	for _, b := range script {
		k, i, rest := int(b)%16, int(b)/16%2, int(b)/32
		if k < 2 && len(w.live) < most || len(w.live) == 0 && k < 12 {
			w.do(step{kind: begin})
		} else if k >= 14 || len(w.live) == 0 {
			w.do(step{kind: sweep, cell: i})
		} else {
			kind := [...]int{commit, commit, commit, abortFirst, undoFirst, undo, remove, remove, remove, write, write, write, write, write}[k]
			w.do(step{kind, i, w.live[rest%len(w.live)]})
		}
		w.wantAll()
	}
	w.wantLater()
	w.sweepAll(0)
	w.sweepAll(1)
	w.wantLater()
}

func TestLongScripts(t *testing.T) {
	random := rand.New(rand.NewPCG(7, 7))
	for range 2000 {
		script := make([]byte, random.IntN(120))
		for i := range script {
			script[i] = byte(random.Uint32())
		}
		follow(t, script)
	}
}

func FuzzCell(f *testing.F) {
	f.Add([]byte{0, 9, 10, 2, 0, 7, 0, 2, 14, 14})
	f.Add([]byte{0, 0, 0, 9, 41, 73, 3, 0, 25, 4, 14, 30})
	f.Fuzz(func(t *testing.T, script []byte) { follow(t, script[:min(len(script), 120)]) })
}
