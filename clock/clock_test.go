package clock_test

import (
	"fmt"
	"math"
	"math/rand/v2"
	"testing"

	"ligature/api"
	"ligature/clock"
)

const most = api.MaxLive

// begun begins a transaction that must get number want.
func begun(t *testing.T, c *clock.Clock, want int) {
	t.Helper()
	if got, err := c.Begin(); got != want || err != api.OK {
		t.Fatalf("Begin: got %d, %d, want %d, OK", got, err, want)
	}
}

// beginAll begins the transactions from number first to number last.
func beginAll(t *testing.T, c *clock.Clock, first, last int) {
	t.Helper()
	for n := first; n <= last; n++ {
		begun(t, c, n)
	}
}

func wantFull(t *testing.T, c *clock.Clock) {
	t.Helper()
	if got, err := c.Begin(); got != 0 || err != api.ErrFull {
		t.Errorf("Begin: got %d, %d, want 0, ErrFull", got, err)
	}
}

func wantCommit(t *testing.T, c *clock.Clock, n int, want api.Errno) {
	t.Helper()
	if got := c.Commit(n); got != want {
		t.Errorf("Commit(%d): got %d, want %d", n, got, want)
	}
}

func wantAbort(t *testing.T, c *clock.Clock, n int, want api.Errno) {
	t.Helper()
	if got := c.Abort(n); got != want {
		t.Errorf("Abort(%d): got %d, want %d", n, got, want)
	}
}

// wantState asks for what P6.1 tells of transaction n.
func wantState(t *testing.T, c *clock.Clock, n int, live, aborted bool) {
	t.Helper()
	if got := c.Live(n); got != live {
		t.Errorf("Live(%d): got %t", n, got)
	}
	if got := c.Aborted(n); got != aborted {
		t.Errorf("Aborted(%d): got %t", n, got)
	}
}

func wantCount(t *testing.T, c *clock.Clock, want int) {
	t.Helper()
	if got := c.Count(); got != want {
		t.Errorf("Count: got %d, want %d", got, want)
	}
}

// wantPair asks for what P6.2 tells of a pair of transactions.
func wantPair(t *testing.T, c *clock.Clock, n, by int, sees, clashes bool) {
	t.Helper()
	if got := c.Sees(n, by); got != sees {
		t.Errorf("Sees(%d, %d): got %t", n, by, got)
	}
	if got := c.Clashes(n, by); got != clashes {
		t.Errorf("Clashes(%d, %d): got %t", n, by, got)
	}
}

func wantSettled(t *testing.T, c *clock.Clock, by int, want bool) {
	t.Helper()
	if got := c.Settled(by); got != want {
		t.Errorf("Settled(%d): got %t", by, got)
	}
}

// nobody has numbers that are those of no transaction, if there have been n.
func nobody(n int) []int {
	return []int{0, -1, -2, -n, -n - 1, n + 1, n + 2, 2*n + 1, 1 << 32, 1<<32 + 1, -1 << 32, 1 - 1<<32, math.MaxInt32, math.MinInt32, math.MaxInt - 1, math.MaxInt, math.MinInt, math.MinInt + 1}
}

// call is one that begins or ends a transaction.
type call struct {
	kind int
	n    int
}

const (
	begin = iota
	commit
	abort
)

func (x call) String() string {
	if x.kind == begin {
		return fmt.Sprintf("begin %d", x.n)
	}
	return fmt.Sprintf("%s %d", [...]string{commit: "commit", abort: "abort"}[x.kind], x.n)
}

// history is a Clock as the document tells it: the calls that were executed, in order, and nothing
// worked out ahead.
type history []call

// count returns how many of the calls have the kind.
func (h history) count(kind int) int {
	n := 0
	for _, x := range h {
		if x.kind == kind {
			n++
		}
	}
	return n
}

// until returns the calls up to the given one and with it, or nothing if it was not executed.
func (h history) until(x call) history {
	for i := range h {
		if h[i] == x {
			return h[:i+1]
		}
	}
	return nil
}

func (h history) is(n int) bool        { return h.until(call{begin, n}) != nil }
func (h history) committed(n int) bool { return h.until(call{commit, n}) != nil }
func (h history) aborted(n int) bool   { return h.until(call{abort, n}) != nil }
func (h history) live(n int) bool      { return h.is(n) && !h.committed(n) && !h.aborted(n) }

// place returns the number of the commit by which n ended.
func (h history) place(n int) int { return h.until(call{commit, n}).count(commit) }

// snapshot returns the number of commits at the time when n began.
func (h history) snapshot(n int) int { return h.until(call{begin, n}).count(commit) }

func (h history) alive() []int {
	var l []int
	for n := 1; n <= h.count(begin); n++ {
		if h.live(n) {
			l = append(l, n)
		}
	}
	return l
}

func (h history) sees(n, by int) bool {
	if !h.is(n) || !h.is(by) {
		return false
	}
	return by == n || h.committed(by) && h.place(by) <= h.snapshot(n)
}

func (h history) clashes(n, by int) bool {
	if !h.is(n) || !h.is(by) {
		return false
	}
	return by != n && (h.live(by) || h.committed(by) && h.place(by) > h.snapshot(n))
}

func (h history) settled(by int) bool {
	if !h.committed(by) {
		return false
	}
	for _, n := range h.alive() {
		if h.place(by) > h.snapshot(n) {
			return false
		}
	}
	return true
}

// begin, commit and abort are the calls of P6.1.
func (h *history) begin() (int, api.Errno) {
	if len(h.alive()) == most {
		return 0, api.ErrFull
	}
	n := h.count(begin) + 1
	*h = append(*h, call{begin, n})
	return n, api.OK
}

func (h *history) end(x call) api.Errno {
	if !h.live(x.n) {
		return api.ErrState
	}
	*h = append(*h, x)
	return api.OK
}

// do makes a call on a Clock and on its history.
func do(t *testing.T, c *clock.Clock, h *history, x call) {
	t.Helper()
	var n, number int
	var got, want api.Errno
	switch x.kind {
	case begin:
		n, got = c.Begin()
		number, want = h.begin()
	case commit:
		got, want = c.Commit(x.n), h.end(x)
	default:
		got, want = c.Abort(x.n), h.end(x)
	}
	if n != number || got != want {
		t.Fatalf("%v after %v: got %d, %d, want %d, %d", x, *h, n, got, number, want)
	}
}

// wantAll asks a Clock for all that it tells, for every pair of transactions and of some numbers
// that are those of none, and for P6.3.
func wantAll(t *testing.T, c *clock.Clock, h history) {
	t.Helper()
	last := h.count(begin)
	wantCount(t, c, len(h.alive()))
	for n := -1; n <= last+2; n++ {
		wantState(t, c, n, h.live(n), h.aborted(n))
		wantSettled(t, c, n, h.settled(n))
		for by := -1; by <= last+2; by++ {
			wantPair(t, c, n, by, h.sees(n, by), h.clashes(n, by))
			if h.is(n) && h.is(by) && !c.Aborted(by) && c.Sees(n, by) == c.Clashes(n, by) {
				t.Errorf("Sees and Clashes of %d and %d are both %t", n, by, c.Sees(n, by))
			}
		}
	}
	if t.Failed() {
		t.Fatalf("after %v", h)
	}
}

// wantRefusals makes every call that must be refused.
func wantRefusals(t *testing.T, c *clock.Clock, h history) {
	t.Helper()
	last := h.count(begin)
	for n := 1; n <= last; n++ {
		if !h.live(n) {
			wantCommit(t, c, n, api.ErrState)
			wantAbort(t, c, n, api.ErrState)
		}
	}
	for _, n := range nobody(last) {
		wantCommit(t, c, n, api.ErrState)
		wantAbort(t, c, n, api.ErrState)
	}
	if len(h.alive()) == most {
		wantFull(t, c)
	}
}

// P6.1

func TestNewHasNoTransactions(t *testing.T) {
	c := clock.New()
	if c == nil {
		t.Fatal("got no Clock")
	}
	wantAll(t, c, nil)
	wantRefusals(t, c, nil)
	wantAll(t, c, nil)
	begun(t, c, 1)
	wantState(t, c, 1, true, false)
}

func TestBeginUntilFull(t *testing.T) {
	c := clock.New()
	for n := 1; n <= most; n++ {
		wantState(t, c, n, false, false)
		begun(t, c, n)
		wantCount(t, c, n)
		for m := 1; m <= n; m++ {
			wantState(t, c, m, true, false)
		}
	}
	for range 3 {
		wantFull(t, c)
		wantCount(t, c, most)
		wantState(t, c, most+1, false, false)
		wantPair(t, c, 1, most+1, false, false)
	}
}

func TestBeginAfterAnEnd(t *testing.T) {
	for n := 1; n <= most; n++ {
		for _, kind := range []int{commit, abort} {
			for refused := range 3 {
				c, h := clock.New(), history{}
				for range most + refused {
					do(t, c, &h, call{kind: begin})
				}
				wantCount(t, c, most)
				do(t, c, &h, call{kind, n})
				wantCount(t, c, most-1)
				wantAll(t, c, h)
				// A Begin that was refused has used up no number.
				begun(t, c, most+1)
				h = append(h, call{begin, most + 1})
				wantCount(t, c, most)
				wantAll(t, c, h)
				wantFull(t, c)
				wantAll(t, c, h)
			}
		}
	}
}

func TestNumbersRiseThroughoutALongUse(t *testing.T) {
	c := clock.New()
	for n := 1; n <= 3000; n++ {
		begun(t, c, n)
		wantCount(t, c, 1)
		if n%3 == 0 {
			wantAbort(t, c, n, api.OK)
		} else {
			wantCommit(t, c, n, api.OK)
		}
		wantCount(t, c, 0)
		wantState(t, c, n, false, n%3 == 0)
	}
	beginAll(t, c, 3001, 3000+most)
	wantFull(t, c)
	for n := 1; n <= 3000; n++ {
		wantState(t, c, n, false, n%3 == 0)
		wantSettled(t, c, n, n%3 != 0)
		wantPair(t, c, 3001, n, n%3 != 0, false)
		wantPair(t, c, n, 3001, false, true)
	}
}

func TestCommitEndsOneOnly(t *testing.T) {
	for n := 1; n <= most; n++ {
		c := clock.New()
		beginAll(t, c, 1, most)
		wantCommit(t, c, n, api.OK)
		for m := 1; m <= most; m++ {
			wantState(t, c, m, m != n, false)
		}
		wantCount(t, c, most-1)
	}
}

func TestAbortEndsOneOnly(t *testing.T) {
	for n := 1; n <= most; n++ {
		c := clock.New()
		beginAll(t, c, 1, most)
		wantAbort(t, c, n, api.OK)
		for m := 1; m <= most; m++ {
			wantState(t, c, m, m != n, m == n)
		}
		wantCount(t, c, most-1)
	}
}

func TestAnEndedOneDoesNotEndAgain(t *testing.T) {
	for _, first := range []int{commit, abort} {
		for _, again := range [][]int{{commit}, {abort}, {commit, abort}, {abort, commit}, {commit, commit}, {abort, abort}} {
			c, h := clock.New(), history{}
			do(t, c, &h, call{kind: begin})
			do(t, c, &h, call{kind: begin})
			do(t, c, &h, call{first, 1})
			for _, kind := range again {
				do(t, c, &h, call{kind, 1})
				wantState(t, c, 1, false, first == abort)
				wantCount(t, c, 1)
				wantAll(t, c, h)
			}
			// A refused Commit is no commit: the snapshot of 3 has the first one at most.
			do(t, c, &h, call{kind: begin})
			do(t, c, &h, call{commit, 2})
			wantPair(t, c, 3, 1, first == commit, false)
			wantPair(t, c, 3, 2, false, true)
			wantAll(t, c, h)
		}
	}
}

func TestEndsInEveryOrder(t *testing.T) {
	var end func(c *clock.Clock, h history, left []int)
	end = func(c *clock.Clock, h history, left []int) {
		wantAll(t, c, h)
		wantRefusals(t, c, h)
		wantAll(t, c, h)
		for i, n := range left {
			for _, kind := range []int{commit, abort} {
				rest := append(append([]int{}, left[:i]...), left[i+1:]...)
				d, g := replayed(t, h)
				do(t, d, &g, call{kind, n})
				end(d, g, rest)
			}
		}
	}
	c, h := clock.New(), history{}
	var all []int
	for n := 1; n <= most; n++ {
		do(t, c, &h, call{kind: begin})
		all = append(all, n)
	}
	end(c, h, all)
}

// replayed makes the calls of a history on a new Clock.
func replayed(t *testing.T, h history) (*clock.Clock, history) {
	t.Helper()
	c, g := clock.New(), history{}
	for _, x := range h {
		do(t, c, &g, x)
	}
	return c, g
}

func TestNumbersOfNobody(t *testing.T) {
	for _, h := range []history{
		nil,
		{{begin, 1}},
		{{begin, 1}, {commit, 1}},
		{{begin, 1}, {abort, 1}},
		{{begin, 1}, {begin, 2}, {commit, 1}, {begin, 3}, {abort, 2}, {begin, 4}},
	} {
		c, _ := replayed(t, h)
		last := h.count(begin)
		for _, n := range nobody(last) {
			wantCommit(t, c, n, api.ErrState)
			wantAbort(t, c, n, api.ErrState)
			wantState(t, c, n, false, false)
			wantSettled(t, c, n, false)
			for _, other := range nobody(last) {
				wantPair(t, c, n, other, false, false)
			}
			for m := 1; m <= last; m++ {
				wantPair(t, c, n, m, false, false)
				wantPair(t, c, m, n, false, false)
			}
			wantAll(t, c, h)
		}
		begun(t, c, last+1)
	}
}

// P6.2

func TestExample(t *testing.T) {
	c := clock.New()
	beginAll(t, c, 1, 2)
	wantCommit(t, c, 1, api.OK)
	if c.Sees(2, 1) {
		t.Error("b sees a, which had not committed when b began")
	}
}

func TestBeforeBetweenAndAfterTwoCommits(t *testing.T) {
	c := clock.New()
	beginAll(t, c, 1, 3) // 1 and 2 commit, and 3 is older than both commits
	wantCommit(t, c, 2, api.OK)
	begun(t, c, 4)
	wantCommit(t, c, 1, api.OK)
	begun(t, c, 5)
	for _, x := range []struct {
		n, by         int
		sees, clashes bool
	}{
		{3, 2, false, true}, {3, 1, false, true},
		{4, 2, true, false}, {4, 1, false, true},
		{5, 2, true, false}, {5, 1, true, false},
		{1, 2, false, true}, {2, 1, false, true},
		{3, 4, false, true}, {4, 3, false, true}, {3, 5, false, true}, {5, 3, false, true}, {4, 5, false, true}, {5, 4, false, true},
		{1, 3, false, true}, {1, 5, false, true}, {2, 4, false, true},
	} {
		wantPair(t, c, x.n, x.by, x.sees, x.clashes)
	}
	// What an ended transaction sees does not change either.
	wantCommit(t, c, 4, api.OK)
	wantAbort(t, c, 3, api.OK)
	wantPair(t, c, 4, 2, true, false)
	wantPair(t, c, 4, 1, false, true)
	wantPair(t, c, 3, 2, false, true)
	wantPair(t, c, 3, 4, false, true)
	wantPair(t, c, 5, 4, false, true)
	wantPair(t, c, 1, 4, false, true)
	wantPair(t, c, 4, 3, false, false)
}

func TestCommitsCountInTheirOwnOrder(t *testing.T) {
	// The numbers of the transactions fall while those of their commits rise.
	c := clock.New()
	beginAll(t, c, 1, 3)
	wantCommit(t, c, 3, api.OK)
	begun(t, c, 4)
	wantCommit(t, c, 2, api.OK)
	wantPair(t, c, 4, 3, true, false)
	wantPair(t, c, 4, 2, false, true)
	wantPair(t, c, 4, 1, false, true)
	wantCommit(t, c, 1, api.OK)
	wantPair(t, c, 4, 1, false, true)
	wantSettled(t, c, 3, true)
	wantSettled(t, c, 2, false)
	wantSettled(t, c, 1, false)
}

func TestATransactionAndItself(t *testing.T) {
	for _, older := range []bool{false, true} {
		for _, kind := range []int{commit, abort} {
			c, n := clock.New(), 1
			if older {
				begun(t, c, 1)
				wantCommit(t, c, 1, api.OK)
				n = 2
			}
			begun(t, c, n)
			wantPair(t, c, n, n, true, false)
			if kind == commit {
				wantCommit(t, c, n, api.OK)
			} else {
				wantAbort(t, c, n, api.OK)
			}
			wantPair(t, c, n, n, true, false)
			begun(t, c, n+1)
			wantPair(t, c, n, n, true, false)
		}
	}
}

func TestAnAbortedOneIsNotSeenAndDoesNotClash(t *testing.T) {
	c := clock.New()
	begun(t, c, 1)
	wantCommit(t, c, 1, api.OK) // older and ended
	beginAll(t, c, 2, 4)        // 2 is older, 3 aborts, 4 overlaps
	for _, n := range []int{1, 2, 4} {
		wantPair(t, c, n, 3, false, true)
	}
	wantAbort(t, c, 3, api.OK)
	begun(t, c, 5)
	for _, n := range []int{1, 2, 4, 5} {
		wantPair(t, c, n, 3, false, false)
	}
	wantCommit(t, c, 4, api.OK)
	wantAbort(t, c, 2, api.OK)
	begun(t, c, 6)
	for _, n := range []int{1, 2, 4, 5, 6} {
		wantPair(t, c, n, 3, false, false)
	}
	// It still has the snapshot with which it began.
	wantPair(t, c, 3, 1, true, false)
	wantPair(t, c, 3, 4, false, true)
	wantPair(t, c, 3, 5, false, true)
	wantPair(t, c, 3, 2, false, false)
}

func TestAnAbortIsNoCommit(t *testing.T) {
	c := clock.New()
	beginAll(t, c, 1, 3)
	wantAbort(t, c, 1, api.OK)
	begun(t, c, 4)
	wantCommit(t, c, 2, api.OK)
	wantPair(t, c, 4, 2, false, true)
	wantAbort(t, c, 4, api.OK)
	begun(t, c, 5)
	wantCommit(t, c, 3, api.OK)
	wantPair(t, c, 5, 2, true, false)
	wantPair(t, c, 5, 3, false, true)
}

func TestSettledWithoutLiveOnes(t *testing.T) {
	c := clock.New()
	beginAll(t, c, 1, 4)
	wantCommit(t, c, 3, api.OK)
	wantAbort(t, c, 1, api.OK)
	wantCommit(t, c, 2, api.OK)
	wantAbort(t, c, 4, api.OK)
	for n, want := range []bool{false, false, true, true, false, false} {
		wantSettled(t, c, n, want)
	}
}

func TestSettledWithOneFromBeforeTheCommit(t *testing.T) {
	for _, kind := range []int{commit, abort} {
		c := clock.New()
		beginAll(t, c, 1, 2)
		wantSettled(t, c, 1, false)
		wantCommit(t, c, 1, api.OK)
		wantSettled(t, c, 1, false)
		begun(t, c, 3)
		wantSettled(t, c, 1, false)
		if kind == commit {
			wantCommit(t, c, 2, api.OK)
		} else {
			wantAbort(t, c, 2, api.OK)
		}
		wantSettled(t, c, 1, true)
		wantSettled(t, c, 2, false)
		wantAbort(t, c, 3, api.OK)
		wantSettled(t, c, 1, true)
		wantSettled(t, c, 2, kind == commit)
		wantSettled(t, c, 3, false)
	}
}

func TestSettledWithOneFromAfterTheCommit(t *testing.T) {
	c := clock.New()
	begun(t, c, 1)
	wantSettled(t, c, 1, false)
	wantCommit(t, c, 1, api.OK)
	wantSettled(t, c, 1, true)
	beginAll(t, c, 2, 1+most)
	wantSettled(t, c, 1, true)
	for n := 2; n <= 1+most; n++ {
		wantSettled(t, c, n, false)
	}
}

func TestSettledWithASingleOldOneAmongAll(t *testing.T) {
	// All live ones but old began after the commit.
	for old := 1; old <= most; old++ {
		c, last := clock.New(), most
		beginAll(t, c, 1, most)
		by := old%most + 1
		wantCommit(t, c, by, api.OK)
		for n := 1; n <= most; n++ {
			if n != by && n != old {
				wantAbort(t, c, n, api.OK)
			}
		}
		for c.Count() < most {
			last++
			begun(t, c, last)
		}
		wantSettled(t, c, by, false)
		wantAbort(t, c, old, api.OK)
		wantSettled(t, c, by, true)
		begun(t, c, last+1)
		wantSettled(t, c, by, true)
	}
}

func TestAskingChangesNothing(t *testing.T) {
	h := history{{begin, 1}, {begin, 2}, {commit, 1}, {begin, 3}, {begin, 4}, {abort, 3}, {commit, 2}, {begin, 5}, {begin, 6}}
	c, _ := replayed(t, h)
	for range 100 {
		wantAll(t, c, h)
		wantRefusals(t, c, h)
	}
	do(t, c, &h, call{kind: begin})
	wantAll(t, c, h)
}

func TestClocksDoNotKnowOneAnother(t *testing.T) {
	c, d := clock.New(), clock.New()
	if c == d {
		t.Fatal("got one Clock twice")
	}
	var g, h history
	for i := range 12 {
		do(t, c, &g, call{kind: begin})
		do(t, c, &g, call{commit + i%2, i + 1})
		wantAll(t, d, h)
		do(t, d, &h, call{kind: begin})
		wantAll(t, c, g)
		wantAll(t, d, h)
	}
}

func TestCopiedClockGoesOn(t *testing.T) {
	h := history{{begin, 1}, {begin, 2}, {commit, 1}, {begin, 3}}
	c, _ := replayed(t, h)
	d := *c
	wantAll(t, &d, h)
	do(t, &d, &h, call{kind: begin})
	do(t, &d, &h, call{commit, 3})
	do(t, &d, &h, call{abort, 2})
	wantAll(t, &d, h)
}

// P6.3

func TestExactlyOneOfSeesAndClashes(t *testing.T) {
	h := history{{begin, 1}, {begin, 2}, {begin, 3}, {commit, 2}, {begin, 4}, {abort, 3}, {begin, 5}, {commit, 5}, {begin, 6}}
	c, _ := replayed(t, h)
	for n := 1; n <= 6; n++ {
		for by := 1; by <= 6; by++ {
			sees, clashes := c.Sees(n, by), c.Clashes(n, by)
			if by != 3 && sees == clashes {
				t.Errorf("Sees and Clashes of %d and %d are both %t", n, by, sees)
			}
			if by == 3 && (sees != (n == 3) || clashes) {
				t.Errorf("%d and an aborted one: got %t, %t", n, sees, clashes)
			}
		}
	}
}

func TestNilClock(t *testing.T) {
	var c *clock.Clock
	for range most + 2 {
		wantFull(t, c)
		wantCount(t, c, 0)
		for _, n := range append(nobody(5), 1, 2, 3, 4, 5) {
			wantCommit(t, c, n, api.ErrState)
			wantAbort(t, c, n, api.ErrState)
			wantState(t, c, n, false, false)
			wantSettled(t, c, n, false)
			for _, by := range append(nobody(5), 1, 2, 3, 4, 5) {
				wantPair(t, c, n, by, false, false)
			}
		}
	}
}

// P6.1 to P6.3 together

func TestEveryShortSequence(t *testing.T) {
	seen := 0
	var extend func(h history, left int)
	extend = func(h history, left int) {
		seen++
		c, g := replayed(t, h)
		wantAll(t, c, g)
		wantRefusals(t, c, g)
		wantAll(t, c, g)
		if left == 0 {
			return
		}
		live := g.alive()
		var next []call
		if len(live) < most {
			next = append(next, call{begin, g.count(begin) + 1})
		}
		for _, n := range live {
			next = append(next, call{commit, n}, call{abort, n})
		}
		for _, x := range next {
			extend(append(h[:len(h):len(h)], x), left-1)
		}
	}
	extend(nil, 9)
	if seen < 10000 {
		t.Errorf("only %d sequences", seen)
	}
}

// follow makes the calls of a script, some of which are refused, on a Clock and on its history.
func follow(t *testing.T, script []byte) {
	c, h := clock.New(), history{}
	for _, b := range script {
		x := call{kind: int(b) % 5 % 3}
		if x.kind != begin {
			// Mostly one of the last transactions, and now and then one that does not exist.
			x.n = h.count(begin) + 2 - int(b)/5%9
		}
		do(t, c, &h, x)
		wantAll(t, c, h)
	}
}

func TestLongScripts(t *testing.T) {
	random := rand.New(rand.NewPCG(6, 6))
	for range 200 {
		script := make([]byte, random.IntN(60))
		for i := range script {
			script[i] = byte(random.Uint32())
		}
		follow(t, script)
	}
}

func FuzzClock(f *testing.F) {
	f.Add([]byte{0, 0, 11, 0, 12, 0, 0, 0, 0, 16, 17})
	f.Add([]byte{0, 3, 8, 6, 7, 0, 21, 22, 26, 27})
	f.Fuzz(func(t *testing.T, script []byte) { follow(t, script[:min(len(script), 60)]) })
}
