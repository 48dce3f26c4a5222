package drum_test

import (
	"bytes"
	"fmt"
	"math"
	"math/rand/v2"
	"slices"
	"strings"
	"testing"

	"ligature/api"
	"ligature/drum"
)

const (
	size = api.SectorSize
	most = api.MaxSectors
)

// padded returns the contents of a sector into which p was written.
func padded(p string) []byte {
	b := make([]byte, size)
	copy(b, p)
	return b
}

// noSectors has numbers that are those of no sector of a disk with n sectors.
func noSectors(n int) []int {
	return []int{-1, -2, -n - 1, math.MinInt, math.MinInt + 1, n, n + 1, 2*n + 1, most, most + 1, math.MaxInt - 1, math.MaxInt}
}

// wantDisk asks a disk for all that can be read of it.
func wantDisk(t *testing.T, what any, d *drum.Drum, waiting int, texts ...string) {
	t.Helper()
	if d == nil {
		t.Fatalf("%#v: got no disk", what)
	}
	if got := d.Len(); got != len(texts) {
		t.Errorf("%#v: Len: got %d, want %d", what, got, len(texts))
	}
	if got := d.Waiting(); got != waiting {
		t.Errorf("%#v: Waiting: got %d, want %d", what, got, waiting)
	}
	for i, text := range texts {
		if got := d.Read(i); !bytes.Equal(got, padded(text)) {
			t.Errorf("%#v: Read(%d): got %q, want %q and zero bytes", what, i, got, text)
		}
	}
	for _, i := range noSectors(len(texts)) {
		if got := d.Read(i); len(got) != 0 {
			t.Errorf("%#v: Read(%d): got %q, want nothing", what, i, got)
		}
	}
}

func wantWrite(t *testing.T, d *drum.Drum, i int, p string, want api.Errno) {
	t.Helper()
	if got := d.Write(i, []byte(p)); got != want {
		t.Errorf("Write(%d, %q): got %d, want %d", i, p, got, want)
	}
}

func wantSync(t *testing.T, d *drum.Drum, want api.Errno) {
	t.Helper()
	if got := d.Sync(); got != want {
		t.Errorf("Sync: got %d, want %d", got, want)
	}
}

// wantDead asks a dead disk for all that it refuses.
func wantDead(t *testing.T, d *drum.Drum) {
	t.Helper()
	wantWrite(t, d, 0, "late", api.ErrDead)
	wantSync(t, d, api.ErrDead)
	wantWrite(t, d, 0, "", api.ErrDead)
	wantWrite(t, d, -1, "late", api.ErrDead)
	wantWrite(t, d, d.Len(), "late", api.ErrDead)
	wantWrite(t, d, 0, strings.Repeat("x", size+1), api.ErrDead)
	wantWrite(t, d, -1, strings.Repeat("x", size+1), api.ErrDead)
	wantSync(t, d, api.ErrDead)
}

// choices has every keep of n elements.
func choices(n int) [][]bool {
	l := make([][]bool, 1<<n)
	for bits := range l {
		l[bits] = make([]bool, n)
		for i := range n {
			l[bits][i] = bits>>i&1 != 0
		}
	}
	return l
}

func all(n int) []bool { return slices.Repeat([]bool{true}, n) }

// P4.1

func TestNewHasZeroSectors(t *testing.T) {
	for n := range most + 1 {
		wantDisk(t, n, drum.New(n), 0, make([]string, n)...)
	}
}

func TestNewLimitsItsNumber(t *testing.T) {
	for n, want := range map[int]int{
		-1: 0, -2: 0, -most: 0, math.MinInt: 0, 0: 0, 1: 1,
		most - 1: most - 1, most: most, most + 1: most, 999: most, 1 << 40: most, math.MaxInt: most,
	} {
		d := drum.New(n)
		wantDisk(t, n, d, 0, make([]string, want)...)
		wantWrite(t, d, want, "behind the last", api.ErrArg)
		if want > 0 {
			wantWrite(t, d, want-1, "the last", api.OK)
		}
	}
}

func TestWriteOfEveryLength(t *testing.T) {
	full := strings.Repeat("\xff", size)
	for n := range size + 1 {
		d := drum.New(3)
		p := strings.Repeat("p", n)
		wantWrite(t, d, 1, p, api.OK)
		wantDisk(t, n, d, 1, "", p, "")
		wantWrite(t, d, 1, full, api.OK)
		wantDisk(t, n, d, 2, "", full, "")
		wantWrite(t, d, 1, p, api.OK)
		wantDisk(t, n, d, 3, "", p, "")
		wantSync(t, d, api.OK)
		wantDisk(t, n, d, 0, "", p, "")
		wantDisk(t, n, d.Crash(nil), 0, "", p, "")
	}
}

func TestWriteOfEveryByte(t *testing.T) {
	for b := range 256 {
		d := drum.New(1)
		for i := range size {
			p := strings.Repeat("\x00", i) + string([]byte{byte(b)}) + "\x00x"
			p = p[:min(len(p), size)]
			wantWrite(t, d, 0, p, api.OK)
			wantDisk(t, p, d, i+1, p)
		}
	}
}

func TestTooLongIsRefused(t *testing.T) {
	for _, n := range []int{size + 1, size + 2, 2 * size, 2*size + 1, 256 + size, 1 << 16, 1<<16 + 1} {
		d := drum.New(2)
		wantWrite(t, d, 0, "kept", api.OK)
		long := strings.Repeat("x", n)
		for _, i := range []int{0, 1, -1, 2} {
			wantWrite(t, d, i, long, api.ErrArg)
			wantDisk(t, n, d, 1, "kept", "")
		}
		wantDisk(t, n, d.Crash(all(3)), 0, "kept", "")
	}
}

func TestNoSuchSectorIsRefused(t *testing.T) {
	for _, n := range []int{0, 1, 2, 3, most - 1, most} {
		d := drum.New(n)
		texts := make([]string, n)
		for i := range texts {
			texts[i] = fmt.Sprint("sector ", i)
			wantWrite(t, d, i, texts[i], api.OK)
		}
		for _, i := range noSectors(n) {
			wantWrite(t, d, i, "x", api.ErrArg)
			wantWrite(t, d, i, "", api.ErrArg)
		}
		wantDisk(t, n, d, n, texts...)
		wantSync(t, d, api.OK)
		wantDisk(t, n, d, 0, texts...)
	}
}

func TestEverySectorIsWrittenAlone(t *testing.T) {
	for i := range most {
		d := drum.New(most)
		texts := make([]string, most)
		texts[i] = "here"
		wantWrite(t, d, i, "here", api.OK)
		wantDisk(t, i, d, 1, texts...)
		wantSync(t, d, api.OK)
		wantDisk(t, i, d, 0, texts...)
		wantDisk(t, i, d.Crash(nil), 0, texts...)
	}
}

func TestWritesAndSyncsInTurn(t *testing.T) {
	d := drum.New(3)
	wantSync(t, d, api.OK)
	wantDisk(t, "nothing to sync", d, 0, "", "", "")
	wantWrite(t, d, 0, "a", api.OK)
	wantDisk(t, "one write", d, 1, "a", "", "")
	wantWrite(t, d, 2, "b", api.OK)
	wantDisk(t, "another sector", d, 2, "a", "", "b")
	wantWrite(t, d, 0, "longer", api.OK)
	wantDisk(t, "the same sector", d, 3, "longer", "", "b")
	wantWrite(t, d, 0, "longer", api.OK)
	wantDisk(t, "the same bytes", d, 4, "longer", "", "b")
	wantWrite(t, d, 1, "", api.OK)
	wantDisk(t, "no bytes over no bytes", d, 5, "longer", "", "b")
	wantWrite(t, d, 3, "c", api.ErrArg)
	wantDisk(t, "refused", d, 5, "longer", "", "b")
	wantSync(t, d, api.OK)
	wantDisk(t, "synced", d, 0, "longer", "", "b")
	wantSync(t, d, api.OK)
	wantDisk(t, "synced again", d, 0, "longer", "", "b")
	wantWrite(t, d, 0, "s", api.OK)
	wantDisk(t, "shorter over longer", d, 1, "s", "", "b")
	wantWrite(t, d, 2, "", api.OK)
	wantDisk(t, "no bytes over some", d, 2, "s", "", "")
	wantSync(t, d, api.OK)
	wantDisk(t, "synced at last", d, 0, "s", "", "")
}

func TestManyWritesArePending(t *testing.T) {
	d := drum.New(2)
	for i := range 3000 {
		p := fmt.Sprint(i)
		if d.Write(i%2, []byte(p)) != api.OK || d.Waiting() != i+1 || !bytes.Equal(d.Read(i%2), padded(p)) {
			t.Fatal(i)
		}
	}
	wantDisk(t, "none", d.Crash(nil), 0, "", "")
	wantDisk(t, "all", d.Crash(all(3000)), 0, "2998", "2999")
	wantDisk(t, "all but the last", d.Crash(all(2999)), 0, "2998", "2997")
	wantSync(t, d, api.OK)
	wantDisk(t, "synced", d, 0, "2998", "2999")
}

// P4.2

func TestExampleOfTheDocument(t *testing.T) {
	d := drum.New(1)
	wantWrite(t, d, 0, "a", api.OK)
	wantSync(t, d, api.OK)
	wantWrite(t, d, 0, "b", api.OK)
	wantDisk(t, "nil", d.Crash(nil), 0, "a")
	wantDisk(t, "empty", d.Crash([]bool{}), 0, "a")
}

// calls has calls that a fuse counts, each with what an undamaged disk of two sectors returns.
func calls() []func(d *drum.Drum) (api.Errno, api.Errno) {
	return []func(d *drum.Drum) (api.Errno, api.Errno){
		func(d *drum.Drum) (api.Errno, api.Errno) { return d.Write(0, []byte("w")), api.OK },
		func(d *drum.Drum) (api.Errno, api.Errno) { return d.Sync(), api.OK },
		func(d *drum.Drum) (api.Errno, api.Errno) { return d.Write(2, []byte("w")), api.ErrArg },
		func(d *drum.Drum) (api.Errno, api.Errno) { return d.Write(-1, []byte("w")), api.ErrArg },
		func(d *drum.Drum) (api.Errno, api.Errno) { return d.Write(1, make([]byte, size+1)), api.ErrArg },
	}
}

func TestFuseCountsEveryWriteAndSync(t *testing.T) {
	for n := range 7 {
		for first := range calls() {
			d := drum.New(2)
			d.Fuse(n)
			for k := range n {
				if got, want := calls()[(first+k)%len(calls())](d); got != want {
					t.Errorf("fuse %d, call %d after call %d: got %d, want %d", n, k, first, got, want)
				}
			}
			waiting, text := d.Waiting(), strings.TrimRight(string(d.Read(0)), "\x00")
			wantDead(t, d)
			wantDisk(t, n, d, waiting, text, "")
		}
	}
}

func TestFuseOfOneKindOfCall(t *testing.T) {
	for n := range 6 {
		for kind, call := range calls() {
			d := drum.New(2)
			d.Fuse(n)
			for k := range n + 3 {
				got, want := call(d)
				if k >= n {
					want = api.ErrDead
				}
				if got != want {
					t.Errorf("fuse %d, call %d of kind %d: got %d, want %d", n, k, kind, got, want)
				}
			}
		}
	}
}

func TestFirstFailedCallHasNoEffect(t *testing.T) {
	d := drum.New(2)
	d.Fuse(2)
	wantWrite(t, d, 0, "a", api.OK)
	wantWrite(t, d, 1, "b", api.OK)
	wantSync(t, d, api.ErrDead)
	wantDisk(t, "Sync", d, 2, "a", "b")
	wantDisk(t, "Sync", d.Crash(nil), 0, "", "")
	wantDisk(t, "Sync", d.Crash(all(2)), 0, "a", "b")
	wantDead(t, d)
	wantDisk(t, "later ones", d, 2, "a", "b")
	wantDisk(t, "later ones", d.Crash(nil), 0, "", "")

	e := drum.New(2)
	e.Fuse(1)
	wantWrite(t, e, 0, "a", api.OK)
	wantWrite(t, e, 0, "b", api.ErrDead)
	wantDisk(t, "Write", e, 1, "a", "")
	wantDisk(t, "Write", e.Crash(all(3)), 0, "a", "")
	wantDead(t, e)
	wantDisk(t, "later ones", e, 1, "a", "")
	wantDisk(t, "later ones", e.Crash(all(9)), 0, "a", "")
}

func TestOtherCallsAreNotCounted(t *testing.T) {
	d := drum.New(2)
	d.Fuse(2)
	for k := range 2 {
		for range 5 {
			d.Read(0)
			d.Read(-1)
			d.Len()
			d.Waiting()
			d.Crash(all(2))
		}
		wantWrite(t, d, k, "x", api.OK)
	}
	for range 5 {
		d.Read(0)
		d.Read(-1)
		d.Len()
		d.Waiting()
		d.Crash(nil)
	}
	wantDisk(t, "used up", d, 2, "x", "x")
	wantDead(t, d)
}

func TestNegativeFuseRemovesIt(t *testing.T) {
	for _, gone := range []int{-1, -2, -7, math.MinInt, math.MinInt + 1} {
		for n := range 4 {
			for used := range n + 1 {
				d := drum.New(1)
				d.Fuse(n)
				for range used {
					wantWrite(t, d, 0, "x", api.OK)
				}
				d.Fuse(gone)
				for range n + 5 {
					wantWrite(t, d, 0, "y", api.OK)
					wantSync(t, d, api.OK)
					wantWrite(t, d, 1, "y", api.ErrArg)
				}
				wantDisk(t, gone, d, 0, "y")
			}
		}
		d := drum.New(1)
		d.Fuse(gone)
		wantWrite(t, d, 0, "without a fuse before", api.OK)
		wantSync(t, d, api.OK)
	}
}

func TestFuseSetAgainCountsAnew(t *testing.T) {
	for n := range 4 {
		for used := range n + 1 {
			for again := range 5 {
				d := drum.New(1)
				d.Fuse(n)
				for range used {
					wantSync(t, d, api.OK)
				}
				d.Fuse(again)
				for range again {
					wantWrite(t, d, 0, "x", api.OK)
				}
				wantDead(t, d)
			}
		}
	}
}

func TestFuseAfterARemovedOne(t *testing.T) {
	d := drum.New(1)
	d.Fuse(1)
	d.Fuse(-1)
	wantSync(t, d, api.OK)
	wantSync(t, d, api.OK)
	d.Fuse(1)
	wantSync(t, d, api.OK)
	wantDead(t, d)
}

func TestLongFuses(t *testing.T) {
	for _, n := range []int{1000, 1 << 32, math.MaxInt - 1, math.MaxInt} {
		d := drum.New(1)
		d.Fuse(n)
		for k := range 1000 {
			if d.Write(0, []byte("x")) != api.OK {
				t.Fatal(n, k)
			}
		}
		if n == 1000 {
			wantDead(t, d)
		} else {
			wantSync(t, d, api.OK)
		}
	}
}

func TestDeadRemainsDead(t *testing.T) {
	d := drum.New(2)
	wantWrite(t, d, 1, "synced", api.OK)
	wantSync(t, d, api.OK)
	wantWrite(t, d, 0, "pending", api.OK)
	d.Fuse(0)
	wantSync(t, d, api.ErrDead)
	for _, n := range []int{5, 1, 0, -1, -7, math.MinInt, math.MaxInt} {
		d.Fuse(n)
		wantDead(t, d)
		wantDisk(t, n, d, 1, "pending", "synced")
		wantDisk(t, n, d.Crash(nil), 0, "", "synced")
		wantDisk(t, n, d.Crash(all(1)), 0, "pending", "synced")
	}
}

func TestDeadDiskWithoutSectors(t *testing.T) {
	d := drum.New(0)
	wantWrite(t, d, 0, "x", api.ErrArg)
	d.Fuse(0)
	wantWrite(t, d, 0, "x", api.ErrDead)
	wantDead(t, d)
	wantDisk(t, "dead", d, 0)
	wantDisk(t, "crashed", d.Crash(all(2)), 0)
	wantWrite(t, d.Crash(nil), 0, "x", api.ErrArg)
	wantSync(t, d.Crash(nil), api.OK)
}

// crashing returns a disk with five pending writes, three of them to one sector.
func crashing(t *testing.T) *drum.Drum {
	t.Helper()
	d := drum.New(4)
	wantWrite(t, d, 0, "old zero, and long", api.OK)
	wantWrite(t, d, 1, "old one", api.OK)
	wantSync(t, d, api.OK)
	wantWrite(t, d, 0, "first", api.OK)
	wantWrite(t, d, 2, "second", api.OK)
	wantWrite(t, d, 0, "", api.OK)
	wantWrite(t, d, 1, "fourth", api.OK)
	wantWrite(t, d, 0, "5", api.OK)
	return d
}

// left has what is left of a disk that crashing returns.
func left(keep []bool) []string {
	texts := []string{"old zero, and long", "old one", "", ""}
	for i, w := range []struct {
		place int
		text  string
	}{{0, "first"}, {2, "second"}, {0, ""}, {1, "fourth"}, {0, "5"}} {
		if i < len(keep) && keep[i] {
			texts[w.place] = w.text
		}
	}
	return texts
}

func TestCrashKeepsWhatIsChosen(t *testing.T) {
	d := crashing(t)
	for n := range 8 {
		for _, keep := range choices(n) {
			wantDisk(t, keep, d.Crash(keep), 0, left(keep)...)
		}
	}
	wantDisk(t, "far longer", d.Crash(all(1000)), 0, "5", "fourth", "second", "")
	wantDisk(t, "unchanged", d, 5, "5", "fourth", "second", "")
}

func TestCrashWrittenOut(t *testing.T) {
	d := crashing(t)
	const y, n = true, false
	for _, x := range []struct {
		keep []bool
		want []string
	}{
		{nil, []string{"old zero, and long", "old one", "", ""}},
		{[]bool{n, n, n, n, n}, []string{"old zero, and long", "old one", "", ""}},
		{[]bool{y}, []string{"first", "old one", "", ""}},
		{[]bool{y, n, y}, []string{"", "old one", "", ""}},
		{[]bool{y, n, n, n, y}, []string{"5", "old one", "", ""}},
		{[]bool{n, y, n, y}, []string{"old zero, and long", "fourth", "second", ""}},
		{[]bool{n, n, n, n, n, y, y}, []string{"old zero, and long", "old one", "", ""}},
		{[]bool{y, y, y, y, y}, []string{"5", "fourth", "second", ""}},
	} {
		wantDisk(t, x.keep, d.Crash(x.keep), 0, x.want...)
	}
}

func TestCrashAfterSyncHasAll(t *testing.T) {
	d := crashing(t)
	wantSync(t, d, api.OK)
	for n := range 6 {
		for _, keep := range choices(n) {
			wantDisk(t, keep, d.Crash(keep), 0, "5", "fourth", "second", "")
		}
	}
}

func TestPendingWritesAreCountedFromTheLastSync(t *testing.T) {
	d := crashing(t)
	wantSync(t, d, api.OK)
	wantWrite(t, d, 3, "new", api.OK)
	wantWrite(t, d, 2, "newer", api.OK)
	wantDisk(t, "the first", d.Crash([]bool{true}), 0, "5", "fourth", "second", "new")
	wantDisk(t, "the second", d.Crash([]bool{false, true}), 0, "5", "fourth", "newer", "")
}

func TestRefusedWritesHaveNoIndex(t *testing.T) {
	d := drum.New(2)
	wantWrite(t, d, 2, "refused", api.ErrArg)
	wantWrite(t, d, 0, "a", api.OK)
	wantWrite(t, d, 0, strings.Repeat("x", size+1), api.ErrArg)
	wantWrite(t, d, 1, "b", api.OK)
	wantDisk(t, "the first", d.Crash([]bool{true}), 0, "a", "")
	wantDisk(t, "the second", d.Crash([]bool{false, true}), 0, "", "b")
}

func TestCrashOfADeadDiskLives(t *testing.T) {
	d := drum.New(2)
	d.Fuse(3)
	wantWrite(t, d, 0, "a", api.OK)
	wantSync(t, d, api.OK)
	wantWrite(t, d, 1, "b", api.OK)
	wantDead(t, d)
	for _, keep := range [][]bool{nil, {false}, {true}} {
		c := d.Crash(keep)
		for range 10 {
			wantWrite(t, c, 0, "c", api.OK)
			wantSync(t, c, api.OK)
		}
		wantDead(t, d)
		wantDisk(t, keep, d, 1, "a", "b")
	}
}

func TestCrashHasNoFuse(t *testing.T) {
	for n := range 4 {
		d := drum.New(1)
		d.Fuse(n)
		c := d.Crash(nil)
		for range 10 {
			wantWrite(t, c, 0, "c", api.OK)
			wantSync(t, c, api.OK)
		}
		for range n {
			wantWrite(t, d, 0, "d", api.OK)
		}
		wantDead(t, d)
	}
}

func TestCrashOfACrash(t *testing.T) {
	d := crashing(t)
	c := d.Crash([]bool{true, true})
	wantDisk(t, "again", c.Crash(nil), 0, "first", "old one", "second", "")
	wantDisk(t, "again, with keep", c.Crash(all(9)), 0, "first", "old one", "second", "")
	wantWrite(t, c, 1, "c", api.OK)
	wantWrite(t, c, 3, "cc", api.OK)
	wantDisk(t, "written", c, 2, "first", "c", "second", "cc")
	wantDisk(t, "lost", c.Crash(nil), 0, "first", "old one", "second", "")
	wantDisk(t, "one kept", c.Crash([]bool{false, true}), 0, "first", "old one", "second", "cc")
	c.Fuse(0)
	wantDead(t, c)
	e := c.Crash([]bool{true})
	wantWrite(t, e, 0, "e", api.OK)
	wantDisk(t, "of a dead one", e, 1, "e", "c", "second", "")
}

// P4.3

func TestWrittenBytesAreNeitherChangedNorKept(t *testing.T) {
	for n := range size + 3 {
		whole := bytes.Repeat([]byte("abc"), 100)
		p := whole[10 : 10+n]
		d := drum.New(1)
		err := d.Write(0, p)
		want, waiting, wantErr := string(p), 1, api.OK
		if n > size {
			want, waiting, wantErr = "", 0, api.ErrArg
		}
		if err != wantErr || !bytes.Equal(whole, bytes.Repeat([]byte("abc"), 100)) {
			t.Errorf("%d bytes: got %d, and the argument is %q", n, err, whole)
		}
		clear(whole)
		wantDisk(t, n, d, waiting, want)
		wantDisk(t, n, d.Crash([]bool{true}), 0, want)
		d.Sync()
		wantDisk(t, n, d.Crash(nil), 0, want)
		d.Write(0, []byte("later"))
		d.Crash([]bool{true}).Write(0, []byte("later"))
		if !bytes.Equal(whole, make([]byte, len(whole))) {
			t.Errorf("%d bytes: the argument became %q", n, whole)
		}
	}
}

func TestKeepIsNeitherChangedNorKept(t *testing.T) {
	d := crashing(t)
	for n := range 10 {
		for _, whole := range choices(10) {
			was := slices.Clone(whole)
			c := d.Crash(whole[:n])
			for i := range whole {
				if whole[i] != was[i] {
					t.Fatalf("keep %#v became %#v", was, whole)
				}
				whole[i] = !whole[i]
			}
			want := left(was[:n])
			if got := []string{text(c, 0), text(c, 1), text(c, 2), text(c, 3)}; !slices.Equal(got, want) {
				t.Fatalf("keep %#v of %#v: got %q, want %q", was[:n], was, got, want)
			}
		}
	}
}

// text returns a sector without the zero bytes behind.
func text(d *drum.Drum, i int) string { return strings.TrimRight(string(d.Read(i)), "\x00") }

func TestNilAndEmptyAreTheSame(t *testing.T) {
	for _, p := range [][]byte{nil, {}, make([]byte, 0, 10)} {
		d := drum.New(1)
		wantWrite(t, d, 0, "x", api.OK)
		if got := d.Write(0, p); got != api.OK {
			t.Errorf("Write of %#v: got %d", p, got)
		}
		wantDisk(t, p, d, 2, "")
		for _, keep := range [][]bool{nil, {}, all(2)[:0]} {
			wantDisk(t, keep, d.Crash(keep), 0, "")
		}
	}
}

// spoil overwrites a slice and its unused capacity.
func spoil(b []byte) {
	b = b[:cap(b)]
	for i := range b {
		b[i] = 0xee
	}
}

func TestSectorsReadShareNothing(t *testing.T) {
	d := crashing(t)
	texts := []string{"5", "fourth", "second", ""}
	for i := range texts {
		a, b := d.Read(i), d.Read(i)
		spoil(a)
		if !bytes.Equal(b, padded(texts[i])) {
			t.Errorf("sector %d: two results share memory", i)
		}
		spoil(b)
	}
	wantDisk(t, "spoiled", d, 5, texts...)
	for _, keep := range choices(5) {
		wantDisk(t, keep, d.Crash(keep), 0, left(keep)...)
	}
	wantSync(t, d, api.OK)
	for i := range texts {
		spoil(d.Read(i))
	}
	wantDisk(t, "spoiled", d, 0, texts...)
	wantDisk(t, "spoiled", d.Crash(nil), 0, texts...)
	c := drum.New(1)
	spoil(c.Read(0))
	spoil(c.Read(1))
	wantDisk(t, "spoiled", c, 0, "")
	wantDisk(t, "spoiled", c.Crash(nil), 0, "")
	wantDisk(t, "another disk", drum.New(1), 0, "")
}

func TestSectorsReadDoNotChange(t *testing.T) {
	d := crashing(t)
	want := []string{"5", "fourth", "second", ""}
	var got [][]byte
	for i := range want {
		got = append(got, d.Read(i))
	}
	c := d.Crash(all(2))
	for i := range want {
		wantWrite(t, d, i, strings.Repeat("d", size), api.OK)
		wantWrite(t, c, i, strings.Repeat("c", size), api.OK)
	}
	wantSync(t, d, api.OK)
	wantWrite(t, d, 0, "last", api.OK)
	d.Fuse(0)
	wantDead(t, d)
	for i := range want {
		if !bytes.Equal(got[i], padded(want[i])) {
			t.Errorf("sector %d became %q", i, got[i])
		}
	}
}

func TestCrashDoesNotChangeItsDisk(t *testing.T) {
	for _, keep := range choices(6) {
		d := crashing(t)
		d.Fuse(2)
		c, e := d.Crash(keep), d.Crash(keep)
		for i := range 4 {
			wantWrite(t, c, i, "c", api.OK)
			spoil(c.Read(i))
		}
		wantDisk(t, keep, e, 0, left(keep)...)
		wantSync(t, c, api.OK)
		c.Fuse(0)
		wantDead(t, c)
		wantDisk(t, keep, e, 0, left(keep)...)
		wantDisk(t, keep, d, 5, "5", "fourth", "second", "")
		for _, other := range choices(5) {
			wantDisk(t, other, d.Crash(other), 0, left(other)...)
		}
		wantWrite(t, d, 3, "d", api.OK)
		wantDisk(t, keep, d, 6, "5", "fourth", "second", "d")
		wantSync(t, d, api.OK)
		wantDisk(t, keep, d, 0, "5", "fourth", "second", "d")
		wantDead(t, d)
		wantDisk(t, keep, e, 0, left(keep)...)
	}
}

func TestCrashedDisksDoNotChangeLater(t *testing.T) {
	for _, keep := range choices(5) {
		d := crashing(t)
		c := d.Crash(keep)
		for i := range 4 {
			wantWrite(t, d, i, "d", api.OK)
		}
		wantDisk(t, keep, c, 0, left(keep)...)
		wantSync(t, d, api.OK)
		wantWrite(t, d, 0, "dd", api.OK)
		d.Fuse(0)
		wantDead(t, d)
		wantDisk(t, keep, c, 0, left(keep)...)
		wantDisk(t, keep, c.Crash(nil), 0, left(keep)...)
		wantWrite(t, c, 0, "c", api.OK)
		wantSync(t, c, api.OK)
	}
}

func TestNilDrum(t *testing.T) {
	var d *drum.Drum
	for range 2 {
		for _, i := range []int{0, 1, -1, most, math.MinInt, math.MaxInt} {
			d.Fuse(i)
			if got := d.Read(i); len(got) != 0 {
				t.Errorf("Read(%d): got %q", i, got)
			}
			wantWrite(t, d, i, "", api.ErrDead)
			wantWrite(t, d, i, "x", api.ErrDead)
			wantWrite(t, d, i, strings.Repeat("x", size+1), api.ErrDead)
			wantSync(t, d, api.ErrDead)
		}
		if d.Write(0, nil) != api.ErrDead || d.Len() != 0 || d.Waiting() != 0 {
			t.Error("Write, Len or Waiting")
		}
		for _, keep := range [][]bool{nil, {}, {false}, {true}, all(100)} {
			if d.Crash(keep) != nil {
				t.Errorf("Crash(%#v): got a disk", keep)
			}
		}
	}
}

func TestCopiedDrumGoesOn(t *testing.T) {
	d := crashing(t)
	d.Fuse(2)
	c := *d
	wantDisk(t, "copied", &c, 5, "5", "fourth", "second", "")
	wantWrite(t, &c, 3, "c", api.OK)
	wantDisk(t, "written", &c, 6, "5", "fourth", "second", "c")
	wantDisk(t, "lost", c.Crash(nil), 0, left(nil)...)
	wantSync(t, &c, api.OK)
	wantDead(t, &c)
}

// P4.1 to P4.3 together

// event is a write that was executed, and whether a Sync came after it.
type event struct {
	place  int
	data   []byte
	synced bool
}

// history is a disk as the document tells it: all writes ever made, and nothing worked out ahead.
type history struct {
	n      int
	events []event
	fuse   *int
	dead   bool
}

func (h *history) refuses() bool {
	if !h.dead && h.fuse != nil {
		h.dead = *h.fuse == 0
		*h.fuse--
	}
	return h.dead
}

func (h *history) write(i int, p []byte) api.Errno {
	if h.refuses() {
		return api.ErrDead
	}
	if i < 0 || i >= h.n || len(p) > size {
		return api.ErrArg
	}
	h.events = append(h.events, event{place: i, data: padded(string(p))})
	return api.OK
}

func (h *history) sync() api.Errno {
	if h.refuses() {
		return api.ErrDead
	}
	for i := range h.events {
		h.events[i].synced = true
	}
	return api.OK
}

func (h *history) setFuse(n int) {
	h.fuse = nil
	if n >= 0 {
		h.fuse = &n
	}
}

func (h *history) crash(keep []bool) *history {
	c, index := &history{n: h.n}, 0
	for _, e := range h.events {
		kept := e.synced
		if !e.synced {
			kept = index < len(keep) && keep[index]
			index++
		}
		if kept {
			e.synced = true
			c.events = append(c.events, e)
		}
	}
	return c
}

func (h *history) texts() ([]string, int) {
	texts, waiting := make([]string, h.n), 0
	for _, e := range h.events {
		texts[e.place] = string(e.data)
		if !e.synced {
			waiting++
		}
	}
	return texts, waiting
}

// script hands out numbers of a sequence of bytes, and 0 where it has ended.
type script []byte

func (s *script) next() int {
	if len(*s) == 0 {
		return 0
	}
	b := (*s)[0]
	*s = (*s)[1:]
	return int(b)
}

func (s *script) keep() []bool {
	keep := make([]bool, s.next()%9)
	for i := range keep {
		keep[i] = s.next()%2 != 0
	}
	return keep
}

// follow makes the calls of a script on a disk and on a history of it.
func follow(t *testing.T, s script) {
	n := s.next() % 6
	d, h := drum.New(n), &history{n: n}
	for len(s) > 0 {
		what := s.next() % 16
		var got, want api.Errno
		switch {
		case what < 8:
			i, p := s.next()%8-1, bytes.Repeat([]byte{byte(s.next())}, s.next()%(size+3))
			got, want = d.Write(i, p), h.write(i, p)
		case what < 10:
			got, want = d.Sync(), h.sync()
		case what < 12:
			k := s.next()%8 - 2
			d.Fuse(k)
			h.setFuse(k)
		case what < 14:
			keep := s.keep()
			texts, waiting := h.crash(keep).texts()
			wantDisk(t, keep, d.Crash(keep), waiting, texts...)
		default:
			keep := s.keep()
			d, h = d.Crash(keep), h.crash(keep)
		}
		if got != want {
			t.Fatalf("call of kind %d, with %d bytes of the script left: got %d, want %d", what, len(s), got, want)
		}
		texts, waiting := h.texts()
		wantDisk(t, what, d, waiting, texts...)
		if t.Failed() {
			return
		}
	}
}

func TestLongScripts(t *testing.T) {
	random := rand.New(rand.NewPCG(4, 4))
	for range 2000 {
		s := make(script, random.IntN(200))
		for i := range s {
			s[i] = byte(random.Uint32())
		}
		follow(t, s)
	}
}

func FuzzDrum(f *testing.F) {
	f.Add([]byte{3, 0, 1, 'a', 5, 8, 0, 1, 'b', 5, 12, 1, 1, 14, 0})
	f.Add([]byte{2, 10, 3, 0, 1, 'x', 64, 8, 0, 0, 'y', 65, 8, 14, 2, 1, 1})
	f.Fuzz(func(t *testing.T, b []byte) { follow(t, b) })
}
