package redo_test

import (
	"bytes"
	"encoding/binary"
	"fmt"
	"math"
	"math/rand/v2"
	"slices"
	"strings"
	"testing"

	"ligature/api"
	"ligature/drum"
	"ligature/redo"
)

const (
	size   = api.SectorSize
	most   = api.MaxSectors
	lastNo = 1 << 40
)

func varints(l ...int) []byte {
	var b []byte
	for _, n := range l {
		b = binary.AppendVarint(b, int64(n))
	}
	return b
}

// encoded returns the bytes of a log with these entries.
func encoded(entries ...string) []byte {
	var b []byte
	for _, s := range entries {
		b = append(binary.AppendVarint(b, int64(len(s))), s...)
	}
	return b
}

// sized returns an entry that takes n bytes of a bank, if there is one.
func sized(n int) (string, bool) {
	for _, head := range []int{1, 2, 3} {
		if s := strings.Repeat("s", max(n-head, 0)); len(encoded(s)) == n {
			return s, true
		}
	}
	return "", false
}

// padded returns the contents of a sector into which b was written.
func padded(b []byte) []byte {
	return append(slices.Clone(b), make([]byte, size-len(b))...)
}

// banks returns the first sectors of both banks and the number of sectors of each.
func banks(sectors int) (int, int, int) {
	half := (sectors - 2) / 2
	return 2, 2 + half, half
}

// disk returns a disk with the given bytes in sectors 0 and 1 and at the beginnings of both banks; nothing is pending.
func disk(t *testing.T, sectors int, sector0, sector1, bank0, bank1 []byte) *drum.Drum {
	t.Helper()
	d := drum.New(sectors)
	first0, first1, _ := banks(sectors)
	for i, b := range map[int][]byte{0: sector0, 1: sector1, first0: bank0, first1: bank1} {
		for part := range slices.Chunk(b, size) {
			if d.Write(i, part) != api.OK {
				t.Fatalf("no sector %d", i)
			}
			i++
		}
	}
	if d.Sync() != api.OK {
		t.Fatal("Sync")
	}
	return d
}

// image returns the contents of all sectors.
func image(d *drum.Drum) [][]byte {
	l := make([][]byte, d.Len())
	for i := range l {
		l[i] = d.Read(i)
	}
	return l
}

// choices has every keep of n elements.
func choices(n int) [][]bool {
	l := make([][]bool, 1<<n)
	for bits := range l {
		l[bits] = make([]bool, n)
		for i := range n {
			l[bits][i] = bits>>i&1 != 0
		}
	}
	return l
}

func wantImage(t *testing.T, what any, got, want *drum.Drum) {
	t.Helper()
	if got.Len() != want.Len() {
		t.Fatalf("%v: got %d sectors, want %d", what, got.Len(), want.Len())
	}
	for i := range want.Len() {
		if !bytes.Equal(got.Read(i), want.Read(i)) {
			t.Errorf("%v: sector %d: got % x, want % x", what, i, got.Read(i), want.Read(i))
		}
	}
}

// wantDisk compares all that can be seen of two disks: their sectors and their pending writes in order.
func wantDisk(t *testing.T, what any, got, want *drum.Drum) {
	t.Helper()
	wantImage(t, what, got, want)
	n := want.Waiting()
	if got.Waiting() != n {
		t.Fatalf("%v: got %d pending writes, want %d", what, got.Waiting(), n)
	}
	// What is lost by itself and what is kept by itself tells each write and its place in the order.
	wantImage(t, what, got.Crash(nil), want.Crash(nil))
	for i := range n {
		keep := make([]bool, n)
		keep[i] = true
		wantImage(t, fmt.Sprint(what, ", write ", i), got.Crash(keep), want.Crash(keep))
	}
}

// wantSilent lets a function run that must not call Write or Sync of d.
func wantSilent(t *testing.T, what any, d *drum.Drum, f func()) {
	t.Helper()
	was, waiting := image(d), d.Waiting()
	// A disk that is asked only once with this fuse is dead for good.
	d.Fuse(0)
	f()
	d.Fuse(-1)
	if !slices.EqualFunc(image(d), was, bytes.Equal) || d.Waiting() != waiting {
		t.Errorf("%v: the disk has changed", what)
	}
	if d.Sync() != api.OK {
		t.Errorf("%v: the disk was written or synced", what)
	}
}

func texts(l [][]byte) []string {
	out := make([]string, len(l))
	for i, b := range l {
		out[i] = string(b)
	}
	return out
}

// wantOpen opens a disk that has these entries.
func wantOpen(t *testing.T, what any, d *drum.Drum, entries ...string) *redo.Log {
	t.Helper()
	was, waiting := image(d), d.Waiting()
	l, got, err := redo.Open(d)
	if err != api.OK || l == nil {
		t.Fatalf("%v: Open: got %v, %d", what, l, err)
	}
	if !slices.Equal(texts(got), entries) {
		t.Errorf("%v: Open: got %q, want %q", what, got, entries)
	}
	_, _, half := banks(d.Len())
	wantLog(t, what, l, len(entries), half*size-len(encoded(entries...)))
	if !slices.EqualFunc(image(d), was, bytes.Equal) || d.Waiting() != waiting {
		t.Errorf("%v: Open has changed the disk", what)
	}
	return l
}

func wantLog(t *testing.T, what any, l *redo.Log, count, room int) {
	t.Helper()
	if got := l.Len(); got != count {
		t.Errorf("%v: Len: got %d, want %d", what, got, count)
	}
	if got := l.Room(); got != room {
		t.Errorf("%v: Room: got %d, want %d", what, got, room)
	}
}

// wantNoOpen opens a disk that Open refuses.
func wantNoOpen(t *testing.T, what any, d *drum.Drum, want api.Errno) {
	t.Helper()
	l, got, err := redo.Open(d)
	if l != nil || len(got) != 0 || err != want {
		t.Errorf("%v: Open: got %v, %q, %d, want error %d", what, l, got, err, want)
	}
}

func wantErr(t *testing.T, what any, got, want api.Errno) {
	t.Helper()
	if got != want {
		t.Errorf("%v: got %d, want %d", what, got, want)
	}
}

// step is a call of Append or Reset.
type step struct {
	reset bool
	p     string
}

func (s step) String() string {
	name := "Append"
	if s.reset {
		name = "Reset"
	}
	return fmt.Sprintf("%s of %d bytes", name, len(s.p))
}

func (s step) run(l *redo.Log) api.Errno {
	if s.reset {
		return l.Reset([]byte(s.p))
	}
	return l.Append([]byte(s.p))
}

// call is a call that a step makes on the disk: a Write, or a Sync if there is no such sector.
type call struct {
	sector int
	data   []byte
}

func (c call) run(d *drum.Drum) api.Errno {
	if c.sector < 0 {
		return d.Sync()
	}
	return d.Write(c.sector, c.data)
}

// model is a log as the document tells it.
type model struct {
	sectors int
	number  int
	bank    int
	entries []string
}

func (m model) room() int {
	_, _, half := banks(m.sectors)
	return half*size - len(encoded(m.entries...))
}

// after returns the log after a step and the calls that make it so, or the error of the step.
func (m model) after(s step) (model, []call, api.Errno) {
	next := model{sectors: m.sectors, number: m.number + 1, bank: m.bank, entries: append(slices.Clone(m.entries), s.p)}
	if s.reset {
		next.bank, next.entries = 1-m.bank, []string{s.p}
	}
	if next.room() < 0 || next.number > lastNo {
		return m, nil, api.ErrFull
	}
	first0, first1, _ := banks(m.sectors)
	first := []int{first0, first1}[next.bank]
	all := encoded(next.entries...)
	start := len(all) - len(encoded(s.p))
	sync := call{sector: -1}
	var calls []call
	for i := start / size; i*size < len(all); i++ {
		calls = append(calls, call{sector: first + i, data: all[i*size : min(i*size+size, len(all))]})
	}
	head := call{sector: next.number & 1, data: varints(next.number, next.bank, len(all))}
	return next, append(calls, sync, head, sync), api.OK
}

// pair is a log and its model, each with a disk of its own.
type pair struct {
	log   *redo.Log
	disk  *drum.Drum
	model model
	twin  *drum.Drum
}

// begin returns a log on a disk of zero bytes.
func begin(t *testing.T, sectors int) *pair {
	t.Helper()
	d := drum.New(sectors)
	return &pair{log: wantOpen(t, sectors, d), disk: d, model: model{sectors: sectors}, twin: drum.New(sectors)}
}

// numbered returns a log with these entries in a bank, whose header has a number of choice.
func numbered(t *testing.T, sectors, number, bank int, entries ...string) *pair {
	t.Helper()
	var heads, logs [2][]byte
	b := encoded(entries...)
	heads[number&1], logs[bank] = varints(number, bank, len(b)), b
	d := disk(t, sectors, heads[0], heads[1], logs[0], logs[1])
	return &pair{log: wantOpen(t, number, d, entries...), disk: d, model: model{sectors, number, bank, entries}, twin: d.Crash(nil)}
}

// do makes a step on the log and its calls on the other disk, and asks for all that follows.
func (x *pair) do(t *testing.T, s step) api.Errno {
	t.Helper()
	next, calls, want := x.model.after(s)
	for _, c := range calls {
		wantErr(t, c.sector, c.run(x.twin), api.OK)
	}
	run := func() { wantErr(t, s, s.run(x.log), want) }
	if want == api.OK {
		run()
	} else {
		wantSilent(t, s, x.disk, run)
	}
	x.model = next
	wantDisk(t, s, x.disk, x.twin)
	wantLog(t, s, x.log, len(next.entries), next.room())
	wantOpen(t, s, x.disk, next.entries...)
	return want
}

// again returns the same log, opened anew on a disk of its own.
func (x *pair) again(t *testing.T) *pair {
	t.Helper()
	d := x.disk.Crash(nil)
	return &pair{log: wantOpen(t, "again", d, x.model.entries...), disk: d, model: x.model, twin: x.twin.Crash(nil)}
}

// P5.1

func TestExampleOfTheDocument(t *testing.T) {
	l, got, err := redo.Open(drum.New(4))
	if l == nil || err != api.OK || len(got) != 0 || l.Room() != 64 || l.Len() != 0 {
		t.Errorf("got %v, %q, %d, Room %d, Len %d", l, got, err, l.Room(), l.Len())
	}
}

func TestOpenNeedsFourSectors(t *testing.T) {
	wantNoOpen(t, "nil", nil, api.ErrArg)
	wantNoOpen(t, "zero", new(drum.Drum), api.ErrArg)
	for n := range 4 {
		wantNoOpen(t, n, drum.New(n), api.ErrArg)
		d := drum.New(n)
		for i := range n {
			d.Write(i, varints(1, 0, 0))
		}
		wantSilent(t, n, d, func() { wantNoOpen(t, n, d, api.ErrArg) })
	}
}

func TestBanksAreHalfOfTheRest(t *testing.T) {
	for n, room := range map[int]int{4: 64, 5: 64, 6: 128, 7: 128, 8: 192, 9: 192, 10: 256, 11: 256, 199: 98 * 64, 200: 99 * 64} {
		if got := wantOpen(t, n, drum.New(n)).Room(); got != room {
			t.Errorf("%d sectors: Room: got %d, want %d", n, got, room)
		}
	}
	for n := 4; n <= most; n++ {
		first0, first1, half := banks(n)
		d := drum.New(n)
		for i := 2; i < n; i++ {
			// Each sector is one entry that tells its number.
			d.Write(i, encoded(fmt.Sprintf("%063d", i)))
		}
		for bank, first := range []int{first0, first1} {
			var want []string
			for i := range half {
				want = append(want, fmt.Sprintf("%063d", first+i))
			}
			d.Write(0, varints(8, bank, half*size))
			wantOpen(t, n, d, want...)
			d.Write(0, varints(8, bank, size))
			wantOpen(t, n, d, want[0])
		}
	}
}

func TestZeroBytesAreAnEmptyLog(t *testing.T) {
	for n := 4; n <= most; n++ {
		wantOpen(t, n, drum.New(n))
	}
}

// wrongHeaders has sectors that are no valid headers of a disk whose banks have limit bytes.
func wrongHeaders(limit int) map[string][]byte {
	behind := func(i int, b byte) []byte {
		s := padded(varints(9, 0, 3))
		s[i] = b
		return s
	}
	join := func(l ...[]byte) []byte { return slices.Concat(l...) }
	seq, zero, three := varints(9), varints(0), varints(3)
	tooWide := append(bytes.Repeat([]byte{0x80}, 9), 2)
	return map[string][]byte{
		"nothing":                 nil,
		"sequence number 0":       varints(0, 0, 3),
		"sequence number 0, 1":    varints(0, 1, 3),
		"sequence number -1":      varints(-1, 0, 3),
		"sequence number -9":      varints(-9, 1, 3),
		"least sequence number":   varints(math.MinInt, 0, 3),
		"past the greatest":       varints(lastNo+1, 0, 3),
		"greatest integer":        varints(math.MaxInt, 0, 3),
		"bank -1":                 varints(9, -1, 3),
		"bank 2":                  varints(9, 2, 3),
		"bank 256":                varints(9, 256, 3),
		"bank 2^32":               varints(9, 1<<32, 3),
		"least bank":              varints(9, math.MinInt, 3),
		"greatest bank":           varints(9, math.MaxInt, 3),
		"length -1":               varints(9, 0, -1),
		"least length":            varints(9, 0, math.MinInt),
		"one byte too long":       varints(9, 0, limit+1),
		"one byte too long, 1":    varints(9, 1, limit+1),
		"one sector too long":     varints(9, 0, limit+size),
		"two banks long":          varints(9, 0, 2*limit),
		"greatest length":         varints(9, 0, math.MaxInt),
		"byte behind":             behind(3, 1),
		"byte two behind":         behind(4, 1),
		"byte in the middle":      behind(30, 0x80),
		"last byte but one":       behind(size-2, 0xff),
		"last byte":               behind(size-1, 1),
		"high bit of last byte":   behind(size-1, 0x80),
		"fourth number":           varints(9, 0, 3, 1),
		"long sequence number":    join([]byte{0x92, 0x00}, zero, three),
		"long bank":               join(seq, []byte{0x80, 0x00}, three),
		"long length":             join(seq, zero, []byte{0x86, 0x00}),
		"long zero length":        join(seq, zero, []byte{0x80, 0x00}),
		"very long length":        join(seq, zero, []byte{0x86, 0x80, 0x80, 0x00}),
		"wide sequence number":    join(tooWide, zero, three),
		"wide bank":               join(seq, tooWide, three),
		"wide length":             join(seq, zero, tooWide),
		"no end":                  bytes.Repeat([]byte{0x80}, size),
		"no end of the bank":      join(seq, bytes.Repeat([]byte{0x80}, size-1)),
		"no end of the length":    join(seq, zero, bytes.Repeat([]byte{0x80}, size-2)),
		"all bits":                bytes.Repeat([]byte{0xff}, size),
		"text":                    []byte("no header, but some words that take more than one or two numbers"),
		"shifted by a byte":       join(zero, seq, zero, three),
		"length ahead of numbers": varints(3, 9, 0),
	}
}

func TestWrongHeadersAreNotRead(t *testing.T) {
	for _, sectors := range []int{4, 5, 6, 9, most - 1, most} {
		_, _, half := banks(sectors)
		hi, yo := encoded("hi"), encoded("yo")
		for name, wrong := range wrongHeaders(half * size) {
			what := fmt.Sprint(sectors, " sectors, ", name)
			for bank, want := range []string{"hi", "yo"} {
				for _, right := range []int{1, 2, 7, lastNo} {
					good := varints(right, bank, 3)
					wantOpen(t, what, disk(t, sectors, wrong, good, hi, yo), want)
					wantOpen(t, what, disk(t, sectors, good, wrong, hi, yo), want)
				}
			}
			for _, d := range []*drum.Drum{disk(t, sectors, wrong, nil, hi, yo), disk(t, sectors, nil, wrong, hi, yo), disk(t, sectors, wrong, wrong, hi, yo)} {
				l := wantOpen(t, what, d)
				// Without a valid header the number is 0 and the bank is 0.
				wantErr(t, what, l.Append([]byte("new")), api.OK)
				if !bytes.Equal(d.Read(1), padded(varints(1, 0, 4))) || !bytes.Equal(d.Read(2), padded(encoded("new"))) {
					t.Errorf("%s: header % x, bank % x", what, d.Read(1), d.Read(2))
				}
			}
		}
	}
}

func TestGreaterNumberWins(t *testing.T) {
	numbers := []int{1, 2, 3, 4, 63, 64, 65, 255, 256, 8191, 8192, 1 << 31, 1<<31 + 1, 1<<32 - 1, 1 << 32, 1<<39 + 1, lastNo - 1, lastNo}
	for _, sectors := range []int{4, 7} {
		for _, a := range numbers {
			for _, b := range numbers {
				what := fmt.Sprint(sectors, " sectors, numbers ", a, " and ", b)
				want := "hi"
				if b > a {
					want = "yo"
				}
				wantOpen(t, what, disk(t, sectors, varints(a, 0, 3), varints(b, 1, 3), encoded("hi"), encoded("yo")), want)
				want = "yo"
				if b > a {
					want = "hi"
				}
				wantOpen(t, what, disk(t, sectors, varints(a, 1, 3), varints(b, 0, 3), encoded("hi"), encoded("yo")), want)
			}
		}
	}
}

func TestSectorZeroWinsIfBothAreEqual(t *testing.T) {
	both := encoded("a", "b", "c")
	for _, n := range []int{1, 2, 3, 4, lastNo - 1, lastNo} {
		wantOpen(t, n, disk(t, 6, varints(n, 0, 2), varints(n, 0, 4), both, both), "a")
		wantOpen(t, n, disk(t, 6, varints(n, 0, 4), varints(n, 0, 2), both, both), "a", "b")
		wantOpen(t, n, disk(t, 6, varints(n, 1, 6), varints(n, 0, 0), both, both), "a", "b", "c")
		wantOpen(t, n, disk(t, 6, varints(n, 1, 0), varints(n, 0, 6), both, both))
		if n == lastNo {
			continue
		}
		// The header of the next number goes where it belongs, even over the one that counts.
		d := disk(t, 6, varints(n, 1, 2), varints(n, 0, 4), both, both)
		wantErr(t, n, wantOpen(t, n, d, "a").Append([]byte("new")), api.OK)
		wantOpen(t, n, d, "a", "new")
		if got := d.Read((n + 1) % 2); !bytes.Equal(got, padded(varints(n+1, 1, 6))) {
			t.Errorf("number %d: header % x", n, got)
		}
	}
}

func TestOnlyTheBytesOfTheLogAreRead(t *testing.T) {
	long := encoded("", "one", strings.Repeat("y", 70), "\x00\xff", "", "last")
	noise := append(slices.Clone(long), bytes.Repeat([]byte{0xff}, 192-len(long))...)
	cuts := map[int][]string{0: nil, 1: {""}, 5: {"", "one"}, 77: {"", "one", strings.Repeat("y", 70)}, 80: {"", "one", strings.Repeat("y", 70), "\x00\xff"},
		81: {"", "one", strings.Repeat("y", 70), "\x00\xff", ""}, 86: {"", "one", strings.Repeat("y", 70), "\x00\xff", "", "last"}}
	for n := range len(noise) + 1 {
		want, whole := cuts[n]
		for bank := range 2 {
			d := disk(t, 8, varints(4, bank, n), varints(3, 1-bank, 0), noise, noise)
			if whole {
				wantOpen(t, n, d, want...)
			} else {
				wantNoOpen(t, n, d, api.ErrForm)
			}
		}
	}
}

// wrongLogs has bytes that are not a sequence of complete entries.
func wrongLogs() map[string][]byte {
	return map[string][]byte{
		"a length alone":            varints(1),
		"one byte is missing":       []byte("\x06hi"),
		"all but one are missing":   append(varints(63), 'x'),
		"greatest length":           varints(math.MaxInt),
		"length 2^32":               append(varints(1<<32), "hi"...),
		"length 2^62 + 1":           append(varints(1<<62+1), "hi"...),
		"length -1":                 varints(-1),
		"length -1 and bytes":       append(varints(-1), "hi"...),
		"length -2 and bytes":       append(varints(-2), "hi"...),
		"least length":              append(varints(math.MinInt), "hi"...),
		"no end of a length":        {0x80},
		"no end of a long length":   bytes.Repeat([]byte{0x80}, 9),
		"a length of eleven bytes":  append(bytes.Repeat([]byte{0x80}, 10), 1, 'h', 'i'),
		"a length of 65 bits":       append(bytes.Repeat([]byte{0x80}, 9), 2, 'h', 'i'),
		"a long length":             []byte("\x84\x00hi"),
		"a long length of 0":        {0x80, 0x00},
		"a very long length":        []byte("\x84\x80\x80\x00hi"),
		"all bits":                  bytes.Repeat([]byte{0xff}, 60),
		"a length ahead of nothing": {0x02},
	}
}

func TestIncompleteEntriesAreRefused(t *testing.T) {
	for _, sectors := range []int{4, 5, 6, 9} {
		_, _, half := banks(sectors)
		for name, wrong := range wrongLogs() {
			for _, entries := range [][]string{nil, {""}, {"a"}, {"a", "", "bc"}, {strings.Repeat("z", 61)}, {strings.Repeat("z", 100), "y"}} {
				log := slices.Concat(encoded(entries...), wrong)
				if len(log) > half*size {
					continue
				}
				what := fmt.Sprint(sectors, " sectors, ", name, " after ", len(entries))
				fine := encoded("fine")
				for bank := range 2 {
					logs := [][]byte{log, fine}
					if bank == 1 {
						logs = [][]byte{fine, log}
					}
					for _, d := range []*drum.Drum{
						disk(t, sectors, varints(5, bank, len(log)), nil, logs[0], logs[1]),
						disk(t, sectors, nil, varints(5, bank, len(log)), logs[0], logs[1]),
						// A log that is older is no way out.
						disk(t, sectors, varints(4, 1-bank, len(fine)), varints(5, bank, len(log)), logs[0], logs[1]),
						disk(t, sectors, varints(6, bank, len(log)), varints(5, 1-bank, len(fine)), logs[0], logs[1]),
						disk(t, sectors, varints(6, bank, len(log)), varints(6, 1-bank, len(fine)), logs[0], logs[1]),
					} {
						wantSilent(t, what, d, func() { wantNoOpen(t, what, d, api.ErrForm) })
					}
					// The log that is older may be of any kind.
					wantOpen(t, what, disk(t, sectors, varints(6, 1-bank, len(fine)), varints(5, bank, len(log)), logs[0], logs[1]), "fine")
				}
			}
		}
	}
}

func TestOpenWritesNothing(t *testing.T) {
	for _, sectors := range []int{4, 5, 6, 9, most} {
		hi := encoded("hi")
		for name, d := range map[string]*drum.Drum{
			"empty":   drum.New(sectors),
			"written": disk(t, sectors, varints(2, 0, 3), varints(1, 0, 0), hi, nil),
			"wrong":   disk(t, sectors, []byte("no header"), []byte("none either"), hi, hi),
		} {
			wantSilent(t, name, d, func() {
				l, _, err := redo.Open(d)
				if err != api.OK || l.Len() > 1 || l.Room() < 61 {
					t.Errorf("%s: got %d", name, err)
				}
			})
		}
		d := drum.New(sectors)
		d.Write(0, varints(2, 0, 3))
		d.Write(2, hi)
		d.Write(2, hi)
		wantOpen(t, "three pending writes", d, "hi")
		if d.Waiting() != 3 {
			t.Errorf("%d writes are pending, want 3", d.Waiting())
		}
		wantOpen(t, "all of them lost", d.Crash(nil))
	}
}

func TestDeadDiskCanBeOpened(t *testing.T) {
	d := disk(t, 6, varints(2, 1, 3), nil, nil, encoded("hi"))
	d.Fuse(0)
	wantErr(t, "Sync", d.Sync(), api.ErrDead)
	l := wantOpen(t, "dead", d, "hi")
	wantErr(t, "too long", l.Append(make([]byte, 124)), api.ErrFull)
	wantErr(t, "too long", l.Reset(make([]byte, 127)), api.ErrFull)
	wantErr(t, "Append", l.Append(nil), api.ErrDead)
	wantErr(t, "too long for a dead log", l.Append(make([]byte, 124)), api.ErrDead)
	wantErr(t, "too long for a dead log", l.Reset(make([]byte, 127)), api.ErrDead)
	wantLog(t, "dead", l, 1, 125)
	wantOpen(t, "dead", d, "hi")
}

// P5.2 and P5.3

func TestWrittenOut(t *testing.T) {
	d := drum.New(7)
	l := wantOpen(t, "new", d)
	x := strings.Repeat("x", 70)
	want := drum.New(7)
	for i, c := range []struct {
		s       step
		err     api.Errno
		sectors map[int]string
		count   int
		room    int
	}{
		{step{false, "hi"}, api.OK, map[int]string{1: "\x02\x00\x06", 2: "\x04hi"}, 1, 125},
		{step{false, ""}, api.OK, map[int]string{0: "\x04\x00\x08", 2: "\x04hi\x00"}, 2, 124},
		{step{false, x}, api.OK, map[int]string{1: "\x06\x00\x98\x01", 2: "\x04hi\x00\x8c\x01" + x[:58], 3: x[58:]}, 3, 52},
		{step{false, x[:52]}, api.ErrFull, nil, 3, 52},
		{step{true, "new"}, api.OK, map[int]string{0: "\x08\x02\x08", 4: "\x06new"}, 1, 124},
		{step{false, "er"}, api.OK, map[int]string{1: "\x0a\x02\x0e", 4: "\x06new\x04er"}, 2, 121},
		{step{true, ""}, api.OK, map[int]string{0: "\x0c\x00\x02", 2: "\x00"}, 1, 127},
		{step{true, x}, api.OK, map[int]string{1: "\x0e\x02\x90\x01", 4: "\x8c\x01" + x[:62], 5: x[62:]}, 1, 56},
	} {
		what := fmt.Sprint(i, ", ", c.s)
		wantErr(t, what, c.s.run(l), c.err)
		for place, s := range c.sectors {
			want.Write(place, []byte(s))
		}
		want.Sync()
		wantDisk(t, what, d, want)
		wantLog(t, what, l, c.count, c.room)
	}
	wantOpen(t, "at last", d, x)
}

func TestAppendsAndResetsInTurn(t *testing.T) {
	for _, sectors := range []int{4, 5, 6, 7, 8, 11, most - 1, most} {
		x := begin(t, sectors)
		for i, s := range []step{
			{false, "a"}, {false, ""}, {false, "bc"}, {true, "d"}, {false, "ef"}, {false, ""}, {true, ""}, {true, "gh"}, {true, "i"},
			{false, "\x00"}, {false, "\x00\x00"}, {false, "\xff\x80"}, {true, "\x00"}, {false, "naïve"}, {true, "last"},
		} {
			if x.do(t, s) != api.OK {
				t.Errorf("%d sectors, step %d is refused", sectors, i)
			}
			x.again(t).do(t, step{false, "on the side"})
		}
		if x.model.number != 15 {
			t.Errorf("%d sectors: number %d", sectors, x.model.number)
		}
	}
}

func TestFullBankAndReset(t *testing.T) {
	for _, sectors := range []int{4, 5, 6, 9} {
		x := begin(t, sectors)
		for round := range 4 {
			for n := 0; x.do(t, step{false, strings.Repeat("n", n%23)}) == api.OK; n++ {
				if n > 500 {
					t.Fatal("the bank is never full")
				}
			}
			for x.do(t, step{false, ""}) == api.OK {
			}
			wantLog(t, round, x.log, len(x.model.entries), 0)
			x.do(t, step{true, fmt.Sprint(round)})
		}
	}
}

// around has the numbers of bytes at which a log may end that has begun at start, on all sides of the ends of sectors.
func around(start, limit int) []int {
	var l []int
	for end := start + 1; end <= limit+3; end++ {
		if edge := (end + 3) % size; edge <= 6 || end <= start+2 || end >= limit-2 {
			l = append(l, end)
		}
	}
	return l
}

func TestEntriesAtTheEndsOfSectors(t *testing.T) {
	const sectors = 9
	limit := 3 * size
	for start := range limit + 1 {
		s, ok := sized(start)
		if !ok && start > 0 {
			continue
		}
		for _, end := range around(start, limit) {
			p, ok := sized(end - start)
			if !ok {
				continue
			}
			want := api.OK
			if end > limit {
				want = api.ErrFull
			}
			x := begin(t, sectors)
			if start > 0 {
				wantErr(t, start, x.do(t, step{false, s}), api.OK)
			}
			wantErr(t, end, x.do(t, step{false, p}), want)
		}
	}
}

func TestManySmallEntriesPassTheEndsOfSectors(t *testing.T) {
	for n := range 4 {
		x := begin(t, 8)
		for x.do(t, step{false, strings.Repeat("e", n)}) == api.OK {
		}
		if got := x.model.room(); got > n {
			t.Errorf("refused with room for %d bytes", got)
		}
	}
}

func TestEntriesOfSeveralSectors(t *testing.T) {
	x := begin(t, 30)
	text := strings.Repeat("abcdefghijklmnopqrstuvwxyz0123456789", 30)
	for _, n := range []int{200, 1, 62, 63, 64, 65, 126, 300, 0} {
		wantErr(t, n, x.do(t, step{false, text[:n]}), api.OK)
	}
	for _, n := range []int{700, 896 - 2, 64, 0, 128, 500} {
		wantErr(t, n, x.do(t, step{true, text[:n]}), api.OK)
		wantErr(t, n, x.again(t).do(t, step{false, text[:896-2]}), api.ErrFull)
	}
}

func TestBankIsFilledExactly(t *testing.T) {
	for _, sectors := range []int{4, 5, 6, 7, 8, 9, 20, 130, 131, most - 1, most} {
		_, _, half := banks(sectors)
		limit := half * size
		fit, ok := sized(limit)
		if !ok {
			t.Fatalf("no entry takes %d bytes", limit)
		}
		for _, reset := range []bool{false, true} {
			x := begin(t, sectors)
			wantErr(t, sectors, x.do(t, step{reset, fit + "s"}), api.ErrFull)
			wantErr(t, sectors, x.do(t, step{reset, fit + strings.Repeat("s", 10000)}), api.ErrFull)
			wantErr(t, sectors, x.do(t, step{reset, fit}), api.OK)
			wantLog(t, sectors, x.log, 1, 0)
			wantErr(t, sectors, x.do(t, step{false, ""}), api.ErrFull)
			wantErr(t, sectors, x.do(t, step{false, fit}), api.ErrFull)
			wantErr(t, sectors, x.do(t, step{true, fit + "s"}), api.ErrFull)
			// A log that refuses is not dead.
			wantErr(t, sectors, x.do(t, step{true, fit}), api.OK)
			wantErr(t, sectors, x.do(t, step{true, ""}), api.OK)
			wantErr(t, sectors, x.do(t, step{false, "on"}), api.OK)
		}
	}
}

func TestRestOfABankIsFilledExactly(t *testing.T) {
	for _, sectors := range []int{4, 7, 9} {
		_, _, half := banks(sectors)
		for rest := 1; rest < half*size; rest++ {
			first, ok := sized(half*size - rest)
			fit, fits := sized(rest)
			if !ok || !fits {
				continue
			}
			for _, s := range []step{{false, first}, {true, first}} {
				x := begin(t, sectors)
				wantErr(t, rest, x.do(t, s), api.OK)
				wantErr(t, rest, x.do(t, step{false, fit + "s"}), api.ErrFull)
				wantErr(t, rest, x.do(t, step{false, fit}), api.OK)
				wantLog(t, rest, x.log, 2, 0)
				wantErr(t, rest, x.do(t, step{false, ""}), api.ErrFull)
			}
		}
	}
}

func TestResetOnlyNeedsItsOwnBank(t *testing.T) {
	for _, sectors := range []int{4, 6, 7} {
		_, _, half := banks(sectors)
		x := begin(t, sectors)
		for n := 0; n <= half*size; n++ {
			if p, ok := sized(n); ok {
				wantErr(t, n, x.do(t, step{true, p}), api.OK)
				wantLog(t, n, x.log, 1, half*size-n)
			}
		}
	}
}

func TestOldBytesAreWrittenOver(t *testing.T) {
	noise := bytes.Repeat([]byte{0xff}, 2*size)
	for n := range 40 {
		entries := []string{"one", strings.Repeat("t", n)}
		log := encoded(entries...)
		dirty := append(slices.Clone(log), noise[len(log):]...)
		for bank := range 2 {
			for _, s := range []step{{false, ""}, {false, "new"}, {false, strings.Repeat("n", 58)}, {true, ""}, {true, "new"}, {true, strings.Repeat("n", 70)}} {
				logs := [][]byte{dirty, noise}
				if bank == 1 {
					logs = [][]byte{noise, dirty}
				}
				d := disk(t, 6, varints(8, bank, len(log)), varints(7, 1-bank, 0), logs[0], logs[1])
				x := &pair{log: wantOpen(t, n, d, entries...), disk: d, model: model{6, 8, bank, entries}, twin: d.Crash(nil)}
				wantErr(t, s, x.do(t, s), api.OK)
			}
		}
	}
}

func TestHeadersTakeTurns(t *testing.T) {
	for _, number := range []int{1, 2, 3, 62, 63, 64, 65, 126, 127, 8190, 8191, 8192, 1<<31 - 2, 1<<32 - 2, 1<<39 - 1, lastNo - 9} {
		for bank := range 2 {
			x := numbered(t, 6, number, bank, "one")
			for _, s := range []step{{false, "two"}, {false, ""}, {true, "three"}, {true, "four"}, {true, "five"}, {false, "six"}, {false, "seven"}} {
				wantErr(t, number, x.do(t, s), api.OK)
				if got := x.disk.Read(x.model.number % 2); !bytes.HasPrefix(got, varints(x.model.number, x.model.bank)) {
					t.Errorf("number %d: header % x", x.model.number, got)
				}
			}
		}
	}
}

func TestHeaderInTheOtherSector(t *testing.T) {
	for _, number := range []int{1, 2, 3, 8} {
		for bank := range 2 {
			heads := [2][]byte{varints(number, bank, 4), varints(number, bank, 4)}
			heads[number%2] = nil
			d := disk(t, 6, heads[0], heads[1], encoded("one"), encoded("one"))
			x := &pair{log: wantOpen(t, number, d, "one"), disk: d, model: model{6, number, bank, []string{"one"}}, twin: d.Crash(nil)}
			for _, s := range []step{{false, "two"}, {true, "three"}, {false, "four"}} {
				wantErr(t, number, x.do(t, s), api.OK)
			}
		}
	}
}

func TestGreatestNumber(t *testing.T) {
	for bank := range 2 {
		for _, reset := range []bool{false, true} {
			x := numbered(t, 6, lastNo-1, bank, "one")
			wantErr(t, "the one before", x.do(t, step{reset, "two"}), api.OK)
			if x.model.number != lastNo || !bytes.HasPrefix(x.disk.Read(0), varints(lastNo)) {
				t.Errorf("number %d, header % x", x.model.number, x.disk.Read(0))
			}
			for _, y := range []*pair{x, x.again(t), numbered(t, 6, lastNo, bank, "one"), numbered(t, 6, lastNo, bank)} {
				for range 2 {
					for _, p := range []string{"", "p", strings.Repeat("p", 70), strings.Repeat("p", 1000)} {
						wantErr(t, "Append", y.do(t, step{false, p}), api.ErrFull)
						wantErr(t, "Reset", y.do(t, step{true, p}), api.ErrFull)
					}
				}
			}
		}
	}
}

func TestLenAndRoomWriteNothing(t *testing.T) {
	x := begin(t, 6)
	x.do(t, step{false, "a"})
	wantSilent(t, "Len and Room", x.disk, func() { wantLog(t, "asked", x.log, 1, 126) })
}

func TestTwoLogsAreApart(t *testing.T) {
	x, y := begin(t, 6), begin(t, 8)
	for i := range 10 {
		x.do(t, step{i%4 == 3, fmt.Sprint("x", i)})
		y.do(t, step{i%3 == 2, fmt.Sprint("y", i)})
		wantLog(t, i, x.log, len(x.model.entries), x.model.room())
	}
}

// Failing disks: P5.2, P5.3 and P5.4

// bases has logs of many kinds, each with nothing pending.
func bases(t *testing.T) []*pair {
	t.Helper()
	full, _ := sized(2 * size)
	l := []*pair{
		begin(t, 4), begin(t, 5), begin(t, 6), begin(t, 9),
		numbered(t, 6, 1, 0, "one"), numbered(t, 6, 2, 1, "one"), numbered(t, 7, 3, 1, "one", ""), numbered(t, 6, 4, 0),
		numbered(t, 6, 7, 0, strings.Repeat("s", 63)), numbered(t, 6, 8, 1, strings.Repeat("s", 62)), numbered(t, 8, 9, 0, strings.Repeat("s", 64)),
		numbered(t, 6, 10, 0, full), numbered(t, 6, 11, 1, full), numbered(t, 9, lastNo-1, 0, "one"), numbered(t, 9, lastNo-2, 1, "one"),
	}
	for _, sectors := range []int{6, 9} {
		x := begin(t, sectors)
		for _, s := range []step{{false, "a"}, {false, "bc"}, {true, "def"}, {false, strings.Repeat("g", 80)}, {true, strings.Repeat("h", 90)}, {false, ""}} {
			x.do(t, s)
			l = append(l, x.again(t))
		}
	}
	return l
}

// steps has steps that write one sector or more.
func steps() []step {
	var l []step
	for _, n := range []int{0, 1, 50, 58, 59, 60, 62, 63, 64, 65, 120, 126, 150, 190} {
		l = append(l, step{false, strings.Repeat("n", n)}, step{true, strings.Repeat("r", n)})
	}
	return l
}

// eachFailure lets each step fail at each of its calls, and also lets it succeed.
func eachFailure(t *testing.T, f func(t *testing.T, what string, x *pair, s step, fuse, calls int)) {
	for i, base := range bases(t) {
		for _, s := range steps() {
			_, calls, err := base.model.after(s)
			if err != api.OK {
				continue
			}
			for fuse := range len(calls) + 1 {
				f(t, fmt.Sprintf("base %d, %s, fuse %d", i, s, fuse), base.again(t), s, fuse, len(calls))
			}
		}
	}
}

// fail makes a step of which only some calls are executed, on the log and on the other disk.
func (x *pair) fail(t *testing.T, what any, s step, fuse int) {
	t.Helper()
	_, calls, _ := x.model.after(s)
	for _, c := range calls[:fuse] {
		wantErr(t, what, c.run(x.twin), api.OK)
	}
	want := api.OK
	if fuse < len(calls) {
		want = api.ErrDead
	}
	x.disk.Fuse(fuse)
	wantErr(t, what, s.run(x.log), want)
	wantDisk(t, what, x.disk, x.twin)
}

func TestFailureAtEachCall(t *testing.T) {
	eachFailure(t, func(t *testing.T, what string, x *pair, s step, fuse, calls int) {
		x.fail(t, what, s, fuse)
		if fuse < calls {
			wantLog(t, what, x.log, len(x.model.entries), x.model.room())
			return
		}
		next, _, _ := x.model.after(s)
		wantLog(t, what, x.log, len(next.entries), next.room())
		// The step made all its calls and no more.
		wantErr(t, what, x.disk.Sync(), api.ErrDead)
	})
}

func TestNoCallMoreThanNeeded(t *testing.T) {
	eachFailure(t, func(t *testing.T, what string, x *pair, s step, fuse, calls int) {
		if fuse < calls {
			return
		}
		x.disk.Fuse(calls + 1)
		wantErr(t, what, s.run(x.log), api.OK)
		wantErr(t, what, x.disk.Sync(), api.OK)
		wantErr(t, what, x.disk.Sync(), api.ErrDead)
	})
}

func TestDeadLogRemainsDead(t *testing.T) {
	eachFailure(t, func(t *testing.T, what string, x *pair, s step, fuse, calls int) {
		if fuse == calls {
			return
		}
		x.fail(t, what, s, fuse)
		later := []step{{false, ""}, {true, ""}, {false, "p"}, s, {true, "p"}, {false, strings.Repeat("p", 9999)}, {true, strings.Repeat("p", 9999)}}
		for _, again := range later {
			wantErr(t, what, again.run(x.log), api.ErrDead)
			wantLog(t, what, x.log, len(x.model.entries), x.model.room())
		}
		wantDisk(t, what, x.disk, x.twin)
		// Not even a disk that works again makes the log work again.
		*x.disk = *x.disk.Crash(nil)
		for _, again := range later {
			wantSilent(t, what, x.disk, func() { wantErr(t, what, again.run(x.log), api.ErrDead) })
			wantErr(t, what, again.run(x.log), api.ErrDead)
			wantLog(t, what, x.log, len(x.model.entries), x.model.room())
		}
		wantImage(t, what, x.disk, x.twin.Crash(nil))
	})
}

// crash returns the log after a crash, which has come after some of the calls of a step.
func (x *pair) crash(t *testing.T, what any, s step, fuse int, keep []bool) *pair {
	t.Helper()
	next, calls, _ := x.model.after(s)
	m := x.model
	// Ahead of the second Sync the header is the only pending write.
	if fuse == len(calls) || fuse == len(calls)-1 && len(keep) > 0 && keep[0] {
		m = next
	}
	d := x.disk.Crash(keep)
	return &pair{log: wantOpen(t, what, d, m.entries...), disk: d, model: m, twin: x.twin.Crash(keep)}
}

func TestCrashAtEachCall(t *testing.T) {
	eachFailure(t, func(t *testing.T, what string, x *pair, s step, fuse, calls int) {
		x.fail(t, what, s, fuse)
		for _, keep := range choices(x.disk.Waiting()) {
			what := fmt.Sprint(what, ", keep ", keep)
			for _, then := range []step{s, {false, "z"}, {true, "z"}, {true, strings.Repeat("z", 62)}} {
				y := x.crash(t, what, s, fuse, keep)
				y.do(t, then)
				y.do(t, step{true, "y"})
				y.do(t, step{false, "x"})
			}
		}
	})
}

func TestCrashAfterACrash(t *testing.T) {
	for _, first := range []step{{false, strings.Repeat("n", 70)}, {true, strings.Repeat("n", 70)}} {
		for _, second := range []step{{false, "m"}, {false, strings.Repeat("m", 60)}, {true, "m"}, {true, strings.Repeat("m", 60)}} {
			base := begin(t, 8)
			base.do(t, step{false, "one"})
			eachCrash(t, base, first, func(x *pair) {
				eachCrash(t, x, second, func(y *pair) {
					eachCrash(t, y, first, func(z *pair) {})
				})
			})
		}
	}
}

// eachCrash lets a step end by a crash in each way there is.
func eachCrash(t *testing.T, base *pair, s step, f func(*pair)) {
	t.Helper()
	_, calls, err := base.model.after(s)
	if err != api.OK {
		return
	}
	for fuse := range len(calls) + 1 {
		x := base.again(t)
		what := fmt.Sprint(s, ", fuse ", fuse)
		x.fail(t, what, s, fuse)
		for _, keep := range choices(x.disk.Waiting()) {
			f(x.crash(t, what, s, fuse, keep))
		}
	}
}

func TestCrashOfALivingDisk(t *testing.T) {
	x := begin(t, 9)
	for i, s := range []step{{false, "a"}, {false, strings.Repeat("b", 100)}, {true, "c"}, {false, "d"}, {true, strings.Repeat("e", 150)}} {
		x.do(t, s)
		for n := range 4 {
			for _, keep := range choices(n) {
				wantOpen(t, i, x.disk.Crash(keep), x.model.entries...)
			}
		}
	}
}

// P5.4

func TestNilLog(t *testing.T) {
	var l *redo.Log
	for range 2 {
		for _, p := range [][]byte{nil, {}, []byte("p"), make([]byte, 10000)} {
			wantErr(t, "Append", l.Append(p), api.ErrArg)
			wantErr(t, "Reset", l.Reset(p), api.ErrArg)
			wantLog(t, "nil", l, 0, 0)
		}
	}
}

func TestZeroLogDoesNotPanic(t *testing.T) {
	l := new(redo.Log)
	for range 2 {
		if l.Append([]byte("p")) == api.OK || l.Reset(nil) == api.OK {
			t.Error("a log without a disk has taken an entry")
		}
		wantLog(t, "zero", l, 0, 0)
	}
}

func TestCopiedLogGoesOn(t *testing.T) {
	x := begin(t, 6)
	x.do(t, step{false, "a"})
	c := *x.log
	x.log = &c
	x.do(t, step{false, "b"})
	x.do(t, step{true, "c"})
	x.fail(t, "copied", step{false, "d"}, 1)
	c2 := c
	wantErr(t, "dead", c2.Append(nil), api.ErrDead)
}

func TestNilAndEmptyAreTheSame(t *testing.T) {
	for _, p := range [][]byte{nil, {}, make([]byte, 0, 10), []byte("abc")[:0]} {
		d := drum.New(4)
		l := wantOpen(t, p, d)
		wantErr(t, p, l.Append(p), api.OK)
		wantOpen(t, p, d, "")
		wantErr(t, p, l.Append(p), api.OK)
		wantOpen(t, p, d, "", "")
		wantErr(t, p, l.Reset(p), api.OK)
		wantOpen(t, p, d, "")
	}
}

func TestArgumentsAreNeitherChangedNorKept(t *testing.T) {
	for n := range 140 {
		for _, reset := range []bool{false, true} {
			for _, fuse := range []int{-1, 0, 1, 2, 3} {
				was := bytes.Repeat([]byte("abcdefg"), 60)
				whole := slices.Clone(was)
				p := whole[10 : 10+n]
				d := drum.New(6)
				l := wantOpen(t, n, d)
				wantErr(t, n, l.Append([]byte("one")), api.OK)
				d.Fuse(fuse)
				call := l.Append
				if reset {
					call = l.Reset
				}
				err := call(p)
				if !bytes.Equal(whole, was) {
					t.Fatalf("%d bytes: the argument became %q", n, whole)
				}
				clear(whole)
				l.Append([]byte("later"))
				l.Reset([]byte("latest"))
				l.Append([]byte("last"))
				if !bytes.Equal(whole, make([]byte, len(whole))) {
					t.Fatalf("%d bytes: the argument was written later", n)
				}
				if fuse < 0 && err == api.OK {
					wantOpen(t, n, d, "latest", "last")
				}
			}
		}
	}
}

func TestWrittenEntriesAreNotThoseOfTheCaller(t *testing.T) {
	for n := range 70 {
		d := drum.New(8)
		l := wantOpen(t, n, d)
		p := bytes.Repeat([]byte("p"), n)
		want := string(p)
		wantErr(t, n, l.Append(p), api.OK)
		clear(p)
		wantOpen(t, n, d, want)
		// The next entry is written together with bytes of this one.
		wantErr(t, n, l.Append([]byte("next")), api.OK)
		wantOpen(t, n, d, want, "next")
		p = []byte(want)
		wantErr(t, n, l.Reset(p), api.OK)
		clear(p)
		wantErr(t, n, l.Append([]byte("next")), api.OK)
		wantOpen(t, n, d, want, "next")
	}
}

// spoil overwrites a slice and its unused capacity.
func spoil(b []byte) {
	b = b[:cap(b)]
	for i := range b {
		b[i] = 0xee
	}
}

func TestResultsShareNothing(t *testing.T) {
	want := []string{"a", "", "bc", strings.Repeat("d", 70), "", "e", strings.Repeat("f", 9)}
	for spoiled := range want {
		x := begin(t, 10)
		for _, s := range want {
			x.do(t, step{false, s})
		}
		l, got, _ := redo.Open(x.disk)
		_, other, _ := redo.Open(x.disk)
		spoil(got[spoiled])
		for i, s := range want {
			if i != spoiled && string(got[i]) != s {
				t.Errorf("entry %d became %q with entry %d", i, got[i], spoiled)
			}
		}
		if !slices.Equal(texts(other), want) {
			t.Errorf("another result became %q", other)
		}
		clear(got[:cap(got)])
		if !slices.Equal(texts(other), want) {
			t.Errorf("another result became %q", other)
		}
		x.log = l
		wantLog(t, spoiled, l, len(want), x.model.room())
		x.do(t, step{false, "more"})
		x.do(t, step{true, "new"})
	}
}

func TestResultsDoNotChange(t *testing.T) {
	want := []string{"a", "", "bc", strings.Repeat("d", 70)}
	x := begin(t, 8)
	for _, s := range want {
		x.do(t, step{false, s})
	}
	l, got, _ := redo.Open(x.disk)
	x.log = l
	for _, s := range []step{{false, "e"}, {true, strings.Repeat("f", 100)}, {true, strings.Repeat("g", 100)}, {false, strings.Repeat("h", 50)}, {true, "i"}} {
		wantErr(t, s, x.do(t, s), api.OK)
		if !slices.Equal(texts(got), want) {
			t.Fatalf("%s: the result became %q", s, got)
		}
	}
	x.disk.Fuse(0)
	x.log.Append([]byte("dead"))
	for i := range x.disk.Len() {
		spoil(x.disk.Read(i))
	}
	if !slices.Equal(texts(got), want) {
		t.Errorf("the result became %q", got)
	}
}

func TestAppendedResultCanBeExtended(t *testing.T) {
	x := begin(t, 8)
	x.do(t, step{false, "a"})
	x.do(t, step{false, "b"})
	_, got, _ := redo.Open(x.disk)
	longer := append(got[0], "xyz"...)
	if string(got[1]) != "b" || string(longer) != "axyz" {
		t.Errorf("got %q and %q", got[1], longer)
	}
	wantOpen(t, "extended", x.disk, "a", "b")
}

// P5.1 to P5.4 together

// script hands out numbers of a sequence of bytes, and 0 where it has ended.
type script []byte

func (s *script) next() int {
	if len(*s) == 0 {
		return 0
	}
	b := (*s)[0]
	*s = (*s)[1:]
	return int(b)
}

func (s *script) step() step {
	n := s.next()
	b := byte(s.next())
	return step{reset: n%4 == 0, p: strings.Repeat(string([]byte{b}), n/4+s.next()%3*60)}
}

// follow makes the calls of a script on a log and on its model.
func follow(t *testing.T, s script) {
	x := begin(t, 4+s.next()%8)
	for len(s) > 0 && !t.Failed() {
		what := s.next() % 8
		next := s.step()
		_, calls, err := x.model.after(next)
		switch {
		case what < 4 || err != api.OK:
			x.do(t, next)
		case what < 5:
			x = x.again(t)
		default:
			fuse := s.next() % (len(calls) + 1)
			x.fail(t, what, next, fuse)
			keep := make([]bool, x.disk.Waiting())
			for i := range keep {
				keep[i] = s.next()%2 != 0
			}
			x = x.crash(t, what, next, fuse, keep)
		}
	}
}

func TestLongScripts(t *testing.T) {
	random := rand.New(rand.NewPCG(5, 5))
	for range 1000 {
		s := make(script, random.IntN(300))
		for i := range s {
			s[i] = byte(random.Uint32())
		}
		follow(t, s)
	}
}

// number decodes the varint at the beginning of b, if it is one in its only form.
func number(b []byte) (int, []byte, bool) {
	n, used := binary.Varint(b)
	if used <= 0 || !bytes.HasPrefix(b, varints(int(n))) {
		return 0, nil, false
	}
	return int(n), b[used:], true
}

// plainHeader decodes a header step by step, as the document tells it.
func plainHeader(b []byte, limit int) (seq, bank, length int, ok bool) {
	for _, to := range []*int{&seq, &bank, &length} {
		if *to, b, ok = number(b); !ok {
			return 0, 0, 0, false
		}
	}
	if seq < 1 || seq > lastNo || bank < 0 || bank > 1 || length < 0 || length > limit || len(bytes.Trim(b, "\x00")) > 0 {
		return 0, 0, 0, false
	}
	return seq, bank, length, true
}

// plainOpen reads a log step by step, as the document tells it.
func plainOpen(d *drum.Drum) ([]string, bool) {
	first0, first1, half := banks(d.Len())
	seq0, bank, length, ok0 := plainHeader(d.Read(0), half*size)
	seq1, bank1, length1, ok1 := plainHeader(d.Read(1), half*size)
	if ok1 && (!ok0 || seq1 > seq0) {
		bank, length = bank1, length1
	}
	var b []byte
	for i := range half {
		b = append(b, d.Read([]int{first0, first1}[bank]+i)...)
	}
	var entries []string
	for b = b[:length]; len(b) > 0; {
		n, rest, ok := number(b)
		if !ok || n < 0 || n > len(rest) {
			return nil, false
		}
		entries, b = append(entries, string(rest[:n])), rest[n:]
	}
	return entries, true
}

// readAny opens a disk with any bytes at all, and returns the number of its entries, or -1 if it is refused.
func readAny(t *testing.T, b []byte) int {
	sectors := 4
	if len(b) > 0 {
		sectors += int(b[0]) % 6
		b = b[1:]
	}
	d := drum.New(sectors)
	i := 0
	for part := range slices.Chunk(b, size) {
		d.Write(i, part)
		i++
	}
	want, ok := plainOpen(d)
	if !ok {
		wantNoOpen(t, "any", d, api.ErrForm)
		return -1
	}
	l := wantOpen(t, "any", d, want...)
	if l.Append(nil) == api.OK {
		wantOpen(t, "appended", d, append(slices.Clone(want), "")...)
	}
	return len(want)
}

func TestAnyBytesCanBeOpened(t *testing.T) {
	random := rand.New(rand.NewPCG(5, 1))
	refused, empty, filled := 0, 0, 0
	for range 20000 {
		b := make([]byte, 1+7*size)
		b[0] = byte(random.IntN(6))
		for i := range 2 {
			head := varints(random.IntN(5), random.IntN(3), random.IntN(10)*random.IntN(10))
			copy(b[1+i*size:], head)
			if random.IntN(8) == 0 {
				b[1+i*size+random.IntN(size)] = byte(random.Uint32())
			}
		}
		for at := 1 + 2*size; at < len(b); at++ {
			// Mostly small lengths, so that many of the logs are sequences of entries.
			if b[at] = byte(random.IntN(4) * 2); random.IntN(60) == 0 {
				b[at] = byte(random.Uint32())
			}
		}
		switch count := readAny(t, b); {
		case count < 0:
			refused++
		case count == 0:
			empty++
		default:
			filled++
		}
		if t.Failed() {
			t.Fatalf("a disk of % x", b)
		}
	}
	if min(refused, empty, filled) < 1000 {
		t.Errorf("too few disks of a kind: %d refused, %d empty, %d filled", refused, empty, filled)
	}
}

func FuzzLog(f *testing.F) {
	f.Add([]byte{2, 0, 5, 'a', 0, 0, 9, 'b', 1, 5, 8, 'c', 0, 2, 1, 1})
	f.Add([]byte{0, 0, 255, 'a', 0, 7, 4, 'b', 0, 3, 1, 4, 0, 'c', 0})
	f.Fuzz(func(t *testing.T, b []byte) { follow(t, b) })
}

func FuzzOpen(f *testing.F) {
	f.Add([]byte{0})
	f.Add(slices.Concat([]byte{0}, padded(varints(2, 0, 3)), padded(varints(1, 1, 0)), padded(encoded("hi"))))
	f.Add(slices.Concat([]byte{2}, padded(varints(2, 0, 9)), padded(varints(3, 1, 70)), padded(nil), padded(nil), encoded(strings.Repeat("x", 67))))
	f.Fuzz(func(t *testing.T, b []byte) { readAny(t, b) })
}
