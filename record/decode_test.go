package record_test

import (
	"bytes"
	"encoding/binary"
	"math"
	"slices"
	"strings"
	"testing"

	"ligature/api"
	"ligature/record"
)

// wantErrForm asks for the rejection of bytes that are no encoding.
func wantErrForm(t *testing.T, b []byte) {
	t.Helper()
	nodes, edges, l, err := record.Decode(b)
	if err != api.ErrForm || nodes != 0 || edges != 0 || len(l) != 0 {
		t.Errorf("Decode(% .200x), %d bytes: %d, %d, %+.400v, %v, want ErrForm", b, len(b), nodes, edges, l, err)
	}
	if _, is := plainDecode(b); is {
		t.Errorf("the test itself takes % .200x to be an encoding", b)
	}
}

// wantDecoded asks for the arguments whose encoding b is.
func wantDecoded(t *testing.T, b []byte, want arguments) {
	t.Helper()
	nodes, edges, l, err := record.Decode(b)
	if err != api.OK || !identical(arguments{nodes, edges, l}, want) {
		t.Errorf("Decode(% x) = %d, %d, %+.400v, %v, want %+.400v", b, nodes, edges, l, err, want)
	}
}

// wantAsPlain asks for what the tests themselves find in b.
func wantAsPlain(t *testing.T, b []byte) {
	t.Helper()
	if want, is := plainDecode(b); is {
		wantDecoded(t, b, want)
		if again := plainEncode(want.nodes, want.edges, want.l); !bytes.Equal(again, b) {
			t.Errorf("the test itself takes % x for % x", b, again)
		}
	} else {
		wantErrForm(t, b)
	}
}

// samples has arguments with elements, labels, properties and values of every kind.
func samples() []arguments {
	full := holding(prop("b", truth(true)), prop("n", whole(-3000)), prop("t", text("x y")))
	full.Labels = []string{"a", "bc", "d"}
	l := []arguments{
		{}, {24, 32, nil}, {1, 0, []api.Write{addNode(1, api.Node{})}}, {0, 1, []api.Write{dropEdge(1)}},
		{3, 2, []api.Write{addNode(2, full), addEdge(1, edge(2, 1, "t", 1)), dropNode(1), dropEdge(2), addNode(3, holding(prop("f", number(negZero))))}},
		{2, 2, []api.Write{dropEdge(2), addNode(1, labelled("z")), dropNode(2), addEdge(1, edge(24, 24, "abcdefgh", negZero))}},
		{24, 32, []api.Write{addEdge(32, edge(1, 24, "tt", posInf)), addNode(24, holding(prop("f", number(nan)), prop("fa", text(""))))}},
	}
	for _, v := range []api.Val{truth(false), whole(math.MinInt), number(-smallest), text("twelve bytes")} {
		l = append(l, arguments{1, 1, []api.Write{addNode(1, holding(prop("k", v)))}})
	}
	return l
}

// encoding returns the bytes of valid arguments.
func encoding(t *testing.T, a arguments) []byte {
	t.Helper()
	b, err := record.Encode(a.nodes, a.edges, a.l)
	if err != api.OK {
		t.Fatalf("Encode(%+v): %v", a, err)
	}
	return b
}

// P10.3: what Encode returned

func TestDecodeExample(t *testing.T) {
	wantDecoded(t, []byte{0, 0, 0}, arguments{})
}

func TestDecodeWrittenOutBytes(t *testing.T) {
	wantDecoded(t, []byte{2, 2, 4, 2, 2, 2, 0, 2, 2}, arguments{1, 1, []api.Write{dropEdge(1), dropNode(1)}})
	wantDecoded(t, []byte("\x02\x00\x02\x00\x02\x00\x04\x02a\x04bc\x04\x02k\x08\x02x\x02m\x04\x05"),
		arguments{1, 0, []api.Write{addNode(1, api.Node{Labels: []string{"a", "bc"}, Props: []api.Prop{prop("k", text("x")), prop("m", whole(-3))}})}})
	wantDecoded(t, []byte("\x00\x02\x02\x02\x02\x00\x06\x08\x02t\x7f\xff\xff\xff\xff\xff\xff\xff"),
		arguments{0, 1, []api.Write{addEdge(1, edge(3, 4, "t", negZero))}})
}

func TestDecodeNumbers(t *testing.T) {
	for nodes := range api.MaxNodes + 1 {
		for edges := range api.MaxEdges + 1 {
			wantDecoded(t, []byte{byte(2 * nodes), byte(2 * edges), 0}, arguments{nodes, edges, nil})
		}
	}
	numbers := []int{math.MinInt, -256, -33, -25, -1, 25, 33, 64, 256, 257, 1 << 32, math.MaxInt}
	for _, n := range numbers {
		wantErrForm(t, glued([]piece{intPiece(n), intPiece(0), intPiece(0)}))
		wantAsPlain(t, glued([]piece{intPiece(0), intPiece(n), intPiece(0)}))
		wantErrForm(t, glued([]piece{intPiece(n), intPiece(n), intPiece(0)}))
	}
}

func TestDecodeOfSamples(t *testing.T) {
	for _, a := range samples() {
		wantDecoded(t, encoding(t, a), a)
	}
}

// P10.3: what Encode did not return

func TestDecodeOfNothing(t *testing.T) {
	wantErrForm(t, nil)
	wantErrForm(t, []byte{})
	wantErrForm(t, []byte{0})
	wantErrForm(t, []byte{0, 0})
}

func TestDecodeOfEncodingsCutOff(t *testing.T) {
	for _, a := range samples() {
		b := encoding(t, a)
		for n := range b {
			wantErrForm(t, b[:n])
			// The rest of the encoding stands behind it, where nothing is to be read.
			wantErrForm(t, b[:n:n])
			wantAsPlain(t, b[n:])
		}
	}
}

func TestDecodeOfEncodingsWithBytesBehind(t *testing.T) {
	for _, a := range samples() {
		b := encoding(t, a)
		for c := range 256 {
			wantErrForm(t, append(slices.Clone(b), byte(c)))
		}
		wantErrForm(t, append(slices.Clone(b), 0, 0, 0))
		wantErrForm(t, append(slices.Clone(b), b...))
		wantErrForm(t, append(slices.Clone(b), make([]byte, 1000)...))
	}
}

func TestDecodeOfEncodingsWithOneByteChanged(t *testing.T) {
	for _, a := range samples() {
		b := encoding(t, a)
		for i := range b {
			old := b[i]
			for c := range 256 {
				b[i] = byte(c)
				wantAsPlain(t, b)
			}
			b[i] = old
		}
	}
}

func TestDecodeOfEncodingsWithOneByteMoreOrLess(t *testing.T) {
	for _, a := range samples() {
		b := encoding(t, a)
		for i := range b {
			wantAsPlain(t, slices.Delete(slices.Clone(b), i, i+1))
			for c := range 256 {
				wantAsPlain(t, slices.Insert(slices.Clone(b), i, byte(c)))
			}
		}
	}
}

// intPlaces has the places of the pieces that are an integer or a string, which begins with one.
func intPlaces(l []piece) []int {
	var out []int
	for i, p := range l {
		if n, size := binary.Varint(p); size > 0 && bytes.Equal(intPiece(int(n)), p[:size]) && (size == len(p) || int(n) == len(p)-size) {
			out = append(out, i)
		}
	}
	return out
}

// longer has encodings of the integer at the beginning of p in more bytes than it needs.
func longer(p piece) []piece {
	_, size := binary.Varint(p)
	var out []piece
	for more := 1; more <= 11; more++ {
		q := slices.Clone(p[:size])
		q[size-1] |= 0x80
		for range more - 1 {
			q = append(q, 0x80)
		}
		out = append(out, append(append(q, 0), p[size:]...))
	}
	return out
}

// with returns the bytes of the pieces with another one at one place.
func with(l []piece, place int, p piece) []byte {
	l = slices.Clone(l)
	l[place] = p
	return glued(l)
}

func TestDecodeOfIntegersInLongerEncodings(t *testing.T) {
	for _, a := range samples() {
		l := pieces(a.nodes, a.edges, a.l)
		for _, place := range intPlaces(l) {
			for _, p := range longer(l[place]) {
				wantErrForm(t, with(l, place, p))
			}
		}
	}
}

func TestDecodeOfEncodingsWithAnotherInteger(t *testing.T) {
	numbers := []int{math.MinInt, -1 << 32, -57, -3, -2, -1, 1 << 8, 1<<8 + 1, 1 << 16, 1 << 31, 1 << 32, 1<<32 + 1, 1 << 40, 1 << 62, math.MaxInt}
	for n := range 70 {
		numbers = append(numbers, n)
	}
	for _, a := range samples() {
		l := pieces(a.nodes, a.edges, a.l)
		for _, place := range intPlaces(l) {
			_, size := binary.Varint(l[place])
			for _, n := range numbers {
				wantAsPlain(t, with(l, place, append(intPiece(n), l[place][size:]...)))
			}
		}
	}
}

func TestDecodeOfEncodingsWithAPieceMoreOrLess(t *testing.T) {
	for _, a := range samples() {
		l := pieces(a.nodes, a.edges, a.l)
		for i := range l {
			wantAsPlain(t, glued(slices.Delete(slices.Clone(l), i, i+1)))
			for k := range l {
				wantAsPlain(t, glued(slices.Insert(slices.Clone(l), i, l[k])))
				other := slices.Clone(l)
				other[i], other[k] = other[k], other[i]
				wantAsPlain(t, glued(other))
			}
		}
	}
}

// badCounts has numbers that are too great, or too small, for labels and properties. Those of
// elements are more or less than there are.
func badCounts() []int {
	return []int{-1, -2, -3, -57, -256, math.MinInt, 4, 5, 57, 58, 255, 256, 1 << 16, 1 << 31, 1 << 32, 1<<32 + 1, 1 << 62, math.MaxInt}
}

func TestDecodeOfNumbersOfElementsThatAreNotValid(t *testing.T) {
	gone := []piece{{0}, {2}, {2}}
	for _, n := range badCounts() {
		for _, behind := range []int{0, 1, 4, 56, 57, 300} {
			l := []piece{intPiece(24), intPiece(32), intPiece(n)}
			for range behind {
				l = append(l, gone...)
			}
			wantErrForm(t, glued(l))
		}
	}
	// The number is less, or greater, than that of the elements that follow.
	wantDecoded(t, []byte{2, 0, 2, 0, 2, 2}, arguments{1, 0, []api.Write{dropNode(1)}})
	for _, n := range []int{-1, 0, 2, 3} {
		wantErrForm(t, append(glued([]piece{intPiece(1), intPiece(0), intPiece(n)}), 0, 2, 2))
	}
}

func TestDecodeOfNumbersOfLabelsAndPropertiesThatAreNotValid(t *testing.T) {
	head := []byte{2, 0, 2, 0, 2, 0}
	for _, n := range badCounts() {
		for behind := range 6 {
			var labels, props []piece
			for i := range behind {
				name := strPiece(string(rune('a' + i)))
				labels = append(labels, name)
				props = append(props, name, intPiece(api.Int), intPiece(1))
			}
			wantErrForm(t, slices.Concat(head, intPiece(n), glued(labels), intPiece(0)))
			wantErrForm(t, slices.Concat(head, intPiece(0), intPiece(n), glued(props)))
			wantErrForm(t, slices.Concat(head, intPiece(n), intPiece(n), glued(props)))
		}
	}
	for n := range 4 {
		for behind := range 4 {
			var labels []piece
			for i := range behind {
				labels = append(labels, strPiece(string(rune('a'+i))))
			}
			b := slices.Concat(head, intPiece(n), glued(labels), intPiece(0))
			if n == behind {
				wantDecoded(t, b, arguments{1, 0, []api.Write{addNode(1, labelled([]string{"a", "b", "c"}[:n]...))}})
			} else {
				wantErrForm(t, b)
			}
		}
	}
}

func TestDecodeOfFlagsThatAreNone(t *testing.T) {
	flags := []int{-1, -2, 2, 3, 4, 255, 256, 257, 1 << 32, 1<<32 + 1, math.MaxInt, math.MinInt}
	for _, n := range flags {
		f := intPiece(n)
		wantErrForm(t, slices.Concat([]byte{2, 2, 2}, f, []byte{2, 2}))
		wantErrForm(t, slices.Concat([]byte{2, 2, 2}, f, []byte{2, 0, 0, 0}))
		wantErrForm(t, slices.Concat([]byte{2, 2, 2}, f, []byte{2, 0, 2, 2, 2, 't', 0x80, 0, 0, 0, 0, 0, 0, 0}))
		wantErrForm(t, slices.Concat([]byte{2, 2, 2, 0, 2}, f))
		wantErrForm(t, slices.Concat([]byte{2, 2, 2, 2, 2}, f))
		wantErrForm(t, slices.Concat([]byte{2, 2, 2, 0, 2}, f, []byte{0, 0}))
		wantErrForm(t, slices.Concat([]byte{2, 2, 2, 2, 2}, f, []byte{2, 2, 2, 't', 0x80, 0, 0, 0, 0, 0, 0, 0}))
		wantErrForm(t, slices.Concat([]byte{2, 2, 2, 0, 2, 0, 0, 2, 2, 'k', 2}, f))
	}
	for _, n := range []int{0, 1} {
		b := slices.Concat([]byte{2, 2, 2, 0, 2, 0, 0, 2, 2, 'k', 2}, intPiece(n))
		wantDecoded(t, b, arguments{1, 1, []api.Write{addNode(1, holding(prop("k", truth(n == 1))))}})
	}
}

func TestDecodeOfKindsThatAreNone(t *testing.T) {
	for _, k := range []int{api.Null, -1, 5, 6, 255, 256, 1<<32 + 1, math.MaxInt, math.MinInt} {
		for _, behind := range [][]byte{nil, {0}, {2}, {2, 'a'}, {0x80, 0, 0, 0, 0, 0, 0, 0}} {
			wantErrForm(t, slices.Concat([]byte{2, 0, 2, 0, 2, 0, 0, 2, 2, 'k'}, intPiece(k), behind))
		}
	}
}

func TestDecodeOfNumbersThatAreNoKeys(t *testing.T) {
	for _, f := range strangeNaNs() {
		wantErrForm(t, slices.Concat([]byte{2, 0, 2, 0, 2, 0, 0, 2, 2, 'k', 6}, realPiece(f)))
		wantErrForm(t, slices.Concat([]byte{0, 2, 2, 2, 2, 0, 2, 2, 2, 't'}, realPiece(f)))
	}
	wantErrForm(t, slices.Concat([]byte{0, 2, 2, 2, 2, 0, 2, 2, 2, 't'}, realPiece(nan)))
	wantDecoded(t, slices.Concat([]byte{2, 0, 2, 0, 2, 0, 0, 2, 2, 'k', 6}, realPiece(nan)), arguments{1, 0, []api.Write{addNode(1, holding(prop("k", number(nan))))}})
}

func TestDecodeOfLongStrings(t *testing.T) {
	for _, n := range []int{9, 13, 255, 256, 264, 1 << 16, 1 << 20} {
		s := strings.Repeat("a", n)
		for _, l := range [][]api.Write{{addNode(1, labelled(s))}, {addNode(1, keyed(s))}, {addEdge(1, edge(1, 1, s, 1))}, {addNode(1, holding(prop("a", text(s))))}} {
			wantAsPlain(t, plainEncode(1, 1, l))
		}
	}
	for _, n := range []int{-1, math.MinInt, 2, 1 << 31, 1 << 32, math.MaxInt} {
		wantErrForm(t, slices.Concat([]byte{2, 0, 2, 0, 2, 0, 2}, intPiece(n), []byte("a\x00")))
	}
}

// rejected has arguments that Encode rejects, and whose encoding is not also that of others.
func rejected() []arguments {
	l := []arguments{{-1, 0, nil}, {25, 0, nil}, {0, -1, nil}, {0, 33, nil}, {math.MaxInt, math.MaxInt, nil}, {math.MinInt, math.MinInt, nil}}
	one := func(w api.Write) {
		l = append(l, arguments{3, 2, []api.Write{w}}, arguments{3, 2, []api.Write{dropNode(1), w, dropEdge(1)}})
	}
	for _, id := range []int{math.MinInt, -1, 0, 4, 5, math.MaxInt} {
		one(addNode(id, api.Node{}))
		one(dropNode(id))
	}
	for _, id := range []int{math.MinInt, -1, 0, 3, 4, math.MaxInt} {
		one(addEdge(id, edge(1, 1, "t", 1)))
		one(dropEdge(id))
	}
	for _, n := range differentNodes() {
		if !record.IsNode(n) && !slices.ContainsFunc(n.Props, func(p api.Prop) bool { return hidden(p.V) }) {
			one(addNode(2, n))
		}
	}
	for _, s := range badNames() {
		one(addNode(2, labelled(s)))
		one(addNode(2, keyed(s)))
		one(addEdge(2, edge(1, 1, s, 1)))
	}
	for _, v := range badVals() {
		if !hidden(v) {
			one(addNode(2, withVal("a", v)))
			one(addNode(2, withVal("c", v)))
		}
	}
	for _, e := range differentEdges() {
		if !record.IsEdge(e) {
			one(addEdge(2, e))
		}
	}
	for _, w := range badWeights() {
		one(addEdge(2, edge(1, 1, "t", w)))
	}
	for _, a := range kindsOfElements() {
		for _, b := range kindsOfElements() {
			if a.Edge == b.Edge {
				l = append(l, arguments{1, 1, []api.Write{a, b}}, arguments{2, 2, []api.Write{a, dropNode(2), dropEdge(2), b}})
			}
		}
	}
	return append(l, arguments{24, 32, append(everyElement(), dropNode(1))}, arguments{24, 32, append(everyElement(), dropEdge(32))})
}

// hidden reports whether a value is not valid, and has the encoding of one that is.
func hidden(v api.Val) bool {
	only := api.Val{Kind: v.Kind}
	switch v.Kind {
	case api.Bool:
		only.B = v.B
	case api.Int:
		only.N = v.N
	case api.Real:
		only.F = v.F
	case api.Text:
		only.T = v.T
	}
	return plainVal(only)
}

func TestDecodeOfEncodingsOfRejectedArguments(t *testing.T) {
	for _, a := range rejected() {
		wantErrArg(t, a.nodes, a.edges, a.l...)
		wantErrForm(t, plainEncode(a.nodes, a.edges, a.l))
	}
}

func TestDecodeOfGoneElementsWithOneBeside(t *testing.T) {
	for _, w := range kindsOfElements() {
		if w.Gone {
			continue
		}
		l := pieces(1, 1, []api.Write{w})
		wantDecoded(t, glued(l), arguments{1, 1, []api.Write{w}})
		wantErrForm(t, with(l, 5, flagPiece(true)))
	}
}

func TestDecodeOfAllShortBytes(t *testing.T) {
	for a := range 256 {
		wantAsPlain(t, []byte{byte(a)})
		for b := range 256 {
			wantAsPlain(t, []byte{byte(a), byte(b)})
			for _, c := range []byte{0, 1, 2, 4, 0x80} {
				wantAsPlain(t, []byte{byte(a), byte(b), c})
			}
		}
	}
}

func TestDecodeOfAllBytesOfFewKinds(t *testing.T) {
	alphabet := []byte{0, 1, 2, 4, 'a', 0x80}
	var extend func(b []byte)
	extend = func(b []byte) {
		wantAsPlain(t, b)
		if len(b) == 12 {
			return
		}
		for _, c := range alphabet {
			extend(append(b, c))
		}
	}
	// Behind this beginning stands what is to be said of one node, or of one edge.
	for _, head := range []string{"\x02\x02\x02\x00\x02\x00", "\x02\x02\x02\x02\x02\x00", "\x02\x02\x02\x00\x02\x00\x00\x02"} {
		extend([]byte(head))
	}
}

// P10.4: Decode inverts Encode

func TestDecodeOfEverythingThatIsNotRejected(t *testing.T) {
	var l []api.Write
	for _, v := range goodVals() {
		l = append(l, addNode(24, withVal("b", v)))
	}
	for _, s := range goodNames() {
		l = append(l, addNode(24, labelled(s)), addNode(24, keyed(s)), addEdge(24, edge(1, 2, s, 1)))
	}
	for _, w := range goodWeights() {
		l = append(l, addEdge(24, edge(24, 1, "t", w)))
	}
	for _, n := range differentNodes() {
		if record.IsNode(n) {
			l = append(l, addNode(24, n))
		}
	}
	for _, w := range append(l, kindsOfElements()...) {
		a := arguments{24, 24, []api.Write{w}}
		wantDecoded(t, encoding(t, a), a)
		a.l = append(a.l, dropNode(2), dropEdge(2))
		wantDecoded(t, encoding(t, a), a)
	}
}

func TestDecodeOfEveryElementThereCanBe(t *testing.T) {
	a := arguments{24, 32, everyElement()}
	b := encoding(t, a)
	wantDecoded(t, b, a)
	for n := 0; n < len(b); n += 7 {
		wantErrForm(t, b[:n])
	}
}

func TestDecodeEveryBitOfFloats(t *testing.T) {
	for e := range uint64(0x800) {
		for _, mantissa := range []uint64{0, 1, 1 << 51, 1<<52 - 1} {
			f := from(e<<52 | mantissa)
			if f != f {
				continue
			}
			a := arguments{1, 1, []api.Write{addEdge(1, edge(1, 1, "t", f)), addNode(1, holding(prop("a", number(f)), prop("b", number(-f))))}}
			wantDecoded(t, encoding(t, a), a)
		}
	}
}

func TestDecodeOfScripts(t *testing.T) {
	m := newMaker(6)
	for range 4000 {
		a := m.arguments()
		wantDecoded(t, encoding(t, a), a)
	}
}

func TestDecodeOfScriptsWithBytesChanged(t *testing.T) {
	m := newMaker(7)
	for range 20000 {
		a := m.arguments()
		b := encoding(t, a)
		for range 1 + m.r.IntN(2) {
			b[m.r.IntN(len(b))] = pick(m, []byte{0, 1, 2, 3, 4, 6, 8, 'a', 'b', 'z', 0x7f, 0x80, 0xff})
		}
		wantAsPlain(t, b)
	}
}

func TestEncodeOfWhatDecodeReturned(t *testing.T) {
	m := newMaker(8)
	for range 2000 {
		b := encoding(t, m.arguments())
		nodes, edges, l, _ := record.Decode(b)
		wantEncoded(t, arguments{nodes, edges, l}, b)
	}
}

func TestDifferentArgumentsHaveDifferentEncodings(t *testing.T) {
	m := newMaker(9)
	seen := map[string]arguments{}
	for range 4000 {
		a := m.arguments()
		b := string(encoding(t, a))
		if other, is := seen[b]; is && !identical(a, other) {
			t.Fatalf("%+v and %+v have one encoding", a, other)
		}
		seen[b] = a
	}
}

// What holds everywhere

func TestDecodeNeitherModifiesNorRetainsItsArgument(t *testing.T) {
	m := newMaker(10)
	for range 300 {
		a := m.arguments()
		room := append(encoding(t, a), "unused"...)
		b := room[:len(room)-6]
		before := slices.Clone(room)
		nodes, edges, l, _ := record.Decode(b)
		record.Decode(b[:len(b)-1])
		if !bytes.Equal(room, before) {
			t.Fatalf("% x has become % x", before, room)
		}
		for i := range room {
			room[i] = 'q'
		}
		if got := (arguments{nodes, edges, l}); !identical(got, a) {
			t.Fatalf("%+v has become %+v", a, got)
		}
	}
}

// overwrite changes all that a result of Decode has, its unused capacity included.
func overwrite(l []api.Write) {
	l = l[:cap(l)]
	for i := range l {
		for k, labels := 0, l[i].N.Labels; k < cap(labels); k++ {
			labels[:cap(labels)][k] = "spoilt"
		}
		for k, props := 0, l[i].N.Props; k < cap(props); k++ {
			props[:cap(props)][k] = prop("spoilt", whole(-99))
		}
		l[i] = api.Write{Edge: true, ID: -99, E: edge(-99, -99, "spoilt", nan)}
	}
}

func TestDecodeResultsAreNew(t *testing.T) {
	m := newMaker(11)
	for range 300 {
		a := m.arguments()
		b := encoding(t, a)
		_, _, first, _ := record.Decode(b)
		_, _, second, _ := record.Decode(b)
		overwrite(first)
		if got := (arguments{a.nodes, a.edges, second}); !identical(got, a) {
			t.Fatalf("%+v has become %+v", a, got)
		}
		wantDecoded(t, b, a)
	}
}

func TestDecodeResultsShareNothingWithinThem(t *testing.T) {
	m := newMaker(12)
	for range 100 {
		a := m.arguments()
		b := encoding(t, a)
		for i := range a.l {
			_, _, l, _ := record.Decode(b)
			labels, props := l[i].N.Labels, l[i].N.Props
			for k := range labels[:cap(labels)] {
				labels[:cap(labels)][k] = "spoilt"
			}
			for k := range props[:cap(props)] {
				props[:cap(props)][k] = prop("spoilt", whole(-99))
			}
			l[i].N = a.l[i].N
			if got := (arguments{a.nodes, a.edges, l}); !identical(got, a) {
				t.Fatalf("with element %d overwritten, %+v has become %+v", i, a, got)
			}
		}
	}
}

func TestDecodeEndsWhateverIsClaimed(t *testing.T) {
	huge := intPiece(math.MaxInt)
	wantErrForm(t, slices.Concat([]byte{48, 64}, huge))
	wantErrForm(t, slices.Concat([]byte{48, 64, 2, 0, 2, 0}, huge))
	wantErrForm(t, slices.Concat([]byte{48, 64, 2, 0, 2, 0, 0}, huge))
	wantErrForm(t, slices.Concat([]byte{48, 64, 2, 0, 2, 0, 2}, huge))
	wantErrForm(t, slices.Concat([]byte{48, 64, 2, 2, 2, 0, 2, 2}, huge))
	for _, c := range []byte{0, 1, 2, 'a', 0x7f, 0x80, 0xff} {
		wantErrForm(t, bytes.Repeat([]byte{c}, 1<<20))
	}
}

// FuzzDecode holds Decode against what the tests themselves find in the bytes.
func FuzzDecode(f *testing.F) {
	for _, a := range samples() {
		f.Add(plainEncode(a.nodes, a.edges, a.l))
	}
	for _, a := range rejected()[:200] {
		f.Add(plainEncode(a.nodes, a.edges, a.l))
	}
	f.Fuzz(func(t *testing.T, b []byte) {
		wantAsPlain(t, b)
		if nodes, edges, l, err := record.Decode(b); err == api.OK {
			wantEncoded(t, arguments{nodes, edges, l}, b)
		}
	})
}
