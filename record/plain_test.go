package record_test

import (
	"encoding/binary"
	"math"
	"regexp"
	"slices"

	"ligature/api"
)

// What follows says again, in another way and without packages leb, real and value, what the
// document says of encodings. The tests hold the package against it.

// A piece is the encoding of one number or string.
type piece []byte

func intPiece(n int) piece { return binary.AppendVarint(nil, int64(n)) }

func strPiece(s string) piece { return append(intPiece(len(s)), s...) }

// realPiece keeps the bits of NaNs that are not the canonical one.
func realPiece(f float64) piece {
	if math.Signbit(f) {
		return binary.BigEndian.AppendUint64(nil, ^bits(f))
	}
	return binary.BigEndian.AppendUint64(nil, bits(f)+1<<63)
}

func flagPiece(is bool) piece {
	if is {
		return piece{2}
	}
	return piece{0}
}

// pieces has the pieces of an encoding, also of one whose arguments are not valid.
func pieces(nodes, edges int, l []api.Write) []piece {
	out := []piece{intPiece(nodes), intPiece(edges), intPiece(len(l))}
	for _, w := range l {
		out = append(out, flagPiece(w.Edge), intPiece(w.ID), flagPiece(w.Gone))
		if w.Gone {
			continue
		}
		if w.Edge {
			out = append(out, intPiece(w.E.From), intPiece(w.E.To), strPiece(w.E.Type), realPiece(w.E.W))
			continue
		}
		out = append(out, nodePieces(w.N)...)
	}
	return out
}

func nodePieces(n api.Node) []piece {
	out := []piece{intPiece(len(n.Labels))}
	for _, s := range n.Labels {
		out = append(out, strPiece(s))
	}
	out = append(out, intPiece(len(n.Props)))
	for _, p := range n.Props {
		out = append(out, strPiece(p.Key), intPiece(p.V.Kind))
		switch p.V.Kind {
		case 1:
			out = append(out, flagPiece(p.V.B))
		case 2:
			out = append(out, intPiece(p.V.N))
		case 3:
			out = append(out, realPiece(p.V.F))
		case 4:
			out = append(out, strPiece(p.V.T))
		}
	}
	return out
}

func glued(l []piece) []byte { return slices.Concat(l...) }

func plainEncode(nodes, edges int, l []api.Write) []byte { return glued(pieces(nodes, edges, l)) }

var (
	namePattern = regexp.MustCompile(`^[a-z]{1,8}$`)
	textPattern = regexp.MustCompile(`^[ -~]{0,12}$`)
)

func plainName(s string) bool {
	// The last character is looked at because $ may stand before a line's end.
	return namePattern.MatchString(s) && s[len(s)-1] != '\n'
}

func plainAscending(l []string) bool {
	return slices.IsSorted(l) && len(slices.Compact(slices.Clone(l))) == len(l) && !slices.ContainsFunc(l, func(s string) bool { return !plainName(s) })
}

func plainNode(n api.Node) bool {
	var keys []string
	for _, p := range n.Props {
		keys = append(keys, p.Key)
		if !plainVal(p.V) {
			return false
		}
	}
	return len(n.Labels) <= 3 && len(keys) <= 3 && plainAscending(n.Labels) && plainAscending(keys)
}

// plainVal reports whether v is valid and not Null, by making it again from the one field.
func plainVal(v api.Val) bool {
	switch v.Kind {
	case 1:
		return identicalVal(v, truth(v.B))
	case 2:
		return identicalVal(v, whole(v.N))
	case 3:
		return identicalVal(v, number(v.F)) && (v.F == v.F || bits(v.F) == canonical)
	case 4:
		return identicalVal(v, text(v.T)) && textPattern.MatchString(v.T)
	}
	return false
}

func plainEdge(e api.Edge) bool {
	return e.From > 0 && e.From < 25 && e.To > 0 && e.To < 25 && plainName(e.Type) && (e.W == 0 || e.W > 0)
}

func plainWrite(w api.Write) bool {
	noNode := len(w.N.Labels) == 0 && len(w.N.Props) == 0
	noEdge := w.E.From == 0 && w.E.To == 0 && w.E.Type == "" && bits(w.E.W) == 0
	if w.Gone {
		return noNode && noEdge
	}
	if w.Edge {
		return noNode && plainEdge(w.E)
	}
	return noEdge && plainNode(w.N)
}

// plainArguments reports whether Encode has to take the arguments.
func plainArguments(nodes, edges int, l []api.Write) bool {
	if nodes < 0 || nodes > 24 || edges < 0 || edges > 32 {
		return false
	}
	for i, w := range l {
		most := nodes
		if w.Edge {
			most = edges
		}
		if w.ID < 1 || w.ID > most || !plainWrite(w) {
			return false
		}
		for _, other := range l[:i] {
			if other.Edge == w.Edge && other.ID == w.ID {
				return false
			}
		}
	}
	return true
}

// A taker takes pieces from bytes, and panics where there is none of the kind.
type taker struct{ rest []byte }

func (t *taker) need(is bool) {
	if !is {
		panic("no piece")
	}
}

func (t *taker) int() int {
	n, size := binary.Varint(t.rest)
	t.need(size > 0 && len(intPiece(int(n))) == size)
	t.rest = t.rest[size:]
	return int(n)
}

func (t *taker) str() string {
	n := t.int()
	t.need(n >= 0 && n <= len(t.rest))
	s := string(t.rest[:n])
	t.rest = t.rest[n:]
	return s
}

func (t *taker) real() float64 {
	t.need(len(t.rest) >= 8)
	k := binary.BigEndian.Uint64(t.rest)
	t.rest = t.rest[8:]
	f := from(^k)
	if k>>63 == 1 {
		f = from(k - 1<<63)
	}
	t.need(f == f || bits(f) == canonical)
	return f
}

func (t *taker) flag() bool {
	n := t.int()
	t.need(n == 0 || n == 1)
	return n == 1
}

func (t *taker) node() api.Node {
	var n api.Node
	labels := t.int()
	t.need(labels >= 0 && labels <= 3)
	for range labels {
		n.Labels = append(n.Labels, t.str())
	}
	props := t.int()
	t.need(props >= 0 && props <= 3)
	for range props {
		p := api.Prop{Key: t.str()}
		p.V.Kind = t.int()
		switch p.V.Kind {
		case 1:
			p.V.B = t.flag()
		case 2:
			p.V.N = t.int()
		case 3:
			p.V.F = t.real()
		case 4:
			p.V.T = t.str()
		}
		n.Props = append(n.Props, p)
	}
	return n
}

// arguments are those of Encode.
type arguments struct {
	nodes, edges int
	l            []api.Write
}

// plainDecode returns the arguments that have this encoding and true, or nothing and false.
func plainDecode(b []byte) (a arguments, is bool) {
	defer func() {
		if recover() != nil {
			a, is = arguments{}, false
		}
	}()
	t := &taker{rest: b}
	a.nodes, a.edges = t.int(), t.int()
	n := t.int()
	t.need(n >= 0 && n <= 56)
	for range n {
		w := api.Write{Edge: t.flag(), ID: t.int(), Gone: t.flag()}
		if !w.Gone && w.Edge {
			w.E.From = t.int()
			w.E.To = t.int()
			w.E.Type = t.str()
			w.E.W = t.real()
		}
		if !w.Gone && !w.Edge {
			w.N = t.node()
		}
		a.l = append(a.l, w)
	}
	t.need(len(t.rest) == 0 && plainArguments(a.nodes, a.edges, a.l))
	return a, true
}

// identicalVal compares all fields, floats by their bits.
func identicalVal(a, b api.Val) bool {
	x, y := bits(a.F), bits(b.F)
	a.F, b.F = 0, 0
	return a == b && x == y
}

func identicalNode(a, b api.Node) bool {
	return slices.Equal(a.Labels, b.Labels) && slices.EqualFunc(a.Props, b.Props, func(p, q api.Prop) bool {
		return p.Key == q.Key && identicalVal(p.V, q.V)
	})
}

func identicalEdge(a, b api.Edge) bool {
	x, y := bits(a.W), bits(b.W)
	a.W, b.W = 0, 0
	return a == b && x == y
}

func identicalWrite(a, b api.Write) bool {
	return a.Edge == b.Edge && a.ID == b.ID && a.Gone == b.Gone && identicalNode(a.N, b.N) && identicalEdge(a.E, b.E)
}

func identical(a, b arguments) bool {
	return a.nodes == b.nodes && a.edges == b.edges && slices.EqualFunc(a.l, b.l, identicalWrite)
}
