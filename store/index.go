package store

import (
	"slices"

	"ligature/api"
	"ligature/chain"
	"ligature/record"
	"ligature/tree"
	"ligature/value"
)

// contents finds nodes by their labels and by the values of their properties.
type contents struct {
	labels *tree.Tree            // the labels are Texts
	values map[string]*tree.Tree // for each key that some node has
}

func newContents() *contents {
	return &contents{labels: tree.New(), values: map[string]*tree.Tree{}}
}

// text returns a label as a value.
func text(label string) api.Val { return api.Val{Kind: api.Text, T: label} }

func (x *contents) add(id int, n api.Node) {
	for _, label := range n.Labels {
		x.labels.Add(api.Entry{V: text(label), ID: id})
	}
	for _, p := range n.Props {
		if x.values[p.Key] == nil {
			x.values[p.Key] = tree.New()
		}
		x.values[p.Key].Add(api.Entry{V: p.V, ID: id})
	}
}

func (x *contents) cut(id int, n api.Node, left []api.Node) {
	for _, label := range n.Labels {
		if !slices.ContainsFunc(left, func(m api.Node) bool { return record.Has(m, label) }) {
			x.labels.Del(api.Entry{V: text(label), ID: id})
		}
	}
	for _, p := range n.Props {
		if !slices.ContainsFunc(left, func(m api.Node) bool { return valued(m, p.Key, p.V) }) {
			x.cutValue(p.Key, api.Entry{V: p.V, ID: id})
		}
	}
}

// cutValue takes out an entry of a key, and the key with its last one.
func (x *contents) cutValue(key string, y api.Entry) {
	x.values[key].Del(y)
	if x.values[key].Len() == 0 {
		delete(x.values, key)
	}
}

func (x *contents) size() int {
	n := x.labels.Len()
	for _, t := range x.values {
		n += t.Len()
	}
	return n
}

// labelled returns the nodes that have this label, which is a name, in some version.
func (x *contents) labelled(label string) []api.Entry {
	return x.labels.Range(text(label), text(label))
}

// between returns the values of the key from lo to hi that nodes have in some version.
func (x *contents) between(key string, lo, hi api.Val) []api.Entry {
	return x.values[key].Range(lo, hi)
}

// valued reports whether n has this value of the key.
func valued(n api.Node, key string, v api.Val) bool {
	w, ok := record.Get(n, key)
	return ok && value.Same(v, w)
}

// ends finds edges by their nodes. All versions of an edge that are not gone have the same two.
type ends struct {
	out, in *chain.Lists // by the ID of a node
}

func newEnds() *ends { return &ends{out: chain.New(), in: chain.New()} }

func (x *ends) add(id int, e api.Edge) {
	x.out.Add(e.From, id)
	x.in.Add(e.To, id)
}

func (x *ends) cut(id int, e api.Edge, left []api.Edge) {
	if len(left) == 0 {
		x.out.Cut(e.From, id)
		x.in.Cut(e.To, id)
	}
}

func (x *ends) size() int { return x.out.Len() + x.in.Len() }
