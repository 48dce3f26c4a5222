package store

import (
	"ligature/api"
	"ligature/cell"
	"ligature/clock"
)

// index finds elements by what is in those of their versions that are not gone.
type index[T any] interface {
	// add enters what element id has by a version with the content v.
	add(id int, v T)
	// cut takes out what element id had by a version with the content v, which has been removed. What
	// it has by one of those that are left stays.
	cut(id int, v T, left []T)
	// size returns the number of entries.
	size() int
}

// element is a node or an edge: an ID that has been assigned.
type element[T any] struct {
	cell *cell.Cell[T]

	// The transaction that wrote it last, which may have ended. No other live one has written it, as
	// that would clash.
	writer int

	// What the commits have made of it. It is kept because Cells are read by live transactions only,
	// and none of these may have begun late enough to read this.
	latest  T
	present bool
}

// table is all nodes or all edges. The contents in it are never changed, so that versions may share
// them; they are copied on their way in and out of the Store.
type table[T any] struct {
	clock *clock.Clock
	all   []*element[T] // ID id at place id-1
	index index[T]
}

// count returns how many IDs have been assigned.
func (x *table[T]) count() int { return len(x.all) }

// grow assigns IDs until there are at least n.
func (x *table[T]) grow(n int) {
	for x.count() < n {
		x.all = append(x.all, &element[T]{cell: cell.New[T]()})
	}
}

// has reports whether the ID has been assigned.
func (x *table[T]) has(id int) bool { return 1 <= id && id <= x.count() }

// ids returns the assigned IDs for which f is true, in ascending order.
func (x *table[T]) ids(f func(id int, e *element[T]) bool) []int {
	var l []int
	for i, e := range x.all {
		if f(i+1, e) {
			l = append(l, i+1)
		}
	}
	return l
}

// read returns what t reads, and false if it reads no such element.
func (x *table[T]) read(t, id int) (T, bool) {
	if !x.has(id) {
		var none T
		return none, false
	}
	return x.all[id-1].cell.Read(x.clock, t)
}

// reads reports whether t reads the element.
func (x *table[T]) reads(t, id int) bool {
	_, ok := x.read(t, id)
	return ok
}

// readable returns the IDs of all elements that t reads, in ascending order.
func (x *table[T]) readable(t int) []int {
	return x.ids(func(id int, _ *element[T]) bool { return x.reads(t, id) })
}

// written returns the IDs of all elements that t, which is live, has written, in ascending order.
func (x *table[T]) written(t int) []int {
	return x.ids(func(_ int, e *element[T]) bool { return e.writer == t })
}

// current returns what the commits have made of the element, and false if there is none.
func (x *table[T]) current(id int) (T, bool) {
	e := x.all[id-1]
	return e.latest, e.present
}

// existing returns the IDs of all elements that there are by the commits, in ascending order.
func (x *table[T]) existing() []int {
	return x.ids(func(_ int, e *element[T]) bool { return e.present })
}

// versions returns the contents of those versions of the element that are not gone, in order.
func (x *table[T]) versions(id int) []T {
	if !x.has(id) {
		return nil
	}
	var l []T
	x.all[id-1].cell.Each(func(v T) { l = append(l, v) })
	return l
}

// clashes reports whether a write of the element, whose ID has been assigned, would be refused to t.
func (x *table[T]) clashes(t, id int) bool {
	return x.all[id-1].cell.Check(x.clock, t) != api.OK
}

// write makes v, or a removal, the version of t of the element, whose ID has been assigned.
func (x *table[T]) write(t, id int, v T, gone bool) api.Errno {
	e := x.all[id-1]
	var old T
	replaced := false
	if e.writer == t {
		// What t has itself made of it is replaced, if that was not a removal.
		old, replaced = e.cell.Read(x.clock, t)
	}
	if err := e.cell.Write(x.clock, t, v, gone); err != api.OK {
		return err
	}
	e.writer = t
	if replaced {
		x.index.cut(id, old, x.versions(id))
	}
	if !gone {
		x.index.add(id, v)
	}
	return api.OK
}

// add writes v as a new element, and returns its ID.
func (x *table[T]) add(t int, v T) int {
	x.grow(x.count() + 1)
	id := x.count()
	x.write(t, id, v, false)
	return id
}

// keep makes what t, which is about to commit, has written the latest there is.
func (x *table[T]) keep(t int) {
	for _, id := range x.written(t) {
		e := x.all[id-1]
		e.latest, e.present = e.cell.Read(x.clock, t)
	}
}

// undo removes the versions of t, which is about to be aborted.
func (x *table[T]) undo(t int) {
	for _, id := range x.written(t) {
		e := x.all[id-1]
		old, ok := e.cell.Read(x.clock, t)
		e.cell.Undo(t)
		if ok {
			x.index.cut(id, old, x.versions(id))
		}
	}
}

// sweep removes an obsolete version, and returns false if there is none.
func (x *table[T]) sweep() bool {
	for i, e := range x.all {
		if !e.cell.Spare(x.clock) {
			continue
		}
		id := i + 1
		old := x.versions(id)
		e.cell.Sweep(x.clock)
		// The version that is removed is always the first one, as each one that is obsolete makes the
		// first one so. If that is a removal, the first content is still there, and nothing is cut.
		if len(old) > 0 {
			x.index.cut(id, old[0], x.versions(id))
		}
		return true
	}
	return false
}

// slots returns the number of versions and of the entries by which they are found.
func (x *table[T]) slots() int {
	n := x.index.size()
	for _, e := range x.all {
		n += e.cell.Len()
	}
	return n
}
