package view

import (
	"slices"

	"holt/api"
	"holt/pmap"
)

// row is edits of one map, one behind the other, told as one.
type row[K, V any] struct {
	m *pmap.Map[K, V]
	// root is the last one's version.
	root api.Handle
	// made are that version's nodes that the first one's hasn't, in the order in which they were made; gone are the first one's that it hasn't.
	made, gone []api.Handle
}

// move does a change in both maps; false, and nothing is done, if there isn't room.
func move(kids *row[api.Kid, bool], spots *row[int, api.Spot], c api.Change) (done bool) {
	defer func() {
		if !done {
			kids.undo()
			spots.undo()
		}
	}()
	was, is := kid(c.Node, c.Old), kid(c.Node, c.New)
	if !c.New.In {
		return spots.del(c.Node) && kids.del(was)
	}
	// The old kid goes first: the version is no higher then, and the new one needs no more room.
	return spots.put(c.Node, c.New) && (!c.Old.In || kids.del(was)) && kids.put(is, true)
}

// kid is a node at a spot.
func kid(n int, at api.Spot) api.Kid { return api.Kid{To: at.To, Name: at.Name, Node: n} }

// put is a row with a key put in; false, if there isn't room.
func (r *row[K, V]) put(k K, v V) bool { return r.add(r.m.Put(r.root, k, v)) }

// del is a row with a key taken out; false, if there isn't room.
func (r *row[K, V]) del(k K) bool { return r.add(r.m.Del(r.root, k)) }

// add is a row with an edit behind it, if that was done.
func (r *row[K, V]) add(e pmap.Edit, ok bool) bool {
	if !ok {
		return false
	}
	for _, h := range e.Gone {
		r.drop(h)
	}
	r.root, r.made = e.Root, append(r.made, e.Made...)
	return true
}

// drop is a row without a node. One that was made in the same row only the versions on the way had, which nobody has in hand.
func (r *row[K, V]) drop(h api.Handle) {
	i := slices.Index(r.made, h)
	if i < 0 {
		r.gone = append(r.gone, h)
		return
	}
	r.made = slices.Delete(r.made, i, i+1)
	r.m.Free(h)
}

// undo frees what was made; the last one first, so that slots are used again in the order in which they would have been.
func (r *row[K, V]) undo() {
	slices.Reverse(r.made)
	free(r.m, r.made)
}

// free frees nodes of a map, and tells how many lay there.
func free[K, V any](m *pmap.Map[K, V], l []api.Handle) int {
	lay := 0
	for _, h := range l {
		if m.Free(h) {
			lay++
		}
	}
	return lay
}
