package pmap

import "holt/api"

// The sides of a node: what is less, and what is greater.
const (
	left  = 0
	right = 1
)

// draft is a new version whose new nodes don't lie in the arena yet: it is known how many they are ahead of the first one's being laid there, and nothing is to be undone if there isn't room.
type draft[K, V any] struct {
	m *Map[K, V]
	// gone are the old version's nodes that were opened, each once: none is opened that the new version could share.
	gone []api.Handle
	// made are the fresh nodes that were laid into the arena.
	made []api.Handle
}

// fresh is a node of the new version that the old one hasn't.
type fresh[K, V any] struct {
	key   K
	val   V
	sides [2]branch[K, V]
	high  int
}

// branch is what is on a node's side: a fresh node, if there is one; else the old version's node with that handle, or none.
type branch[K, V any] struct {
	fresh *fresh[K, V]
	stays api.Handle
}

// high is how high a branch is; 0, where there is no node.
func (d *draft[K, V]) high(b branch[K, V]) int {
	if b.fresh != nil {
		return b.fresh.high
	}
	n, _ := d.m.Load(b.stays)
	return n.High
}

// open is a branch's node, to be changed: it counts again only as close tells it. Nil, where there is none.
func (d *draft[K, V]) open(b branch[K, V]) *fresh[K, V] {
	if b.fresh != nil {
		return b.fresh
	}
	n, ok := d.m.Load(b.stays)
	if !ok {
		return nil
	}
	d.gone = append(d.gone, b.stays)
	f := &fresh[K, V]{key: n.Key, val: n.Val}
	f.sides[left].stays, f.sides[right].stays = n.Left, n.Right
	return f
}

// close is a node as a branch, with its height told again.
func (d *draft[K, V]) close(f *fresh[K, V]) branch[K, V] {
	f.high = 1 + max(d.high(f.sides[left]), d.high(f.sides[right]))
	return branch[K, V]{fresh: f}
}

// put is a branch with a key.
func (d *draft[K, V]) put(b branch[K, V], k K, v V) branch[K, V] {
	f := d.open(b)
	if f == nil {
		return d.close(&fresh[K, V]{key: k, val: v})
	}
	c := d.m.cmp(k, f.key)
	if c == 0 {
		f.key, f.val = k, v
		return d.close(f)
	}
	s := side(c)
	f.sides[s] = d.put(f.sides[s], k, v)
	return d.balance(f)
}

// del is a branch without a key, and whether it had it.
func (d *draft[K, V]) del(b branch[K, V], k K) (branch[K, V], bool) {
	f := d.open(b)
	if f == nil {
		return b, false
	}
	c := d.m.cmp(k, f.key)
	if c == 0 {
		return d.join(f), true
	}
	s := side(c)
	below, ok := d.del(f.sides[s], k)
	if !ok {
		return b, false
	}
	f.sides[s] = below
	return d.balance(f), true
}

// side is where a key is looked for that was held against a node's.
func side(c int) int {
	if c < 0 {
		return left
	}
	return right
}

// join is both sides of a node as one branch, without it.
func (d *draft[K, V]) join(f *fresh[K, V]) branch[K, V] {
	// What is taken out of the higher side leaves it no lower than the other one by more than one.
	s := right
	if d.high(f.sides[left]) > d.high(f.sides[right]) {
		s = left
	}
	other := f.sides[1-s]
	if d.high(other) == 0 {
		return f.sides[s]
	}
	top, rest := d.take(f.sides[s], 1-s)
	top.sides[s], top.sides[1-s] = rest, other
	return d.close(top)
}

// take is the outermost node on one side of a branch that has one, and the branch without it.
func (d *draft[K, V]) take(b branch[K, V], s int) (*fresh[K, V], branch[K, V]) {
	f := d.open(b)
	if d.high(f.sides[s]) == 0 {
		return f, f.sides[1-s]
	}
	last, rest := d.take(f.sides[s], s)
	f.sides[s] = rest
	return last, d.balance(f)
}

// balance is a node whose sides' heights differ by two at most, as a branch where they differ by one at most.
func (d *draft[K, V]) balance(f *fresh[K, V]) branch[K, V] {
	for s := range f.sides {
		if d.high(f.sides[s]) > d.high(f.sides[1-s])+1 {
			return d.turn(f, s)
		}
	}
	return d.close(f)
}

// turn is a branch of a node that is too high on one side.
func (d *draft[K, V]) turn(f *fresh[K, V], s int) branch[K, V] {
	below := d.open(f.sides[s])
	// What is in the middle stays as high when the node below is lifted: where it is the higher part, it is lifted first.
	if d.high(below.sides[1-s]) > d.high(below.sides[s]) {
		below = d.lift(below, 1-s)
	}
	f.sides[s] = d.close(below)
	return d.close(d.lift(f, s))
}

// lift is the node on one side of another one, that is below it now, still to be closed.
func (d *draft[K, V]) lift(f *fresh[K, V], s int) *fresh[K, V] {
	top := d.open(f.sides[s])
	f.sides[s] = top.sides[1-s]
	top.sides[1-s] = d.close(f)
	return top
}

// lay is the edit whose version is a branch; false, and nothing is laid, if there isn't room.
func (d *draft[K, V]) lay(b branch[K, V]) (Edit, bool) {
	if b.count() > d.m.Room() {
		return Edit{}, false
	}
	root := d.settle(b)
	return Edit{Root: root, Made: d.made, Gone: d.gone}, true
}

// count is how many fresh nodes a branch has.
func (b branch[K, V]) count() int {
	if b.fresh == nil {
		return 0
	}
	return 1 + b.fresh.sides[left].count() + b.fresh.sides[right].count()
}

// settle lays a branch's fresh nodes into the arena, those below first, as a node has their handles, and is its own handle.
func (d *draft[K, V]) settle(b branch[K, V]) api.Handle {
	f := b.fresh
	if f == nil {
		return b.stays
	}
	n := Node[K, V]{Key: f.key, Val: f.val, High: f.high}
	n.Left, n.Right = d.settle(f.sides[left]), d.settle(f.sides[right])
	h, _ := d.m.nodes.Put(n)
	d.made = append(d.made, h)
	return h
}
