package ranks_test

import (
	"math"
	"slices"
	"testing"

	"spinney/api"
	"spinney/ranks"
)

// edges are ids and keys at the ends of int and around 0.
var edges = []int{math.MinInt, math.MinInt + 1, math.MinInt32, -2, -1, 0, 1, 2, math.MaxInt32, 1 << 32, math.MaxInt - 1, math.MaxInt}

// plain is a queue that is gone through whenever it is asked.
type plain []api.Item

// place is where id lies, -1 if it doesn't.
func (p plain) place(id int) int {
	return slices.IndexFunc(p, func(it api.Item) bool { return it.Id == id })
}

// first is the place of the one that is to be popped, -1 of none.
func (p plain) first() int {
	best := -1
	for i, it := range p {
		if best < 0 || it.Key > p[best].Key || it.Key == p[best].Key && it.Id < p[best].Id {
			best = i
		}
	}
	return best
}

// without is p without the one at the place.
func (p plain) without(place int) plain {
	return slices.Delete(slices.Clone(p), place, place+1)
}

// row is the items in the order in which they are to be popped.
func (p plain) row() []api.Item {
	var l []api.Item
	for len(p) > 0 {
		i := p.first()
		l = append(l, p[i])
		p = p.without(i)
	}
	return l
}

// filled is a queue into which the items were pushed one behind the other.
func filled(t *testing.T, items ...api.Item) *ranks.Queue {
	t.Helper()
	q := ranks.New()
	for _, it := range items {
		told(t, q.Push(it.Id, it.Key), true, "Push")
	}
	expect(t, q, items, "Push")
	return q
}

// told fails unless the call answered want.
func told(t *testing.T, got, want bool, what string) {
	t.Helper()
	if got != want {
		t.Fatalf("%s: %v, want %v", what, got, want)
	}
}

// expect fails unless q tells want, in each of the calls that leave it as it is.
func expect(t *testing.T, q *ranks.Queue, want plain, behind string) {
	t.Helper()
	if q.Len() != len(want) {
		t.Fatalf("behind %s: Len %d, want %d", behind, q.Len(), len(want))
	}
	var top api.Item
	if i := want.first(); i >= 0 {
		top = want[i]
	}
	if it, ok := q.Top(); it != top || ok != (len(want) > 0) {
		t.Fatalf("behind %s: Top %v, %v, want %v", behind, it, ok, top)
	}
	for _, it := range want {
		if key, ok := q.Key(it.Id); key != it.Key || !ok {
			t.Fatalf("behind %s: Key(%d) = %d, %v, want %d", behind, it.Id, key, ok, it.Key)
		}
	}
	for _, id := range append([]int{3, 7, 50, 100, 1000}, edges...) {
		if want.place(id) >= 0 {
			continue
		}
		if key, ok := q.Key(id); key != 0 || ok {
			t.Fatalf("behind %s: Key(%d) = %d, %v, but it isn't in it", behind, id, key, ok)
		}
	}
}

// popped fails unless q gives want, in that order, and is empty then.
func popped(t *testing.T, q *ranks.Queue, want []api.Item) {
	t.Helper()
	for i, w := range want {
		if it, ok := q.Pop(); it != w || !ok {
			t.Fatalf("popped at %d: %v, %v, want %v", i, it, ok, w)
		}
		expect(t, q, want[i+1:], "Pop")
	}
	empty(t, q, "the last Pop")
}

// empty fails unless q answers to each call as an empty queue does.
func empty(t *testing.T, q *ranks.Queue, behind string) {
	t.Helper()
	expect(t, q, nil, behind)
	if it, ok := q.Pop(); it != (api.Item{}) || ok {
		t.Fatalf("behind %s: Pop %v, %v of none", behind, it, ok)
	}
	for _, id := range edges {
		told(t, q.Change(id, 5), false, "Change of none")
		told(t, q.Drop(id), false, "Drop of none")
	}
	expect(t, q, nil, behind)
}

// permutations calls do with each order of the items.
func permutations(items []api.Item, do func(l []api.Item)) {
	var lay func(l []api.Item, k int)
	lay = func(l []api.Item, k int) {
		if k == len(l) {
			do(l)
			return
		}
		for i := k; i < len(l); i++ {
			m := slices.Clone(l)
			m[k], m[i] = m[i], m[k]
			lay(m, k+1)
		}
	}
	lay(items, 0)
}

// draw is a row of numbers without a pattern.
type draw uint64

func (d *draw) next(below int) int {
	*d = *d*6364136223846793005 + 1442695040888963407
	return int(uint64(*d) >> 33 % uint64(below))
}

// P5.1: of an empty queue nothing is told, changed or taken, whether it never held anything or holds nothing any more.
func TestEmpty(t *testing.T) {
	empty(t, ranks.New(), "New")
	q := filled(t, api.Item{Id: 4, Key: 9})
	q.Pop()
	empty(t, q, "Pop of the only one")
	told(t, q.Push(4, 8), true, "Push behind Pop")
	told(t, q.Drop(4), true, "Drop of the only one")
	empty(t, q, "Drop of the only one")
	empty(t, &ranks.Queue{}, "no New")
}

// P5.1: a queue that New didn't make takes items as well.
func TestZero(t *testing.T) {
	var q ranks.Queue
	told(t, q.Push(1, 5), true, "Push")
	told(t, q.Push(2, 7), true, "Push")
	popped(t, &q, []api.Item{{Id: 2, Key: 7}, {Id: 1, Key: 5}})
}

// P5.1, P5.2: the chapter's example, in whatever order the three are pushed.
func TestExample(t *testing.T) {
	permutations([]api.Item{{Id: 1, Key: 5}, {Id: 2, Key: 7}, {Id: 3, Key: 7}}, func(l []api.Item) {
		popped(t, filled(t, l...), []api.Item{{Id: 2, Key: 7}, {Id: 3, Key: 7}, {Id: 1, Key: 5}})
	})
}

// P5.1: what is in it isn't pushed again: it keeps its key, and the queue its top.
func TestPushOfOneThatIsIn(t *testing.T) {
	items := []api.Item{{Id: 1, Key: 5}, {Id: 2, Key: 7}, {Id: 0, Key: 0}, {Id: -1, Key: -6}}
	q := filled(t, items...)
	for _, it := range items {
		for _, key := range append([]int{it.Key, it.Key + 1, it.Key - 1}, edges...) {
			told(t, q.Push(it.Id, key), false, "Push of one that is in it")
			expect(t, q, items, "Push of one that is in it")
		}
	}
	popped(t, q, plain(items).row())
}

// P5.1: once it is out it is taken again, with the key that it is pushed with then.
func TestPushOfOneThatIsOut(t *testing.T) {
	q := filled(t, api.Item{Id: 1, Key: 5}, api.Item{Id: 2, Key: 7}, api.Item{Id: 3, Key: 6})
	if it, ok := q.Pop(); it.Id != 2 || !ok {
		t.Fatalf("Pop %v, %v", it, ok)
	}
	told(t, q.Push(2, 1), true, "Push behind Pop")
	expect(t, q, plain{{Id: 1, Key: 5}, {Id: 3, Key: 6}, {Id: 2, Key: 1}}, "Push behind Pop")
	told(t, q.Push(2, 9), false, "Push once more")
	told(t, q.Drop(1), true, "Drop")
	told(t, q.Push(1, 8), true, "Push behind Drop")
	told(t, q.Push(1, 3), false, "Push once more")
	popped(t, q, []api.Item{{Id: 1, Key: 8}, {Id: 3, Key: 6}, {Id: 2, Key: 1}})
}

// P5.1: ids and keys may be any numbers: the greatest and the least int are held against each other as the others are.
func TestEdges(t *testing.T) {
	var rising, falling []api.Item
	for i, e := range edges {
		rising = append(rising, api.Item{Id: e, Key: e})
		falling = append(falling, api.Item{Id: e, Key: edges[len(edges)-1-i]})
	}
	turned := slices.Clone(rising)
	slices.Reverse(turned)
	popped(t, filled(t, rising...), turned)
	popped(t, filled(t, turned...), turned)
	popped(t, filled(t, falling...), falling)
	for i, a := range edges {
		for _, b := range edges[i+1:] {
			popped(t, filled(t, api.Item{Id: 1, Key: a}, api.Item{Id: 2, Key: b}), []api.Item{{Id: 2, Key: b}, {Id: 1, Key: a}})
			popped(t, filled(t, api.Item{Id: b, Key: 3}, api.Item{Id: a, Key: 3}), []api.Item{{Id: a, Key: 3}, {Id: b, Key: 3}})
		}
	}
}

// P5.1: an item that is 0 throughout is told apart from none by the bool alone.
func TestZeroItem(t *testing.T) {
	q := filled(t, api.Item{})
	if it, ok := q.Top(); it != (api.Item{}) || !ok {
		t.Errorf("Top %v, %v", it, ok)
	}
	if key, ok := q.Key(0); key != 0 || !ok {
		t.Errorf("Key %d, %v", key, ok)
	}
	if it, ok := q.Pop(); it != (api.Item{}) || !ok {
		t.Errorf("Pop %v, %v", it, ok)
	}
	empty(t, q, "Pop")
}

// P5.1: of several with the greatest key the one with the least id, in whatever order they were pushed; their keys come ahead of their ids.
func TestTies(t *testing.T) {
	items := []api.Item{{Id: 3, Key: 2}, {Id: -3, Key: 2}, {Id: 0, Key: 2}, {Id: math.MaxInt, Key: 2}, {Id: math.MinInt, Key: 1}, {Id: 9, Key: 3}}
	want := []api.Item{{Id: 9, Key: 3}, {Id: -3, Key: 2}, {Id: 0, Key: 2}, {Id: 3, Key: 2}, {Id: math.MaxInt, Key: 2}, {Id: math.MinInt, Key: 1}}
	permutations(items, func(l []api.Item) {
		popped(t, filled(t, l...), want)
	})
}

// P5.1: Top tells what Pop takes out, as often as it is asked, and leaves all as it was.
func TestTop(t *testing.T) {
	items := []api.Item{{Id: 5, Key: 1}, {Id: 4, Key: 3}, {Id: 6, Key: 3}, {Id: 1, Key: 2}}
	q := filled(t, items...)
	for left := plain(items); len(left) > 0; left = left.without(left.first()) {
		for range 3 {
			expect(t, q, left, "Top")
		}
		top, _ := q.Top()
		if it, ok := q.Pop(); it != top || !ok {
			t.Fatalf("Pop %v, %v behind Top %v", it, ok, top)
		}
	}
	empty(t, q, "the last Pop")
}

// P5.1: each one's key, in each order of five, changed up and down, to the same, to the others' and past them.
func TestChange(t *testing.T) {
	permutations([]api.Item{{Id: 1, Key: 10}, {Id: 2, Key: 20}, {Id: 3, Key: 20}, {Id: 4, Key: 40}, {Id: 5, Key: 50}}, func(l []api.Item) {
		for i, it := range l {
			for _, key := range []int{math.MinInt, -5, 0, 9, 10, 15, 20, 30, 40, 45, 50, 51, math.MaxInt} {
				q, want := filled(t, l...), plain(slices.Clone(l))
				told(t, q.Change(it.Id, key), true, "Change")
				want[i].Key = key
				expect(t, q, want, "Change")
				popped(t, q, want.row())
			}
		}
	})
}

// P5.1: what isn't in it isn't changed, and isn't in it then either.
func TestChangeOfNone(t *testing.T) {
	items := []api.Item{{Id: 10, Key: 5}, {Id: 12, Key: 7}, {Id: 11, Key: 7}}
	q := filled(t, items...)
	for _, id := range append([]int{9, 13}, edges...) {
		told(t, q.Change(id, 100), false, "Change of none")
		expect(t, q, items, "Change of none")
	}
	q.Pop()
	told(t, q.Change(11, 1), false, "Change of what was popped")
	told(t, q.Drop(10), true, "Drop")
	told(t, q.Change(10, 1), false, "Change of what was dropped")
	expect(t, q, plain{{Id: 12, Key: 7}}, "Change of what is out")
}

// P5.1: each one is dropped, in each order of six: the top, the last one, those in the middle; the others stay.
func TestDrop(t *testing.T) {
	permutations([]api.Item{{Id: 1, Key: 10}, {Id: 2, Key: 20}, {Id: 3, Key: 20}, {Id: 4, Key: -4}, {Id: 5, Key: 50}, {Id: 6, Key: 5}}, func(l []api.Item) {
		for i, it := range l {
			q, want := filled(t, l...), plain(l).without(i)
			told(t, q.Drop(it.Id), true, "Drop")
			expect(t, q, want, "Drop")
			told(t, q.Drop(it.Id), false, "Drop once more")
			expect(t, q, want, "Drop once more")
			popped(t, q, want.row())
		}
	})
}

// P5.1: a dropped one's place is taken by one that must rise: it is not left below a smaller one.
func TestDropLetsRise(t *testing.T) {
	items := []api.Item{{Id: 0, Key: 100}, {Id: 1, Key: 10}, {Id: 2, Key: 90}, {Id: 3, Key: 9}, {Id: 4, Key: 8}, {Id: 5, Key: 89}, {Id: 6, Key: 88}}
	for i, it := range items {
		q := filled(t, items...)
		told(t, q.Drop(it.Id), true, "Drop")
		popped(t, q, plain(items).without(i).row())
	}
}

// P5.1: what isn't in it isn't dropped, and nothing else is.
func TestDropOfNone(t *testing.T) {
	items := []api.Item{{Id: 10, Key: 5}, {Id: 12, Key: 7}, {Id: 11, Key: 7}}
	q := filled(t, items...)
	for _, id := range append([]int{5, 7, 9, 13}, edges...) {
		told(t, q.Drop(id), false, "Drop of none")
		expect(t, q, items, "Drop of none")
	}
	popped(t, q, plain(items).row())
}

// P5.1: what one queue is told, another one doesn't hold.
func TestQueuesApart(t *testing.T) {
	a, b := ranks.New(), ranks.New()
	told(t, a.Push(1, 5), true, "Push")
	empty(t, b, "Push to another one")
	told(t, b.Push(1, 6), true, "Push of the same id")
	told(t, a.Change(1, 9), true, "Change")
	expect(t, b, plain{{Id: 1, Key: 6}}, "Change of another one's")
	told(t, b.Drop(1), true, "Drop")
	popped(t, a, []api.Item{{Id: 1, Key: 9}})
}

// P5.2: what is popped till nothing is left is sorted, however many there are and in whatever order they came.
func TestPoppedIsSorted(t *testing.T) {
	d := draw(5)
	for _, n := range []int{1, 2, 3, 7, 8, 9, 100, 3000} {
		for _, keys := range []int{1, 2, 10, 1 << 30} {
			q, pushed := ranks.New(), map[api.Item]int{}
			for i := range n {
				it := api.Item{Id: i*7919%n - n/2, Key: d.next(keys) - keys/2}
				if q.Push(it.Id, it.Key) {
					pushed[it] = 1
				}
			}
			sorted(t, q, pushed)
		}
	}
}

// sorted fails unless q gives each of the pushed ones once, keys falling and ids rising where keys are alike.
func sorted(t *testing.T, q *ranks.Queue, pushed map[api.Item]int) {
	t.Helper()
	last, ok := q.Pop()
	for n := 1; n <= len(pushed); n++ {
		if !ok || pushed[last] != 1 {
			t.Fatalf("popped %v, %v: it was pushed %d times", last, ok, pushed[last])
		}
		pushed[last] = 0
		it, more := q.Pop()
		if more && (it.Key > last.Key || it.Key == last.Key && it.Id <= last.Id) {
			t.Fatalf("popped %v behind %v", it, last)
		}
		last, ok = it, more
	}
	if ok {
		t.Fatalf("popped %v behind the last one", last)
	}
	empty(t, q, "the last Pop")
}

// step does one call to q, chosen by d, and to the plain queue the same.
func step(t *testing.T, q *ranks.Queue, p plain, d *draw, ids int) plain {
	t.Helper()
	id, key := d.next(ids)-ids/3, d.next(9)-4
	at := p.place(id)
	switch d.next(6) {
	case 0, 1:
		told(t, q.Push(id, key), at < 0, "Push")
		if at < 0 {
			p = append(p, api.Item{Id: id, Key: key})
		}
	case 2, 3:
		told(t, q.Change(id, key), at >= 0, "Change")
		if at >= 0 {
			p[at].Key = key
		}
	case 4:
		told(t, q.Drop(id), at >= 0, "Drop")
		if at >= 0 {
			p = p.without(at)
		}
	default:
		var want api.Item
		first := p.first()
		if first >= 0 {
			want = p[first]
			p = p.without(first)
		}
		if it, ok := q.Pop(); it != want || ok != (first >= 0) {
			t.Fatalf("Pop %v, %v, want %v", it, ok, want)
		}
	}
	return p
}

// P5.1, P5.2: long rows of all calls against a queue that is gone through each time; what is left is popped sorted.
func TestLongRow(t *testing.T) {
	d := draw(55)
	for _, ids := range []int{1, 2, 5, 12, 40, 150} {
		for range 20 {
			q, p := ranks.New(), plain(nil)
			for range 200 {
				p = step(t, q, p, &d, ids)
				expect(t, q, p, "a long row")
			}
			popped(t, q, p.row())
		}
	}
}
