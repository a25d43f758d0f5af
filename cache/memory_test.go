package cache

import (
	"slices"
	"testing"

	"longabsence/api"
)

// roomyList is l with spare room behind it, filled by x.
func roomyList[T any](l []T, x ...T) []T {
	return append(slices.Clone(l), x...)[:len(l)]
}

func roomyNode(n api.Node) api.Node {
	n.Data = roomyList(n.Data, '?', '?')
	n.Entries = roomyList(n.Entries, api.Entry{Name: "z", Fid: 99}, api.Entry{Name: "zz", Fid: 98})
	return n
}

// roomy is l with spare room behind each list; what fills it would change the answer if it were looked at.
func roomy(l []api.Kept) []api.Kept {
	out := roomyList(l, file(99, -9, -9), file(3, -8, -8))
	for i, k := range out {
		out[i].Node = roomyNode(k.Node)
	}
	return out
}

func roomyTree(l []api.Node) []api.Node {
	out := roomyList(l, file(7, 0, 0).Node, of(6, file(2, 0, 0)).Node)
	for i, n := range out {
		out[i] = roomyNode(n)
	}
	return out
}

func wholeNode(n api.Node) string {
	return tell(n, n.Data[:cap(n.Data)], n.Entries[:cap(n.Entries)])
}

// whole tells a cache with its spare room.
func whole(l []api.Kept) string {
	out := tell(len(l))
	for _, k := range l[:cap(l)] {
		out += tell(k, wholeNode(k.Node))
	}
	return out
}

func wholeTree(l []api.Node) string {
	out := tell(len(l))
	for _, n := range l[:cap(l)] {
		out += wholeNode(n)
	}
	return out
}

func spoilNode(n *api.Node) {
	d, e := n.Data[:cap(n.Data)], n.Entries[:cap(n.Entries)]
	for i := range d {
		d[i] = '!'
	}
	for i := range e {
		e[i] = api.Entry{Name: "!", Fid: -99}
	}
	*n = api.Node{Fid: -99}
}

func spoil(l []api.Kept) {
	l = l[:cap(l)]
	for i := range l {
		spoilNode(&l[i].Node)
		l[i] = api.Kept{Dirty: true, Worth: -99}
	}
}

func spoilTree(l []api.Node) {
	l = l[:cap(l)]
	for i := range l {
		spoilNode(&l[i])
	}
}

// at is a tree that has some of the given nodes, and others.
func at() []api.Node {
	return []api.Node{{Fid: 0, Dir: true, Entries: []api.Entry{{Name: "d", Fid: 4}}, Version: 8}, {Fid: 2, Data: []byte("two"), Version: 7}, {Fid: 5, Data: []byte("five"), Version: 1}}
}

// calls are those that answer caches, each in each way: kept anew, in its place, where some go, and where there is no room.
func calls() map[string]func([]api.Kept) []api.Kept {
	keep := func(room int, k api.Kept) func([]api.Kept) []api.Kept {
		return func(l []api.Kept) []api.Kept {
			out, _ := Keep(l, room, k)
			return out
		}
	}
	return map[string]func([]api.Kept) []api.Kept{
		"Own":                     Own,
		"Keep":                    keep(9, file(3, 1, 1)),
		"Keep of what is kept":    keep(6, dir(7, 0, 30, api.Entry{Name: "a", Fid: 2})),
		"Keep where one goes":     keep(6, file(3, 1, 1)),
		"Keep where several go":   keep(4, file(3, 1, 1)),
		"Keep where none may go":  keep(2, file(3, 1, 1)),
		"Use":                     func(l []api.Kept) []api.Kept { return Use(l, 2, 50) },
		"Use of what is not kept": func(l []api.Kept) []api.Kept { return Use(l, 3, 50) },
		"Fresh":                   func(l []api.Kept) []api.Kept { return Fresh(l, at()) },
		"Fresh of none":           func(l []api.Kept) []api.Kept { return Fresh(l, nil) },
		"Clean":                   Clean,
	}
}

func TestCachesAreOnlyReadAndNotKept(t *testing.T) {
	for what, call := range calls() {
		for _, g := range append(others(), given()) {
			expect := tell(call(g))
			l := roomy(g)
			before := whole(l)
			got := call(l)
			want(t, what+", of lists with spare room", tell(got), expect)
			want(t, what+": the cache that was handed in", whole(l), before)
			spoil(l)
			want(t, what+", when what was handed in changed", tell(got), expect)

			l = roomy(g)
			spoil(call(l))
			want(t, what+": the cache, when the answer changed", whole(l), before)
		}
	}
}

func TestTreeHasNothingOfTheCache(t *testing.T) {
	for _, g := range append(others(), given()) {
		expect := tell(Tree(g))
		l := roomy(g)
		before := whole(l)
		got := Tree(l)
		want(t, "Tree of lists with spare room", tell(got), expect)
		want(t, "the cache that was handed in", whole(l), before)
		spoil(l)
		want(t, "the tree, when the cache changed", tell(got), expect)

		l = roomy(g)
		spoilTree(Tree(l))
		want(t, "the cache, when the tree changed", whole(l), before)
	}
}

func TestHasAndWorstOnlyRead(t *testing.T) {
	l := roomy(given())
	before := whole(l)
	want(t, "Has of what is in the spare room", tell(Has(l, 99), Has(l, 3)), tell(false, false))
	want(t, "Worst, with spare room", Worst(l), 2)
	want(t, "Worst of the root, with spare room", Worst(roomy([]api.Kept{dir(0, 0, 0)})), -1)
	want(t, "the cache", whole(l), before)
}

// TestWhatIsPutIsOnlyReadAndNotKept: of Keep, of each way that k may come in.
func TestWhatIsPutIsOnlyReadAndNotKept(t *testing.T) {
	for _, k := range []api.Kept{file(3, 1, 1), file(7, 1, 1), dirty(dir(4, 0, 0, api.Entry{Name: "x", Fid: 9}))} {
		for _, room := range []int{4, 6, 9} {
			expect := tell(Keep(given(), room, k))
			x := k
			x.Node = roomyNode(k.Node)
			before := wholeNode(x.Node)
			got, err := Keep(given(), room, x)
			want(t, "Keep of lists with spare room", tell(got, err), expect)
			want(t, "what was put", wholeNode(x.Node), before)
			spoilNode(&x.Node)
			want(t, "the cache, when what was put changed", tell(got, err), expect)

			x.Node = roomyNode(k.Node)
			got, _ = Keep(given(), room, x)
			spoil(got)
			want(t, "what was put, when the cache changed", wholeNode(x.Node), before)
		}
	}
}

func TestFreshKeepsOffTheTree(t *testing.T) {
	expect := tell(Fresh(given(), at()))
	l := roomyTree(at())
	before := wholeTree(l)
	got := Fresh(given(), l)
	want(t, "Fresh of a tree with spare room", tell(got), expect)
	want(t, "the tree", wholeTree(l), before)
	spoilTree(l)
	want(t, "what is fresh, when the tree changed", tell(got), expect)

	l = roomyTree(at())
	spoil(Fresh(given(), l))
	want(t, "the tree, when what is fresh changed", wholeTree(l), before)
}

// TestListsOfAnAnswerShareNothing: one Data and one list of entries in all nodes.
func TestListsOfAnAnswerShareNothing(t *testing.T) {
	data, entries := []byte("both"), []api.Entry{{Name: "a", Fid: 1}, {Name: "b", Fid: 2}}
	one := given()
	for i := range one {
		one[i].Node.Data, one[i].Node.Entries = data, entries
	}
	for what, call := range calls() {
		expect := call(one)
		for i := range expect {
			got := call(one)
			spoil(got[i : i+1 : i+1])
			want(t, what+": the others, when one changed", slices.Delete(got, i, i+1), slices.Delete(call(one), i, i+1))
		}
	}
	k := one[0]
	k.Node.Fid = 3
	got, _ := Keep(one, 9, k)
	spoil(got[6:7:7])
	want(t, "those that were kept ahead, when the last one changed", got[:6], one)
	for i := range one {
		l := Tree(one)
		spoilNode(&l[i])
		want(t, "the other nodes, when one changed", slices.Delete(l, i, i+1), slices.Delete(Tree(one), i, i+1))
	}
}

// TestTwoOfOne: what is made of one cache, twice, shares nothing.
func TestTwoOfOne(t *testing.T) {
	for what, call := range calls() {
		l := roomy(given())
		a, b := call(l), call(l)
		expect := tell(b)
		spoil(a)
		want(t, what+", when another answer changed", tell(b), expect)
	}
}
