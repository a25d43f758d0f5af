package cache

import (
	"fmt"
	"math"
	"slices"
	"testing"

	"longabsence/api"
)

// file is a clean file, with data by which it is known, of version 1.
func file(fid, worth, last int) api.Kept {
	return api.Kept{Node: api.Node{Fid: fid, Data: fmt.Append(nil, "of ", fid), Version: 1}, Worth: worth, Last: last}
}

func dir(fid, worth, last int, l ...api.Entry) api.Kept {
	return api.Kept{Node: api.Node{Fid: fid, Dir: true, Entries: l, Version: 1}, Worth: worth, Last: last}
}

func dirty(k api.Kept) api.Kept {
	k.Dirty = true
	return k
}

func of(version int, k api.Kept) api.Kept {
	k.Node.Version = version
	return k
}

// given is a cache in no order: the root, /d (4, dirty), /d/g (-1, dirty), /f (2), /h (7) and /i (5).
func given() []api.Kept {
	return []api.Kept{
		file(7, 3, 20),
		dirty(dir(4, 0, 9, api.Entry{Name: "g", Fid: -1})),
		of(6, file(2, 3, 10)),
		of(8, dir(0, 0, 1, api.Entry{Name: "d", Fid: 4}, api.Entry{Name: "f", Fid: 2}, api.Entry{Name: "h", Fid: 7}, api.Entry{Name: "i", Fid: 5})),
		dirty(of(0, file(-1, 0, 12))),
		file(5, 30, 2),
	}
}

// others are lists that are no caches, and caches at the edges.
func others() [][]api.Kept {
	return [][]api.Kept{
		nil, {}, {dir(0, 0, 1)}, {file(3, 0, 0)}, {dirty(file(3, 0, 0))}, {{}}, {{}, {}},
		{file(3, 1, 1), file(3, 0, 0), dirty(file(3, 0, 0)), of(9, file(3, 0, 0))},
		{dirty(dir(0, 0, 0)), dir(0, 5, 5), file(0, 9, 9)},
		{{Node: api.Node{Fid: math.MinInt, Version: math.MaxInt}, Worth: math.MinInt, Last: math.MaxInt}, {Node: api.Node{Fid: math.MaxInt, Version: math.MinInt}, Worth: math.MaxInt, Last: math.MinInt}},
		{{Node: api.Node{Fid: 2, Data: make([]byte, 99), Entries: []api.Entry{{Name: "No name", Fid: 2}, {}, {}}}}},
	}
}

// tell shows lists without entries alike, nil or not.
func tell(x ...any) string { return fmt.Sprintf("%+v", x) }

func want(t *testing.T, what string, got, want any) {
	t.Helper()
	if tell(got) != tell(want) {
		t.Errorf("%s = %+v, want %+v", what, got, want)
	}
}

// keeps: k is kept, and then the cache is what is expected.
func keeps(t *testing.T, l []api.Kept, room int, k api.Kept, expect ...api.Kept) {
	t.Helper()
	got, err := Keep(l, room, k)
	want(t, fmt.Sprintf("Keep(%+v, %d, %+v)", l, room, k), tell(got, err), tell(expect, api.OK))
}

// refuses: there is no room for k; beside the error there is no cache.
func refuses(t *testing.T, l []api.Kept, room int, k api.Kept) {
	t.Helper()
	got, err := Keep(l, room, k)
	want(t, fmt.Sprintf("Keep(%+v, %d, %+v)", l, room, k), tell(got, err), tell([]api.Kept{}, api.ErrMany))
	if len(got) != 0 {
		t.Errorf("beside ErrMany %+v is answered", got)
	}
}

// without is the given cache without those of these numbers.
func without(gone ...int) []api.Kept {
	var out []api.Kept
	for i, k := range given() {
		if !slices.Contains(gone, i) {
			out = append(out, k)
		}
	}
	return out
}

func fids(l []api.Kept) []int {
	var out []int
	for _, k := range l {
		out = append(out, k.Node.Fid)
	}
	return out
}

func TestOwnIsAlike(t *testing.T) {
	for _, l := range append(others(), given()) {
		want(t, "Own", Own(l), l)
	}
}

func TestTree(t *testing.T) {
	g := given()
	expect := []api.Node{g[4].Node, g[3].Node, g[2].Node, g[1].Node, g[5].Node, g[0].Node}
	for range g {
		// Whatever is first, what is told is the same.
		g = append(g[1:], g[0])
		want(t, "Tree", Tree(g), expect)
	}
	slices.Reverse(g)
	want(t, "Tree of the other order", Tree(g), expect)
	want(t, "Tree of one", Tree([]api.Kept{dirty(file(9, 9, 9))}), []api.Node{file(9, 0, 0).Node})
	for _, l := range [][]api.Kept{nil, {}} {
		want(t, "Tree of an empty one", Tree(l), []api.Node{})
	}
	lowest, highest := api.Kept{Node: api.Node{Fid: math.MinInt}}, api.Kept{Node: api.Node{Fid: math.MaxInt}}
	want(t, "Tree at the bounds", Tree([]api.Kept{highest, {}, lowest}), []api.Node{lowest.Node, {}, highest.Node})
	a, b := of(4, file(3, 0, 0)), of(2, file(3, 0, 0))
	want(t, "Tree of one fid twice", Tree([]api.Kept{a, b, file(1, 0, 0)}), []api.Node{file(1, 0, 0).Node, a.Node, b.Node})
}

func TestHas(t *testing.T) {
	for fid := -3; fid < 10; fid++ {
		want(t, fmt.Sprint("Has of ", fid), Has(given(), fid), slices.Contains([]int{7, 4, 2, 0, -1, 5}, fid))
		want(t, fmt.Sprint("Has of an empty one, of ", fid), Has(nil, fid), false)
		want(t, fmt.Sprint("Has of one alone, of ", fid), Has([]api.Kept{file(8, 0, 0)}, fid), fid == 8)
	}
	want(t, "Has of the least fid", Has(given(), math.MinInt), false)
	want(t, "Has of the greatest fid", Has(given(), math.MaxInt), false)
	// To what a directory leads need not be kept.
	want(t, "Has of what is in a directory", Has([]api.Kept{dir(0, 0, 0, api.Entry{Name: "a", Fid: 3})}, 3), false)
}

func TestWorst(t *testing.T) {
	for _, x := range []struct {
		what string
		l    []api.Kept
		n    int
	}{
		{"of the given ones", given(), 2},
		{"of none", nil, -1},
		{"of an empty list", []api.Kept{}, -1},
		{"of one", []api.Kept{file(3, 9, 9)}, 0},
		{"of the root alone", []api.Kept{dir(0, 0, 0)}, -1},
		{"of a root that is a file", []api.Kept{file(0, 0, 0)}, -1},
		{"of a dirty one", []api.Kept{dirty(file(3, 0, 0))}, -1},
		{"of dirty ones and the root", []api.Kept{dirty(file(3, 0, 0)), dir(0, 0, 0), dirty(dir(-4, 0, 0))}, -1},
		{"of a dirty root", []api.Kept{dirty(dir(0, 0, 0)), file(3, 9, 9)}, 1},
		{"of a directory", []api.Kept{file(3, 2, 2), dir(4, 1, 1)}, 1},
		{"of a fid below 0", []api.Kept{file(3, 2, 2), file(-4, 1, 3)}, 1},
		{"least worth, though used last", []api.Kept{file(3, 2, 1), file(4, 1, 9), file(5, 2, 2)}, 1},
		{"least worth, though dirty ones are worth less", []api.Kept{dirty(file(3, -9, -9)), file(4, 1, 9), dir(0, -9, -9), file(5, 0, 10)}, 3},
		{"least worth, below 0", []api.Kept{file(1, 0, 0), file(2, -1, 9), file(3, -2, 9)}, 2},
		{"used least late", []api.Kept{file(3, 1, 7), file(4, 1, 6), file(2, 1, 8)}, 1},
		{"used at a time below 0", []api.Kept{file(3, 1, 0), file(4, 1, -6), file(2, 1, -5)}, 1},
		{"of the least fid", []api.Kept{file(3, 1, 7), file(9, 1, 7), file(2, 1, 7), file(4, 1, 7)}, 2},
		{"of the least fid, below 0", []api.Kept{file(3, 1, 7), file(-1, 1, 7), file(-2, 1, 7), dir(0, 1, 7)}, 2},
		{"of the least fid, first", []api.Kept{file(-3, 1, 7), file(1, 1, 7)}, 0},
		{"at the bounds of worth", []api.Kept{file(1, math.MaxInt, 0), file(2, math.MinInt, 0), file(3, 0, 0)}, 1},
		{"at the bounds of last", []api.Kept{file(1, 0, math.MaxInt), file(2, 0, 0), file(3, 0, math.MinInt)}, 2},
		{"at the bounds of fids", []api.Kept{{Node: api.Node{Fid: math.MaxInt}}, {Node: api.Node{Fid: math.MinInt}}}, 1},
	} {
		want(t, "Worst, "+x.what, Worst(x.l), x.n)
	}
	for n, k := range given() {
		l := given()
		l[n].Worth, l[n].Last = -1, -1
		if k.Dirty || k.Node.Fid == 0 {
			want(t, fmt.Sprintf("Worst, where %+v must stay", k), Worst(l), 2)
		} else {
			want(t, fmt.Sprintf("Worst, where %+v is worth least", k), Worst(l), n)
		}
	}
}

// TestKeepOfWhatIsKept: nothing goes, whatever the room, and nothing is refused; the place is the old one.
func TestKeepOfWhatIsKept(t *testing.T) {
	for n, old := range given() {
		for _, room := range []int{math.MinInt, -1, 0, 1, 5, 6, 7, math.MaxInt} {
			for _, worth := range []int{math.MinInt, -1, old.Worth - 1, old.Worth, old.Worth + 1, math.MaxInt} {
				k := api.Kept{Node: api.Node{Fid: old.Node.Fid, Dir: !old.Node.Dir, Data: []byte("new"), Entries: []api.Entry{{Name: "n", Fid: 1}}, Version: 77}, Dirty: !old.Dirty, Worth: worth, Last: 66}
				expect := given()
				expect[n] = k
				if worth < old.Worth {
					expect[n].Worth = old.Worth
				}
				keeps(t, given(), room, k, expect...)
			}
		}
	}
	// What is Dirty may be clean from now on, and used less late.
	keeps(t, []api.Kept{dirty(file(3, 4, 9))}, 1, file(3, 2, 1), file(3, 4, 1))
	keeps(t, []api.Kept{dir(0, 0, 9)}, 0, dirty(dir(0, 5, 1)), dirty(dir(0, 5, 1)))
	keeps(t, []api.Kept{file(1, -9, 0), file(3, -4, 9)}, 1, file(3, -5, 1), file(1, -9, 0), file(3, -4, 1))
}

func TestKeepWhereThereIsRoom(t *testing.T) {
	for _, l := range [][]api.Kept{nil, {}} {
		for _, room := range []int{1, 2, api.MinRoom, math.MaxInt} {
			keeps(t, l, room, file(3, 2, 1), file(3, 2, 1))
			keeps(t, l, room, dirty(dir(0, -2, -1)), dirty(dir(0, -2, -1)))
		}
	}
	for _, room := range []int{7, 8, api.MaxRoom, math.MaxInt} {
		// However little it is worth, it comes last.
		for _, k := range []api.Kept{file(9, math.MinInt, math.MinInt), file(9, 99, 99), file(-9, 0, 0), dirty(dir(3, 0, 0))} {
			keeps(t, given(), room, k, append(given(), k)...)
		}
	}
}

func TestKeepWhereOneGoes(t *testing.T) {
	// Those that may go, the first one first, are of the numbers 2, 0 and 5.
	for _, k := range []api.Kept{file(9, math.MinInt, math.MinInt), file(9, 99, 99), dirty(file(-9, 0, 0)), dir(1, 0, 0)} {
		keeps(t, given(), 6, k, append(without(2), k)...)
		keeps(t, without(2), 5, k, append(without(0, 2), k)...)
		keeps(t, without(0, 2), 4, k, append(without(0, 2, 5), k)...)
	}
	keeps(t, []api.Kept{file(3, 9, 9)}, 1, file(4, 0, 0), file(4, 0, 0))
	keeps(t, []api.Kept{file(3, 9, 9)}, 1, dir(0, 0, 0), dir(0, 0, 0))
	keeps(t, []api.Kept{dir(0, 0, 0), file(3, 9, 9), dirty(file(5, 0, 0))}, 3, file(4, 0, 0), dir(0, 0, 0), dirty(file(5, 0, 0)), file(4, 0, 0))
}

func TestKeepWhereSeveralGo(t *testing.T) {
	k := file(9, 0, 0)
	keeps(t, given(), 5, k, append(without(0, 2), k)...)
	keeps(t, given(), 4, k, append(without(0, 2, 5), k)...)
	var l []api.Kept
	for i := range 20 {
		l = append(l, file(1+i, i%3, 0))
	}
	// Of 1 to 20 those that are worth 0 are 1, 4, 7 and so on, those that are worth 1 are 2, 5, 8 and so on.
	for _, x := range []struct {
		room int
		fids []int
	}{
		{20, []int{2, 3, 4, 5, 6, 7, 8, 9, 10, 11, 12, 13, 14, 15, 16, 17, 18, 19, 20, 99}},
		{18, []int{2, 3, 5, 6, 8, 9, 10, 11, 12, 13, 14, 15, 16, 17, 18, 19, 20, 99}},
		{14, []int{2, 3, 5, 6, 8, 9, 11, 12, 14, 15, 17, 18, 20, 99}},
		{13, []int{3, 5, 6, 8, 9, 11, 12, 14, 15, 17, 18, 20, 99}},
		{7, []int{3, 6, 9, 12, 15, 18, 99}},
		{6, []int{6, 9, 12, 15, 18, 99}},
		{2, []int{18, 99}},
		{1, []int{99}},
	} {
		got, err := Keep(l, x.room, file(99, -9, -9))
		want(t, fmt.Sprint("what stays, of room for ", x.room), tell(fids(got), err), tell(x.fids, api.OK))
	}
	refuses(t, l, 0, file(99, 0, 0))
}

func TestKeepWhereNoneMayGo(t *testing.T) {
	for _, k := range []api.Kept{file(9, 0, 0), file(9, math.MaxInt, math.MaxInt), dirty(file(9, 0, 0)), dir(9, 0, 0)} {
		refuses(t, []api.Kept{dir(0, 0, 0)}, 1, k)
		refuses(t, []api.Kept{dirty(file(3, 0, 0))}, 1, k)
		refuses(t, []api.Kept{dirty(file(3, 0, 0)), dir(0, 0, 0), dirty(file(-1, 0, 0))}, 3, k)
		// Three may go, but that is not enough.
		for _, room := range []int{3, 2, 1, 0, -1, math.MinInt} {
			refuses(t, given(), room, k)
		}
		// There is not even room for itself.
		for _, room := range []int{0, -1, math.MinInt} {
			refuses(t, nil, room, k)
			refuses(t, []api.Kept{}, room, k)
			refuses(t, []api.Kept{file(3, 0, 0)}, room, k)
			refuses(t, []api.Kept{file(3, 0, 0), file(4, 0, 0)}, room, k)
		}
	}
	refuses(t, nil, 0, dir(0, 0, 0))
	refuses(t, []api.Kept{dirty(file(3, 0, 0))}, 1, dirty(dir(0, 0, 0)))
}

// TestWhatMustStayStays: however much is kept, the root and what is dirty are there still.
func TestWhatMustStayStays(t *testing.T) {
	l := []api.Kept{dir(0, 0, 0), dirty(file(-1, 0, 0))}
	for i := range 50 {
		got, err := Keep(l, 4, file(10+i, 99, 99))
		want(t, "the error", err, api.OK)
		l = got
		want(t, "what stays", l[:2], []api.Kept{dir(0, 0, 0), dirty(file(-1, 0, 0))})
		want(t, "what came last", l[len(l)-1], file(10+i, 99, 99))
	}
	want(t, "the fids", fids(l), []int{0, -1, 58, 59})
}

func TestUse(t *testing.T) {
	for _, now := range []int{math.MinInt, -1, 0, 9, 99, math.MaxInt} {
		for n, k := range given() {
			expect := given()
			expect[n].Last = now
			want(t, fmt.Sprintf("Use of %d at %d", k.Node.Fid, now), Use(given(), k.Node.Fid, now), expect)
		}
		for _, fid := range []int{math.MinInt, -2, 1, 3, 6, 8, math.MaxInt} {
			want(t, fmt.Sprintf("Use of %d at %d", fid, now), Use(given(), fid, now), given())
			want(t, "Use of an empty one", Use(nil, fid, now), []api.Kept{})
			want(t, "Use of an empty list", Use([]api.Kept{}, fid, now), []api.Kept{})
		}
		want(t, "Use of an empty one, of the root", Use(nil, 0, now), []api.Kept{})
	}
}

func TestFresh(t *testing.T) {
	node := func(fid, version int) api.Node { return api.Node{Fid: fid, Version: version} }
	for _, x := range []struct {
		what string
		at   []api.Node
		gone []int
	}{
		{"of none", nil, []int{0, 2, 3, 5}},
		{"of an empty tree", []api.Node{}, []int{0, 2, 3, 5}},
		{"of all", []api.Node{node(0, 8), node(2, 6), node(5, 1), node(7, 1)}, nil},
		{"of all, and others", []api.Node{node(-1, 9), node(0, 8), node(1, 1), node(2, 6), node(4, 9), node(5, 1), node(7, 1), node(9, 1)}, nil},
		{"of all, one later", []api.Node{node(0, 9), node(2, 6), node(5, 1), node(7, 1)}, []int{3}},
		{"of all, one earlier", []api.Node{node(0, 8), node(2, 5), node(5, 1), node(7, 1)}, []int{2}},
		{"of all, one gone", []api.Node{node(0, 8), node(2, 6), node(5, 1)}, []int{0}},
		{"of other versions", []api.Node{node(0, 7), node(2, 7), node(5, 7), node(7, 7)}, []int{0, 2, 3, 5}},
		{"of the dirty ones", []api.Node{node(-1, 0), node(4, 1)}, []int{0, 2, 3, 5}},
		{"of those versions, of other fids", []api.Node{node(1, 8), node(3, 6), node(6, 1)}, []int{0, 2, 3, 5}},
		{"of versions that are fids", []api.Node{node(1, 7), node(6, 2), node(8, 0)}, []int{0, 2, 3, 5}},
		{"of a list in no order", []api.Node{node(7, 1), node(5, 2), node(2, 6), node(0, 8)}, []int{5}},
		{"of a list that has one twice", []api.Node{node(2, 5), node(2, 6)}, []int{0, 3, 5}},
	} {
		want(t, "Fresh, "+x.what, Fresh(given(), x.at), without(x.gone...))
		want(t, "Fresh of none, "+x.what, Fresh(nil, x.at), []api.Kept{})
		want(t, "Fresh of an empty list, "+x.what, Fresh([]api.Kept{}, x.at), []api.Kept{})
	}
	// What the node is, beside its version, is not asked; what is kept stays as it was.
	at := []api.Node{{Fid: 5, Dir: true, Data: []byte("other"), Entries: []api.Entry{{Name: "n", Fid: 9}}, Version: 1}}
	want(t, "Fresh of another node of that version", Fresh(given(), at), without(0, 2, 3))
	want(t, "Fresh of none that is", Fresh([]api.Kept{file(3, 0, 0), dir(0, 0, 0)}, nil), []api.Kept{})
	want(t, "Fresh of versions below 0", Fresh([]api.Kept{of(-1, file(3, 0, 0)), of(-2, file(4, 0, 0))}, []api.Node{node(3, -1), node(4, -1)}), []api.Kept{of(-1, file(3, 0, 0))})
}

func TestClean(t *testing.T) {
	want(t, "Clean", Clean(given()), without(1, 4))
	want(t, "Clean of nothing dirty", Clean(without(1, 4)), without(1, 4))
	want(t, "Clean of dirty ones", Clean([]api.Kept{dirty(file(3, 9, 9)), dirty(dir(0, 9, 9))}), []api.Kept{})
	for _, l := range [][]api.Kept{nil, {}} {
		want(t, "Clean of none", Clean(l), []api.Kept{})
	}
}

// TestWhatIsDirtyGoesLast is the document's example: of two nodes that are kept one is dirty; the other one goes first.
func TestWhatIsDirtyGoesLast(t *testing.T) {
	keeps(t, []api.Kept{dirty(file(3, 0, 1)), file(4, 100, 9)}, 2, file(5, 0, 0), dirty(file(3, 0, 1)), file(5, 0, 0))
	keeps(t, []api.Kept{file(4, 100, 9), dirty(file(3, 0, 1))}, 2, file(5, 0, 0), dirty(file(3, 0, 1)), file(5, 0, 0))
}

func TestNothingPanics(t *testing.T) {
	numbers := []int{math.MinInt, -1, 0, 1, 3, math.MaxInt}
	trees := [][]api.Node{nil, {}, {{}}, {{Fid: 9}, {Fid: 3}, {Fid: 3, Version: 1}, {Fid: -1}}, {{Fid: math.MaxInt, Version: math.MinInt}, {Fid: math.MinInt, Version: math.MaxInt}}}
	for _, l := range append(others(), given()) {
		Tree(l)
		Worst(l)
		want(t, "how many are clean", len(Clean(l)) <= len(l), true)
		for _, at := range trees {
			want(t, "how many are fresh", len(Fresh(l, at)) <= len(l), true)
		}
		for _, fid := range numbers {
			want(t, "whether it is kept", Has(l, fid), slices.Contains(fids(l), fid))
			for _, n := range numbers {
				want(t, "the fids of what was used", fids(Use(l, fid, n)), fids(l))
				for _, worth := range numbers {
					for _, k := range []api.Kept{{Node: api.Node{Fid: fid}, Worth: worth}, dirty(dir(fid, worth, worth, api.Entry{}, api.Entry{Fid: fid}))} {
						got, err := Keep(l, n, k)
						want(t, "whether it is kept now", Has(got, fid), err == api.OK)
					}
				}
			}
		}
	}
}
