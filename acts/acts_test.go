package acts

import (
	"fmt"
	"math"
	"slices"
	"strings"
	"testing"

	"longabsence/api"
	"longabsence/tree"
)

// sample is a tree of versions 1 to 7: the root has d, e and f, and a name that leads to what is not there; d has s, that has x.
func sample() []api.Node {
	return []api.Node{
		{Fid: -2, Data: []byte("own"), Version: 7},
		{Fid: 0, Dir: true, Entries: []api.Entry{{Name: "d", Fid: 1}, {Name: "e", Fid: 2}, {Name: "f", Fid: 3}, {Name: "gone", Fid: 77}}, Version: 1},
		{Fid: 1, Dir: true, Entries: []api.Entry{{Name: "o", Fid: -2}, {Name: "s", Fid: 4}}, Version: 2},
		{Fid: 2, Dir: true, Version: 3},
		{Fid: 3, Data: []byte("three"), Version: 4},
		{Fid: 4, Dir: true, Entries: []api.Entry{{Name: "x", Fid: 5}}, Version: 5},
		{Fid: 5, Data: []byte("five"), Version: 6},
	}
}

func makeAct(fid, dir int, name string) api.Act {
	return api.Act{Kind: api.ActMake, Fid: fid, Dir: dir, Name: name}
}

func dirAct(fid, dir int, name string) api.Act {
	return api.Act{Kind: api.ActDir, Fid: fid, Dir: dir, Name: name}
}

func storeAct(fid int, data string) api.Act {
	return api.Act{Kind: api.ActStore, Fid: fid, Data: []byte(data)}
}

func removeAct(fid, dir int, name string) api.Act {
	return api.Act{Kind: api.ActRemove, Fid: fid, Dir: dir, Name: name}
}

func renameAct(fid, dir int, name string, to int, toName string) api.Act {
	return api.Act{Kind: api.ActRename, Fid: fid, Dir: dir, Name: name, To: to, ToName: toName}
}

// tell shows lists without entries alike, nil or not.
func tell(x ...any) string { return fmt.Sprintf("%+v", x) }

func want(t *testing.T, what string, got, want any) {
	t.Helper()
	if tell(got) != tell(want) {
		t.Errorf("%s = %+v, want %+v", what, got, want)
	}
}

// turns: the act makes of l the tree want.
func turns(t *testing.T, l []api.Node, a api.Act, version int, expect []api.Node) {
	t.Helper()
	got, err := Apply(l, a, version)
	if err != api.OK {
		t.Errorf("Apply(%+v) tells %d, want OK", a, err)
	}
	want(t, fmt.Sprintf("Apply(%+v)", a), got, expect)
}

// done: the act can be done; its tree is answered.
func done(t *testing.T, l []api.Node, a api.Act) []api.Node {
	t.Helper()
	got, err := Apply(l, a, 50)
	if err != api.OK {
		t.Fatalf("Apply(%+v) tells %d, want OK", a, err)
	}
	return got
}

// refused: Apply tells that error, and beside it nothing.
func refused(t *testing.T, l []api.Node, a api.Act, expect api.Errno) {
	t.Helper()
	got, err := Apply(l, a, 50)
	if err != expect || len(got) != 0 {
		t.Errorf("Apply(%+v) = %+v, %d, want nothing, %d", a, got, err, expect)
	}
}

// with is l with these nodes put.
func with(l []api.Node, nodes ...api.Node) []api.Node {
	for _, n := range nodes {
		l = tree.Put(l, n)
	}
	return l
}

// wide is a root with so many files, called a, b and so on.
func wide(n int) []api.Node {
	l := tree.New()
	root := l[0]
	for i := range n {
		l = tree.Put(l, api.Node{Fid: 10 + i})
		root = tree.Enter(root, string(rune('a'+i)), 10+i)
	}
	return tree.Put(l, root)
}

// crowd is a tree of so many nodes, in all; the root has but one entry.
func crowd(n int) []api.Node {
	l := with(nil, api.Node{Fid: 0, Dir: true, Entries: []api.Entry{{Name: "a", Fid: 1}}}, api.Node{Fid: 1, Dir: true})
	for fid := 2; len(l) < n; fid++ {
		l = tree.Put(l, api.Node{Fid: fid})
	}
	return l
}

func TestOwnIsAlike(t *testing.T) {
	for _, a := range []api.Act{
		{},
		{Kind: 99, Fid: -1, Dir: -2, Name: "No name", To: -3, ToName: "/", Data: make([]byte, 2*api.MaxData)},
		{Kind: api.ActRename, Fid: 1, Dir: 2, Name: "x", To: 3, ToName: "y", Data: []byte("z")},
		{Data: []byte{}},
		{Kind: math.MinInt, Fid: math.MaxInt, Dir: math.MinInt, To: math.MaxInt},
	} {
		want(t, "Own", Own(a), a)
	}
}

func TestOwnSharesNothing(t *testing.T) {
	room := []byte("data and room")
	a := api.Act{Data: room[:4]}
	b := Own(a)
	_ = append(b.Data, "!!!"...)
	b.Data[0] = '!'
	want(t, "what was handed in", string(room), "data and room")
	b = Own(a)
	room[0], room[5] = '?', '?'
	want(t, "the copy", string(b.Data), "data")
	c := Own(api.Act{Data: room[:0]})
	_ = append(c.Data, '!')
	want(t, "the room behind nothing", string(room), "?ata ?nd room")
}

func TestFids(t *testing.T) {
	for kind, expect := range map[int][]int{
		api.ActMake: {7, 8}, api.ActDir: {7, 8}, api.ActStore: {7}, api.ActRemove: {7, 8}, api.ActRename: {7, 8, 9},
		0: {7, 8}, 6: {7, 8}, -1: {7, 8}, math.MaxInt: {7, 8},
	} {
		want(t, fmt.Sprintf("Fids of kind %d", kind), Fids(api.Act{Kind: kind, Fid: 7, Dir: 8, To: 9, Name: "a"}), expect)
	}
	want(t, "Fids of the same ones", Fids(renameAct(1, 1, "a", 1, "b")), []int{1, 1, 1})
	want(t, "Fids of ends", Fids(renameAct(math.MinInt, -1, "", math.MaxInt, "")), []int{math.MinInt, -1, math.MaxInt})
}

func TestMakes(t *testing.T) {
	for kind := -2; kind < 10; kind++ {
		want(t, fmt.Sprintf("Makes of kind %d", kind), Makes(api.Act{Kind: kind, Fid: 7}), kind == 1 || kind == 2)
	}
}

func TestFidsAnswersNewMemory(t *testing.T) {
	a := renameAct(1, 2, "a", 3, "b")
	first, again := Fids(a), Fids(a)
	first[0] = 99
	_ = append(first[:1], 99, 99, 99)
	want(t, "another answer", again, []int{1, 2, 3})
}

func TestMake(t *testing.T) {
	root := tree.Enter(sample()[1], "n", 9)
	root.Version = 20
	turns(t, sample(), makeAct(9, 0, "n"), 20, with(sample(), root, api.Node{Fid: 9, Version: 20}))
	turns(t, sample(), dirAct(9, 0, "n"), 20, with(sample(), root, api.Node{Fid: 9, Dir: true, Version: 20}))

	deep := tree.Enter(sample()[5], "0", -9)
	deep.Version = -4
	turns(t, sample(), makeAct(-9, 4, "0"), -4, with(sample(), deep, api.Node{Fid: -9, Version: -4}))
	turns(t, sample(), dirAct(-9, 4, "0"), -4, with(sample(), deep, api.Node{Fid: -9, Dir: true, Version: -4}))
	turns(t, tree.New(), makeAct(math.MaxInt, 0, "a"), math.MinInt, []api.Node{
		{Fid: 0, Dir: true, Entries: []api.Entry{{Name: "a", Fid: math.MaxInt}}, Version: math.MinInt},
		{Fid: math.MaxInt, Version: math.MinInt},
	})
}

func TestMadeIsOfTheActsVersion(t *testing.T) {
	l, err := Apply(tree.New(), makeAct(1, 0, "a"), 4)
	n, there := tree.Find(l, 1)
	if err != api.OK || !there || n.Version != 4 || l[0].Version != 4 {
		t.Errorf("Apply = %+v, %d, want both of version 4", l, err)
	}
}

func TestMakeWhatANameLeadsToAlready(t *testing.T) {
	// The name gone leads to 77: as that is not there it may be made, under another name.
	l := done(t, sample(), makeAct(77, 2, "n"))
	if n, there := tree.Find(l, 77); !there || n.Dir {
		t.Errorf("77 is %+v, %v", n, there)
	}
}

func TestMakeRefuses(t *testing.T) {
	for _, kind := range []int{api.ActMake, api.ActDir} {
		for _, c := range []struct {
			fid, dir int
			name     string
			err      api.Errno
		}{
			{9, 77, "n", api.ErrAway}, // its name is there, itself it is not
			{9, 9, "n", api.ErrAway},
			{9, -1, "n", api.ErrAway},
			{9, 3, "n", api.ErrDir},
			{9, -2, "n", api.ErrDir},
			{9, 0, "d", api.ErrName},
			{9, 0, "gone", api.ErrName}, // taken, though it leads to what is not there
			{77, 0, "gone", api.ErrName},
			{9, 4, "x", api.ErrName},
			{9, 0, "", api.ErrName},
			{9, 0, "N", api.ErrName},
			{9, 0, "a/b", api.ErrName},
			{9, 0, "/", api.ErrName},
			{9, 0, "ä", api.ErrName},
			{9, 0, "\xff", api.ErrName},
			{9, 0, "..", api.ErrName},
			{9, 0, strings.Repeat("n", api.MaxName+1), api.ErrName},
			{3, 0, "n", api.ErrStale},
			{2, 1, "n", api.ErrStale},
			{-2, 0, "n", api.ErrStale},
			{1, 1, "n", api.ErrStale},
			{0, 0, "n", api.ErrStale},
			{0, 1, "n", api.ErrStale},
		} {
			refused(t, sample(), api.Act{Kind: kind, Fid: c.fid, Dir: c.dir, Name: c.name}, c.err)
		}
		full := strings.Repeat("n", api.MaxName)
		done(t, sample(), api.Act{Kind: kind, Fid: 9, Dir: 0, Name: full})
	}
}

func TestMakeWhereThereIsNoRoot(t *testing.T) {
	l := sample()[2:]
	for _, a := range []api.Act{makeAct(0, 1, "n"), dirAct(0, 1, "n")} {
		refused(t, l, a, api.ErrStale)
	}
	refused(t, l, makeAct(9, 0, "n"), api.ErrAway)
	done(t, l, makeAct(9, 1, "n"))
	for _, l := range [][]api.Node{nil, {}} {
		refused(t, l, makeAct(0, 0, "n"), api.ErrAway)
		refused(t, l, makeAct(9, 0, "n"), api.ErrAway)
		refused(t, l, dirAct(9, 9, "n"), api.ErrAway)
	}
}

func TestMakeIsToldTheFirstErrorInTurn(t *testing.T) {
	// A full tree, whose directory 1 is full, 2 has room, 3 is a file.
	l := crowd(api.MaxNodes)
	one := l[1]
	for i := range api.MaxEntries {
		one = tree.Enter(one, string(rune('a'+i)), 4+i)
	}
	l = with(l, one, api.Node{Fid: 2, Dir: true, Entries: []api.Entry{{Name: "a", Fid: 10}}})
	for _, kind := range []int{api.ActMake, api.ActDir} {
		for _, c := range []struct {
			fid, dir int
			name     string
			err      api.Errno
		}{
			{3, 99, "No name", api.ErrAway},
			{3, 3, "No name", api.ErrDir},
			{3, 1, "No name", api.ErrName},
			{3, 1, "a", api.ErrName},
			{3, 1, "z", api.ErrMany},
			{0, 1, "z", api.ErrMany},
			{3, 2, "a", api.ErrName},
			{3, 2, "z", api.ErrStale},
			{0, 2, "z", api.ErrStale},
			{99, 2, "z", api.ErrMany},
		} {
			refused(t, l, api.Act{Kind: kind, Fid: c.fid, Dir: c.dir, Name: c.name}, c.err)
		}
	}
}

func TestMakeAtTheLimitOfEntries(t *testing.T) {
	for _, act := range []func(fid, dir int, name string) api.Act{makeAct, dirAct} {
		for n := range api.MaxEntries {
			l := done(t, wide(n), act(99, 0, "z"))
			if len(l[0].Entries) != n+1 {
				t.Errorf("the root has %d entries, want %d", len(l[0].Entries), n+1)
			}
		}
		refused(t, wide(api.MaxEntries), act(99, 0, "z"), api.ErrMany)
		refused(t, wide(api.MaxEntries+1), act(99, 0, "z"), api.ErrMany)
	}
}

func TestMakeAtTheLimitOfNodes(t *testing.T) {
	for _, act := range []func(fid, dir int, name string) api.Act{makeAct, dirAct} {
		if l := done(t, crowd(api.MaxNodes-1), act(99, 0, "z")); len(l) != api.MaxNodes {
			t.Errorf("there are %d nodes, want %d", len(l), api.MaxNodes)
		}
		refused(t, crowd(api.MaxNodes), act(99, 0, "z"), api.ErrMany)
		refused(t, crowd(api.MaxNodes+1), act(99, 0, "z"), api.ErrMany)
	}
	// Other acts need no further node.
	full := crowd(api.MaxNodes)
	done(t, full, storeAct(2, "x"))
	done(t, full, renameAct(1, 0, "a", 0, "b"))
	done(t, full, removeAct(1, 0, "a"))
}

func TestStore(t *testing.T) {
	for _, data := range []string{"", "x", "\x00\xff", strings.Repeat("x", api.MaxData)} {
		turns(t, sample(), storeAct(3, data), 30, with(sample(), api.Node{Fid: 3, Data: []byte(data), Version: 30}))
		turns(t, sample(), storeAct(-2, data), -30, with(sample(), api.Node{Fid: -2, Data: []byte(data), Version: -30}))
	}
	turns(t, sample(), api.Act{Kind: api.ActStore, Fid: 5}, 30, with(sample(), api.Node{Fid: 5, Version: 30}))
	// What is the same is put anew, too.
	turns(t, sample(), storeAct(5, "five"), 30, with(sample(), api.Node{Fid: 5, Data: []byte("five"), Version: 30}))
}

func TestStoreRefuses(t *testing.T) {
	much := strings.Repeat("x", api.MaxData+1)
	for _, c := range []struct {
		fid  int
		data string
		err  api.Errno
	}{
		{77, "x", api.ErrAway},
		{-1, "", api.ErrAway},
		{77, much, api.ErrAway},
		{0, "x", api.ErrFile},
		{1, "x", api.ErrFile},
		{2, "", api.ErrFile},
		{2, much, api.ErrFile},
		{3, much, api.ErrMuch},
		{3, strings.Repeat("x", 1<<20), api.ErrMuch},
	} {
		refused(t, sample(), storeAct(c.fid, c.data), c.err)
	}
	refused(t, nil, storeAct(0, ""), api.ErrAway)
}

func TestRemove(t *testing.T) {
	root := tree.Leave(sample()[1], "f")
	root.Version = 30
	turns(t, sample(), removeAct(3, 0, "f"), 30, tree.Drop(with(sample(), root), 3))

	root = tree.Leave(sample()[1], "e")
	root.Version = 30
	turns(t, sample(), removeAct(2, 0, "e"), 30, tree.Drop(with(sample(), root), 2))

	turns(t, sample(), removeAct(-2, 1, "o"), -1, tree.Drop(with(sample(), api.Node{Fid: 1, Dir: true, Entries: []api.Entry{{Name: "s", Fid: 4}}, Version: -1}), -2))
	turns(t, sample(), removeAct(5, 4, "x"), 0, tree.Drop(with(sample(), api.Node{Fid: 4, Dir: true}), 5))
}

func TestRemoveRefuses(t *testing.T) {
	for _, c := range []struct {
		fid, dir int
		name     string
		err      api.Errno
	}{
		{3, 77, "f", api.ErrAway},
		{5, 3, "x", api.ErrDir},
		{3, 0, "n", api.ErrNone},
		{3, 0, "", api.ErrNone},
		{3, 0, "No name", api.ErrNone},
		{0, 0, "/", api.ErrNone},
		{3, 1, "f", api.ErrNone},
		{3, 0, "d", api.ErrStale},
		{2, 0, "f", api.ErrStale},
		{0, 0, "d", api.ErrStale},
		{99, 0, "f", api.ErrStale},
		{3, 0, "gone", api.ErrStale},
		{77, 0, "gone", api.ErrAway},
		{1, 0, "d", api.ErrEmpty},
		{4, 1, "s", api.ErrEmpty},
	} {
		refused(t, sample(), removeAct(c.fid, c.dir, c.name), c.err)
	}
	refused(t, nil, removeAct(0, 0, ""), api.ErrAway)
}

func TestRemoveFromTheGreatestDirectory(t *testing.T) {
	l := done(t, wide(api.MaxEntries), removeAct(10, 0, "a"))
	want(t, "the root's entries", len(l[0].Entries), api.MaxEntries-1)
	done(t, l, makeAct(10, 0, "a"))
}

func TestRename(t *testing.T) {
	// From one directory to another one.
	turns(t, sample(), renameAct(3, 0, "f", 4, "f"), 40, with(sample(),
		api.Node{Fid: 0, Dir: true, Entries: []api.Entry{{Name: "d", Fid: 1}, {Name: "e", Fid: 2}, {Name: "gone", Fid: 77}}, Version: 40},
		api.Node{Fid: 4, Dir: true, Entries: []api.Entry{{Name: "f", Fid: 3}, {Name: "x", Fid: 5}}, Version: 40}))
	// A directory, with what is in it, to one beside it, and to its own one's one.
	turns(t, sample(), renameAct(1, 0, "d", 2, "n"), 40, with(sample(),
		api.Node{Fid: 0, Dir: true, Entries: []api.Entry{{Name: "e", Fid: 2}, {Name: "f", Fid: 3}, {Name: "gone", Fid: 77}}, Version: 40},
		api.Node{Fid: 2, Dir: true, Entries: []api.Entry{{Name: "n", Fid: 1}}, Version: 40}))
	turns(t, sample(), renameAct(4, 1, "s", 0, "s"), -40, with(sample(),
		api.Node{Fid: 0, Dir: true, Entries: []api.Entry{{Name: "d", Fid: 1}, {Name: "e", Fid: 2}, {Name: "f", Fid: 3}, {Name: "gone", Fid: 77}, {Name: "s", Fid: 4}}, Version: -40},
		api.Node{Fid: 1, Dir: true, Entries: []api.Entry{{Name: "o", Fid: -2}}, Version: -40}))
}

func TestRenameInOneDirectory(t *testing.T) {
	turns(t, sample(), renameAct(3, 0, "f", 0, "a"), 40, with(sample(),
		api.Node{Fid: 0, Dir: true, Entries: []api.Entry{{Name: "a", Fid: 3}, {Name: "d", Fid: 1}, {Name: "e", Fid: 2}, {Name: "gone", Fid: 77}}, Version: 40}))
	// To what it is called: only the directory's version is another one.
	root := sample()[1]
	root.Version = 40
	turns(t, sample(), renameAct(3, 0, "f", 0, "f"), 40, with(sample(), root))
	turns(t, sample(), renameAct(1, 0, "d", 0, "d"), 40, with(sample(), root))
	refused(t, sample(), renameAct(3, 0, "f", 0, "d"), api.ErrName)
}

func TestRenameRefuses(t *testing.T) {
	for _, c := range []struct {
		a   api.Act
		err api.Errno
	}{
		{renameAct(3, 77, "f", 1, "n"), api.ErrAway},
		{renameAct(3, 3, "f", 1, "n"), api.ErrDir},
		{renameAct(3, 0, "n", 1, "n"), api.ErrNone},
		{renameAct(3, 0, "", 1, "n"), api.ErrNone},
		{renameAct(0, 0, "/", 1, "n"), api.ErrNone},
		{renameAct(3, 0, "d", 1, "n"), api.ErrStale},
		{renameAct(77, 0, "f", 1, "n"), api.ErrStale},
		{renameAct(3, 0, "f", 77, "n"), api.ErrAway},
		{renameAct(3, 0, "f", -2, "n"), api.ErrDir},
		{renameAct(3, 0, "f", 3, "n"), api.ErrDir},
		{renameAct(3, 0, "f", 1, "s"), api.ErrName},
		{renameAct(3, 0, "f", 1, ""), api.ErrName},
		{renameAct(3, 0, "f", 1, "N"), api.ErrName},
		{renameAct(3, 0, "f", 0, "F"), api.ErrName},
		{renameAct(3, 0, "f", 1, "a/b"), api.ErrName},
		{renameAct(3, 0, "f", 0, "gone"), api.ErrName},
		{renameAct(3, 0, "f", 1, strings.Repeat("n", api.MaxName+1)), api.ErrName},
		{renameAct(77, 0, "gone", 1, "n"), api.ErrAway},
		{renameAct(77, 0, "gone", 0, "gone"), api.ErrAway},
		{renameAct(1, 0, "d", 1, "n"), api.ErrLoop},
		{renameAct(1, 0, "d", 4, "n"), api.ErrLoop},
		{renameAct(4, 1, "s", 4, "n"), api.ErrLoop},
	} {
		refused(t, sample(), c.a, c.err)
	}
	refused(t, nil, renameAct(0, 0, "", 0, ""), api.ErrAway)
	done(t, sample(), renameAct(3, 0, "f", 1, strings.Repeat("n", api.MaxName)))
	done(t, sample(), renameAct(1, 0, "d", 2, "n"))
}

func TestRenameIsToldTheFirstErrorInTurn(t *testing.T) {
	// Directory 4, in 1, is full, and the root has a name that is none.
	four := sample()[5]
	for i := 1; i < api.MaxEntries; i++ {
		four = tree.Enter(four, string(rune('a'+i)), 100+i)
	}
	root := tree.Enter(sample()[1], "No name", 1)
	l := with(sample(), four, root)
	for _, c := range []struct {
		a   api.Act
		err api.Errno
	}{
		{renameAct(99, 99, "none", 3, "No name"), api.ErrAway},
		{renameAct(99, 3, "none", 99, "No name"), api.ErrDir},
		{renameAct(99, 0, "none", 99, "No name"), api.ErrNone},
		{renameAct(99, 0, "gone", 99, "No name"), api.ErrStale},
		{renameAct(99, 0, "d", 3, "No name"), api.ErrStale},
		{renameAct(77, 0, "gone", 3, "No name"), api.ErrDir},
		{renameAct(77, 0, "gone", 4, "No name"), api.ErrName},
		{renameAct(77, 0, "gone", 4, "x"), api.ErrName},
		{renameAct(77, 0, "gone", 4, "n"), api.ErrMany},
		{renameAct(1, 0, "d", 99, "No name"), api.ErrAway},
		{renameAct(1, 0, "d", 4, "No name"), api.ErrName},
		{renameAct(1, 0, "d", 4, "n"), api.ErrMany},
		{renameAct(4, 1, "s", 4, "x"), api.ErrName},
		{renameAct(1, 0, "d", 1, "n"), api.ErrLoop},
		{renameAct(1, 0, "No name", 1, "n"), api.ErrLoop},
		{renameAct(1, 0, "No name", 0, "No name"), api.ErrName}, // the old name need be none, the new one must be one
	} {
		refused(t, l, c.a, c.err)
	}
	done(t, l, renameAct(1, 0, "No name", 0, "n"))
}

func TestRenameAtTheLimitOfEntries(t *testing.T) {
	for n := 1; n <= api.MaxEntries+1; n++ {
		l := with(wide(n), api.Node{Fid: 1, Dir: true, Entries: []api.Entry{{Name: "m", Fid: 2}}}, api.Node{Fid: 2})
		if n < api.MaxEntries {
			done(t, l, renameAct(2, 1, "m", 0, "m"))
		} else {
			refused(t, l, renameAct(2, 1, "m", 0, "m"), api.ErrMany)
		}
		// In one directory, and out of it, there is room.
		done(t, l, renameAct(10, 0, "a", 1, "z"))
		if n <= api.MaxEntries {
			done(t, l, renameAct(10, 0, "a", 0, "z"))
			done(t, l, renameAct(10, 0, "a", 0, "a"))
		} else {
			refused(t, l, renameAct(10, 0, "a", 0, "z"), api.ErrMany)
		}
	}
}

func TestTheRootUnderAName(t *testing.T) {
	// Lists in which a name leads to the root are trees by the words; what is told of fids holds of the root's.
	l := []api.Node{{Fid: 0, Dir: true}, {Fid: 1, Dir: true, Entries: []api.Entry{{Name: "r", Fid: 0}}}}
	turns(t, l, removeAct(0, 1, "r"), 9, []api.Node{{Fid: 1, Dir: true, Version: 9}})
	turns(t, l, renameAct(0, 1, "r", 1, "s"), 9, []api.Node{{Fid: 0, Dir: true}, {Fid: 1, Dir: true, Entries: []api.Entry{{Name: "s", Fid: 0}}, Version: 9}})
	refused(t, l, renameAct(0, 1, "r", 0, "s"), api.ErrLoop)
}

func TestWhatIsInItself(t *testing.T) {
	l := []api.Node{{Fid: 0, Dir: true}, {Fid: 1, Dir: true, Entries: []api.Entry{{Name: "a", Fid: 1}}}}
	refused(t, l, removeAct(1, 1, "a"), api.ErrEmpty)
	refused(t, l, renameAct(1, 1, "a", 1, "b"), api.ErrLoop)
	turns(t, l, renameAct(1, 1, "a", 0, "b"), 9, []api.Node{{Fid: 0, Dir: true, Entries: []api.Entry{{Name: "b", Fid: 1}}, Version: 9}, {Fid: 1, Dir: true, Version: 9}})
}

func TestNodesWithFieldsOfTheOtherSort(t *testing.T) {
	// A file that has entries, a directory that has data: what an act does not speak of stays.
	l := []api.Node{
		{Fid: 0, Dir: true, Data: []byte("root"), Entries: []api.Entry{{Name: "f", Fid: 1}}},
		{Fid: 1, Entries: []api.Entry{{Name: "x", Fid: 9}}},
	}
	refused(t, l, removeAct(1, 0, "f"), api.ErrEmpty)
	refused(t, l, makeAct(2, 1, "n"), api.ErrDir)
	refused(t, l, removeAct(9, 1, "x"), api.ErrDir)
	turns(t, l, storeAct(1, "s"), 3, []api.Node{l[0], {Fid: 1, Data: []byte("s"), Entries: l[1].Entries, Version: 3}})
	turns(t, l, makeAct(2, 0, "n"), 3, []api.Node{
		{Fid: 0, Dir: true, Data: []byte("root"), Entries: []api.Entry{{Name: "f", Fid: 1}, {Name: "n", Fid: 2}}, Version: 3}, l[1], {Fid: 2, Version: 3},
	})
}

func TestKindsThatAreNone(t *testing.T) {
	for _, kind := range []int{math.MinInt, -1, 0, 6, 7, math.MaxInt} {
		for _, a := range []api.Act{
			{},
			makeAct(9, 0, "n"),
			storeAct(3, "x"),
			storeAct(77, strings.Repeat("x", api.MaxData+1)),
			removeAct(3, 0, "f"),
			renameAct(3, 0, "f", 1, "n"),
			renameAct(99, 99, "No name", 99, "No name"),
		} {
			a.Kind = kind
			refused(t, sample(), a, api.ErrKind)
			refused(t, nil, a, api.ErrKind)
		}
	}
}

func TestFieldsThatAKindHasNotMeanNothing(t *testing.T) {
	much := make([]byte, 2*api.MaxData)
	for _, a := range []api.Act{makeAct(9, 0, "n"), dirAct(9, 0, "n"), storeAct(3, "x"), removeAct(3, 0, "f"), renameAct(3, 0, "f", 1, "n")} {
		expect := done(t, sample(), a)
		for _, to := range []int{math.MinInt, 0, 3, 99} {
			for _, name := range []string{"", "d", "No name"} {
				b := a
				if b.Kind == api.ActStore {
					b.Dir, b.Name = to, name
				} else {
					b.Data = much
				}
				if b.Kind != api.ActRename {
					b.To, b.ToName = to, name
				}
				want(t, fmt.Sprintf("Apply(%+v)", b), done(t, sample(), b), expect)
			}
		}
	}
}

func TestMadeAndRemovedMovedAndBack(t *testing.T) {
	for _, pair := range [][]api.Act{
		{makeAct(9, 0, "n"), removeAct(9, 0, "n")},
		{dirAct(9, 4, "n"), removeAct(9, 4, "n")},
		{renameAct(3, 0, "f", 4, "n"), renameAct(3, 4, "n", 0, "f")},
		{renameAct(1, 0, "d", 2, "d"), renameAct(1, 2, "d", 0, "d")},
		{renameAct(1, 0, "d", 0, "z"), renameAct(1, 0, "z", 0, "d")},
		{storeAct(3, "other"), storeAct(3, "three")},
	} {
		l, n, err := All(sample(), pair, 60)
		if n != 2 || err != api.OK || !tree.Same(l, sample()) {
			t.Errorf("All(%+v) = %+v, %d, %d, want what was there", pair, l, n, err)
		}
	}
}

func TestAll(t *testing.T) {
	as := []api.Act{dirAct(1, 0, "d"), makeAct(2, 1, "f"), storeAct(2, "hi"), makeAct(3, 0, "g"), renameAct(2, 1, "f", 0, "h"), removeAct(3, 0, "g")}
	l, n, err := All(tree.New(), as, 5)
	want(t, "All", []any{l, n, err}, []any{[]api.Node{
		{Fid: 0, Dir: true, Entries: []api.Entry{{Name: "d", Fid: 1}, {Name: "h", Fid: 2}}, Version: 5},
		{Fid: 1, Dir: true, Version: 5},
		{Fid: 2, Data: []byte("hi"), Version: 5},
	}, 6, api.OK})
	// Only what is changed is of the version.
	l, n, err = All(sample(), []api.Act{storeAct(3, "x")}, 5)
	want(t, "All of one", []any{l, n, err}, []any{with(sample(), api.Node{Fid: 3, Data: []byte("x"), Version: 5}), 1, api.OK})
}

func TestAllOfNothing(t *testing.T) {
	for _, as := range [][]api.Act{nil, {}} {
		for _, l := range [][]api.Node{nil, {}, tree.New(), sample()} {
			got, n, err := All(l, as, 5)
			want(t, "All of no acts", []any{got, n, err}, []any{l, 0, api.OK})
		}
	}
}

func TestAllTellsTheFirstOnesNumber(t *testing.T) {
	good := []api.Act{dirAct(11, 0, "n"), makeAct(12, 11, "f"), storeAct(12, "hi"), renameAct(12, 11, "f", 2, "f")}
	for _, c := range []struct {
		a   api.Act
		err api.Errno
	}{
		{makeAct(99, 0, "d"), api.ErrName},
		{storeAct(99, "x"), api.ErrAway},
		{removeAct(1, 0, "d"), api.ErrEmpty},
		{renameAct(1, 0, "d", 4, "n"), api.ErrLoop},
		{api.Act{}, api.ErrKind},
	} {
		for at := range len(good) + 1 {
			as := slices.Insert(slices.Clone(good), at, c.a)
			as = append(as, api.Act{Kind: 99}) // a later one is not told
			l, n, err := All(sample(), as, 5)
			if len(l) != 0 || n != at || err != c.err {
				t.Errorf("All = %+v, %d, %d, want nothing, %d, %d", l, n, err, at, c.err)
			}
		}
	}
	l, n, err := All(nil, good, 5)
	want(t, "All of the empty tree", []any{len(l), n, err}, []any{0, 0, api.ErrAway})
}

func TestAllAtTheLimits(t *testing.T) {
	var flat, deep []api.Act
	for i := range 2 * api.MaxNodes {
		flat = append(flat, makeAct(i+1, 0, fmt.Sprint("n", i)))
		deep = append(deep, dirAct(i+1, i, "n"))
	}
	for _, c := range []struct {
		as    []api.Act
		limit int
	}{{flat, api.MaxEntries}, {deep, api.MaxNodes - 1}} {
		l, n, err := All(tree.New(), c.as[:c.limit], 5)
		want(t, "All at the limit", []any{len(l), n, err}, []any{c.limit + 1, c.limit, api.OK})
		l, n, err = All(tree.New(), c.as, 5)
		want(t, "All beyond the limit", []any{len(l), n, err}, []any{0, c.limit, api.ErrMany})
	}
}
