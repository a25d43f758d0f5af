package logs

import (
	"fmt"
	"math"
	"slices"
	"testing"

	"longabsence/acts"
	"longabsence/api"
)

func makeAct(fid, dir int, name string) api.Act {
	return api.Act{Kind: api.ActMake, Fid: fid, Dir: dir, Name: name}
}

func dirAct(fid, dir int, name string) api.Act {
	return api.Act{Kind: api.ActDir, Fid: fid, Dir: dir, Name: name}
}

func storeAct(fid int, data string) api.Act {
	return api.Act{Kind: api.ActStore, Fid: fid, Data: []byte(data)}
}

func removeAct(fid, dir int, name string) api.Act {
	return api.Act{Kind: api.ActRemove, Fid: fid, Dir: dir, Name: name}
}

func renameAct(fid, dir int, name string, to int, toName string) api.Act {
	return api.Act{Kind: api.ActRename, Fid: fid, Dir: dir, Name: name, To: to, ToName: toName}
}

// log is records of these acts, each with a version and a number of its own.
func log(as ...api.Act) []api.Rec {
	var l []api.Rec
	for i, a := range as {
		l = append(l, api.Rec{Act: a, Version: 70 - i, ID: i + 1})
	}
	return l
}

// stores is n records, each the store of another file, from 100 on.
func stores(n int) []api.Rec {
	var as []api.Act
	for i := range n {
		as = append(as, storeAct(100+i, "x"))
	}
	return log(as...)
}

// last is a record of that act, as none of log has it.
func last(a api.Act) api.Rec { return api.Rec{Act: a, Version: 300, ID: 400} }

// tell shows lists without entries alike, nil or not.
func tell(x ...any) string { return fmt.Sprintf("%+v", x) }

func want(t *testing.T, what string, got, want any) {
	t.Helper()
	if tell(got) != tell(want) {
		t.Errorf("%s = %+v, want %+v", what, got, want)
	}
}

// adds: of l with the act the records with these places in l are left, and then come those of more.
func adds(t *testing.T, l []api.Rec, a api.Act, left []int, more ...api.Rec) {
	t.Helper()
	var expect []api.Rec
	for _, i := range left {
		expect = append(expect, l[i])
	}
	got, err := Add(l, last(a))
	if err != api.OK {
		t.Errorf("Add(%+v, %+v) tells %d, want OK", l, a, err)
	}
	want(t, fmt.Sprintf("Add(%+v, %+v)", l, a), got, append(expect, more...))
}

// undone: the remove isn't logged, and of l those records are left.
func undone(t *testing.T, l []api.Rec, a api.Act, left ...int) {
	t.Helper()
	adds(t, l, a, left)
}

// behind: all of l stays, and the act comes behind.
func behind(t *testing.T, l []api.Rec, a api.Act) {
	t.Helper()
	var all []int
	for i := range l {
		all = append(all, i)
	}
	adds(t, l, a, all, last(a))
}

func full(t *testing.T, l []api.Rec, a api.Act) {
	t.Helper()
	got, err := Add(l, last(a))
	if err != api.ErrMany || len(got) != 0 {
		t.Errorf("Add(%d records, %+v) = %+v, %d, want nothing, ErrMany", len(l), a, got, err)
	}
}

func TestRecordsComeBehind(t *testing.T) {
	l := log(makeAct(-1, 0, "a"), storeAct(3, "x"), dirAct(-2, 0, "b"))
	for _, a := range []api.Act{
		makeAct(-3, 0, "c"), dirAct(-3, -2, "c"), storeAct(4, "y"), storeAct(-1, ""), removeAct(3, 0, "f"), renameAct(-1, 0, "a", -2, "d"),
		makeAct(-1, 0, "a"), {}, {Kind: -1, Fid: -1}, {Kind: 6, Fid: -1, Name: "a"}, {Kind: math.MaxInt, Fid: math.MinInt, Data: []byte("z")},
	} {
		behind(t, l, a)
		behind(t, nil, a)
		behind(t, []api.Rec{}, a)
	}
}

func TestMadeAndRemoved(t *testing.T) {
	remove := removeAct(-1, 0, "a")
	undone(t, log(makeAct(-1, 0, "a")), remove)
	undone(t, log(dirAct(-1, 0, "a")), remove)
	undone(t, log(makeAct(-1, 4, "a")), removeAct(-1, 4, "a"))
	undone(t, log(makeAct(9, 0, "a")), removeAct(9, 0, "a"))
	undone(t, log(makeAct(-1, 0, "")), removeAct(-1, 0, ""))
	undone(t, log(makeAct(-1, 0, "a"), storeAct(-1, "x")), remove)
	undone(t, log(makeAct(-1, 0, "a"), storeAct(-1, "x"), storeAct(5, "y"), storeAct(-1, "z")), remove, 2)
	undone(t, log(storeAct(5, "y"), makeAct(-2, 0, "b"), makeAct(-1, 0, "a"), renameAct(-2, 0, "b", 4, "a")), remove, 0, 1, 3)
	undone(t, log(dirAct(-1, 0, "d"), makeAct(-2, -1, "f")), removeAct(-2, -1, "f"), 0)
}

func TestFidsThatAreTheRemovesDirectory(t *testing.T) {
	undone(t, log(makeAct(-1, -1, "a"), storeAct(3, "")), removeAct(-1, -1, "a"), 1)
	behind(t, log(makeAct(-1, -1, "a"), makeAct(-2, -1, "b")), removeAct(-1, -1, "a"))
	undone(t, log(dirAct(0, 0, "a"), storeAct(5, "x")), removeAct(0, 0, "a"), 1)
}

func TestNotMadeHere(t *testing.T) {
	for _, l := range [][]api.Rec{
		nil,
		log(storeAct(-1, "x")),
		log(makeAct(-2, 0, "a")),
		log(makeAct(-1, 3, "a")),
		log(makeAct(-1, 0, "b")),
		log(makeAct(-1, 0, "a1")),
		log(makeAct(-1, 0, "A")),
		log(renameAct(-1, 3, "a", 0, "a")),
		log(removeAct(-1, 0, "a")),
		log(api.Act{Kind: 0, Fid: -1, Dir: 0, Name: "a"}),
		log(api.Act{Kind: 6, Fid: -1, Dir: 0, Name: "a"}),
		log(api.Act{Kind: api.ActStore, Fid: -1, Dir: 0, Name: "a"}),
		log(api.Act{Kind: api.ActMake, Fid: -2, Dir: -1, Name: "a", To: -1, ToName: "a"}),
	} {
		behind(t, l, removeAct(-1, 0, "a"))
	}
}

func TestTheFirstMakingCounts(t *testing.T) {
	remove := removeAct(-1, 0, "a")
	behind(t, log(makeAct(-1, 0, "b"), makeAct(-1, 0, "a")), remove)
	behind(t, log(makeAct(-1, 3, "a"), dirAct(-1, 0, "a")), remove)
	behind(t, log(makeAct(-1, 0, "a"), makeAct(-1, 0, "b")), remove)
	behind(t, log(makeAct(-1, 0, "a"), dirAct(-1, 3, "b")), remove)
	behind(t, log(dirAct(-1, 0, "a"), dirAct(-1, 0, "a")), remove)
}

func TestWhatNamesItBehind(t *testing.T) {
	remove := removeAct(-1, 0, "a")
	for _, a := range []api.Act{
		makeAct(-1, 3, "b"), dirAct(-1, 3, "b"), removeAct(-1, 3, "b"), renameAct(-1, 3, "b", 4, "c"),
		makeAct(-2, -1, "b"), dirAct(-2, -1, "b"), removeAct(7, -1, "b"), renameAct(7, -1, "b", 4, "c"),
		renameAct(7, 3, "b", -1, "c"), {Kind: 9, Fid: -1, Dir: 3}, {Kind: 9, Fid: 7, Dir: -1},
	} {
		behind(t, log(makeAct(-1, 0, "a"), a), remove)
		behind(t, log(dirAct(-1, 0, "a"), storeAct(3, ""), a, storeAct(4, "")), remove)
		// Ahead of the making it hinders nothing, and goes too; but not if it is itself the first one that makes it.
		if ahead := log(storeAct(3, ""), a, storeAct(-1, "x"), makeAct(-1, 0, "a"), storeAct(4, "")); acts.Makes(a) && a.Fid == -1 {
			behind(t, ahead, remove)
		} else {
			undone(t, ahead, remove, 0, 4)
		}
	}
}

func TestFieldsThatAKindHasNot(t *testing.T) {
	remove := removeAct(-1, 0, "a")
	for _, a := range []api.Act{
		{Kind: api.ActMake, Fid: -2, Dir: 3, Name: "b", To: -1, ToName: "a"},
		{Kind: api.ActMake, Fid: -2, Dir: 3, Name: "b", To: 0, ToName: "a"},
		{Kind: api.ActDir, Fid: -2, Dir: 3, Name: "b", To: 0, ToName: "a"},
		{Kind: api.ActRemove, Fid: 7, Dir: 3, Name: "b", To: 0, ToName: "a"},
		{Kind: api.ActStore, Fid: 7, Dir: -1, Name: "b", To: -1, ToName: "b"},
		{Kind: api.ActStore, Fid: 7, Dir: 0, Name: "a", To: 0, ToName: "a"},
		{Kind: 0, Fid: 7, Dir: 0, Name: "a", To: 0, ToName: "a"},
		{Kind: 6, Fid: 7, Dir: 0, Name: "a", To: -1, ToName: "a"},
	} {
		undone(t, log(makeAct(-1, 0, "a"), a), remove, 1)
	}
	undone(t, log(makeAct(-1, 0, "a"), api.Act{Kind: api.ActStore, Fid: -1, Dir: 0, Name: "a"}), remove)
	undone(t, log(api.Act{Kind: api.ActMake, Fid: -1, Name: "a", To: 5, ToName: "b", Data: []byte("x")}), remove)
	undone(t, log(makeAct(-1, 0, "a")), api.Act{Kind: api.ActRemove, Fid: -1, Name: "a", To: 5, ToName: "b", Data: []byte("x")})
}

func TestWhatDoesSomethingToThatNameBehind(t *testing.T) {
	remove := removeAct(-1, 0, "a")
	for _, a := range []api.Act{
		makeAct(-2, 0, "a"), dirAct(-2, 0, "a"), removeAct(7, 0, "a"), renameAct(7, 0, "a", 3, "b"), renameAct(7, 3, "b", 0, "a"), renameAct(7, 0, "a", 0, "a"),
	} {
		behind(t, log(makeAct(-1, 0, "a"), a), remove)
		behind(t, log(dirAct(-1, 0, "a"), a, storeAct(-1, "x")), remove)
		undone(t, log(a, dirAct(-1, 0, "a")), remove, 0)
	}
	for _, a := range []api.Act{
		makeAct(-2, 0, "b"), dirAct(-2, 3, "a"), removeAct(7, 0, "b"), removeAct(7, 3, "a"),
		renameAct(7, 0, "b", 3, "a"), renameAct(7, 3, "a", 0, "b"), renameAct(7, 3, "a", 3, "a"), renameAct(7, 0, "b", 0, "b"),
	} {
		undone(t, log(makeAct(-1, 0, "a"), a), remove, 1)
	}
}

func TestAllThatNamesItGoes(t *testing.T) {
	l := log(storeAct(-1, "x"), removeAct(-1, 3, "q"), makeAct(7, -1, "b"), renameAct(7, 3, "q", -1, "b"), renameAct(8, 3, "q", 4, "b"), makeAct(-1, 0, "a"), storeAct(-1, "y"), storeAct(-2, "z"))
	undone(t, l, removeAct(-1, 0, "a"), 4, 7)
}

func TestMovedAndBackStays(t *testing.T) {
	behind(t, log(makeAct(-1, 0, "a"), renameAct(-1, 0, "a", 0, "b")), removeAct(-1, 0, "b"))
	behind(t, log(makeAct(-1, 0, "a"), renameAct(-1, 0, "a", 0, "b"), renameAct(-1, 0, "b", 0, "a")), removeAct(-1, 0, "a"))
}

func TestStoresOverStores(t *testing.T) {
	l := log(makeAct(-1, 0, "a"), storeAct(-1, "x"), storeAct(5, "y"), storeAct(-1, "z"))
	adds(t, l, storeAct(-1, "w"), []int{0, 2}, last(storeAct(-1, "w")))
	adds(t, l, storeAct(5, ""), []int{0, 1, 3}, last(storeAct(5, "")))
	adds(t, l, storeAct(6, "w"), []int{0, 1, 2, 3}, last(storeAct(6, "w")))
	l = log(storeAct(5, "y"), removeAct(5, 0, "f"), makeAct(5, 0, "f"), renameAct(5, 0, "f", 0, "g"), api.Act{Kind: 9, Fid: 5}, api.Act{Kind: api.ActStore, Fid: 6, Dir: 5, To: 5})
	adds(t, l, storeAct(5, "y"), []int{1, 2, 3, 4, 5}, last(storeAct(5, "y")))
	a := api.Act{Kind: api.ActStore, Fid: 6, Dir: 8, Name: "n", To: 9, ToName: "m"}
	adds(t, l, a, []int{0, 1, 2, 3, 4}, last(a))
}

func TestOnlyStoresGoForStores(t *testing.T) {
	l := log(storeAct(5, "y"))
	for _, a := range []api.Act{makeAct(5, 0, "a"), dirAct(5, 0, "a"), removeAct(5, 0, "a"), renameAct(5, 0, "a", 0, "b"), {Kind: 9, Fid: 5}} {
		behind(t, l, a)
	}
}

func TestRecordsStayAsTheyAre(t *testing.T) {
	r := api.Rec{Act: api.Act{Kind: api.ActStore, Fid: 1, Dir: 2, Name: "n", To: 3, ToName: "m", Data: []byte("d")}, Version: -4, ID: -5}
	l, err := Add(nil, r)
	want(t, "the log", tell(l, err), tell([]api.Rec{r}, api.OK))
	two := api.Rec{Act: storeAct(7, "x"), Version: math.MaxInt, ID: math.MinInt}
	l, err = Add(l, two)
	want(t, "the log", tell(l, err), tell([]api.Rec{r, two}, api.OK))
}

func TestTheLimit(t *testing.T) {
	behind(t, stores(api.MaxLog-1), makeAct(-1, 0, "a"))
	behind(t, stores(api.MaxLog-1), storeAct(1, "x"))
	for _, n := range []int{api.MaxLog, api.MaxLog + 1, 2 * api.MaxLog} {
		for _, a := range []api.Act{makeAct(-1, 0, "a"), dirAct(-1, 0, "a"), storeAct(1, "x"), removeAct(7, 0, "a"), renameAct(7, 0, "a", 0, "b"), {}, {Kind: 9}} {
			full(t, stores(n), a)
		}
	}
}

func TestAStoreMakesRoom(t *testing.T) {
	a := storeAct(100, "y")
	all := []int{1, 2, 3, 4, 5, 6, 7, 8, 9, 10, 11, 12, 13, 14, 15, 16, 17, 18, 19}
	adds(t, stores(api.MaxLog), a, all, last(a))
	full(t, stores(api.MaxLog+1), a)
	adds(t, slices.Concat(stores(api.MaxLog), stores(1)), a, all, last(a))
	full(t, slices.Concat(stores(api.MaxLog), stores(2)), a)
}

func TestARemoveThatUndoesNeedsNoRoom(t *testing.T) {
	for _, n := range []int{api.MaxLog - 1, api.MaxLog, 3 * api.MaxLog} {
		l := append(stores(n), log(makeAct(-1, 0, "a"))...)
		var all []int
		for i := range n {
			all = append(all, i)
		}
		undone(t, l, removeAct(-1, 0, "a"), all...)
		full(t, l, removeAct(-1, 0, "b"))
	}
}

func TestTurn(t *testing.T) {
	a := api.Act{Kind: api.ActRename, Fid: 1, Dir: 2, Name: "n", To: 3, ToName: "m", Data: []byte("d")}
	turn := func(from, to, fid, dir, in int) {
		t.Helper()
		b := a
		b.Fid, b.Dir, b.To = fid, dir, in
		want(t, fmt.Sprintf("Turn(%+v, %d, %d)", a, from, to), Turn(a, from, to), b)
	}
	for _, kind := range []int{-1, 0, 1, 2, 3, 4, 5, 6, 99} {
		a.Kind, a.Fid, a.Dir, a.To = kind, 1, 2, 3
		turn(1, 8, 8, 2, 3)
		turn(2, 8, 1, 8, 3)
		turn(3, 8, 1, 2, 8)
		turn(4, 8, 1, 2, 3)
		turn(1, 2, 2, 2, 3)
		turn(2, 3, 1, 3, 3)
		turn(3, 3, 1, 2, 3)
		a.Fid, a.Dir, a.To = 0, 0, 0
		turn(0, -1, -1, -1, -1)
		turn(5, 0, 0, 0, 0)
		a.Fid, a.Dir, a.To = math.MinInt, math.MaxInt, math.MinInt
		turn(math.MinInt, math.MaxInt, math.MaxInt, math.MaxInt, math.MaxInt)
	}
	want(t, "Turn of nothing", Turn(api.Act{}, 1, 2), api.Act{})
}

func TestRename(t *testing.T) {
	l := []api.Rec{{Act: renameAct(-1, -1, "a", -1, "b"), Version: -1, ID: -1}, {Act: storeAct(2, "x"), Version: 7, ID: 2}, {Act: makeAct(-2, -1, "c")}}
	want(t, "Rename", Rename(l, -1, 8), []api.Rec{{Act: renameAct(8, 8, "a", 8, "b"), Version: -1, ID: -1}, l[1], {Act: makeAct(-2, 8, "c")}})
	want(t, "Rename", Rename(l, 2, -1), []api.Rec{l[0], {Act: storeAct(-1, "x"), Version: 7, ID: 2}, l[2]})
	want(t, "Rename", Rename(l, 5, 6), l)
	want(t, "Rename", Rename(l, -2, -1), []api.Rec{l[0], l[1], {Act: makeAct(-1, -1, "c")}})
	want(t, "Rename of nothing", Rename(nil, 1, 2), []api.Rec(nil))
	want(t, "Rename of more than MaxLog", len(Rename(stores(50), 1, 2)), 50)
}

func TestOwnAndActs(t *testing.T) {
	l := []api.Rec{{Act: api.Act{Kind: 77, Fid: 1, Dir: 2, Name: "n", To: 3, ToName: "m", Data: []byte("d")}, Version: -4, ID: -5}, {Act: storeAct(2, "x"), Version: 7, ID: 2}, {Act: storeAct(2, "y")}}
	want(t, "Own", Own(l), l)
	want(t, "Acts", Acts(l), []api.Act{l[0].Act, l[1].Act, l[2].Act})
	want(t, "Own of nothing", Own(nil), []api.Rec(nil))
	want(t, "Acts of nothing", Acts(nil), []api.Act(nil))
	want(t, "Own of more than MaxLog", Own(stores(50)), stores(50))
	want(t, "Acts of more than MaxLog", len(Acts(stores(50))), 50)
}
