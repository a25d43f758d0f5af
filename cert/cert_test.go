package cert

import (
	"fmt"
	"math"
	"slices"
	"testing"

	"longabsence/acts"
	"longabsence/api"
	"longabsence/tree"
)

func makeAct(fid, dir int, name string) api.Act {
	return api.Act{Kind: api.ActMake, Fid: fid, Dir: dir, Name: name}
}

func dirAct(fid, dir int, name string) api.Act {
	return api.Act{Kind: api.ActDir, Fid: fid, Dir: dir, Name: name}
}

func storeAct(fid int, data string) api.Act {
	return api.Act{Kind: api.ActStore, Fid: fid, Data: []byte(data)}
}

func removeAct(fid, dir int, name string) api.Act {
	return api.Act{Kind: api.ActRemove, Fid: fid, Dir: dir, Name: name}
}

func renameAct(fid, dir int, name string, to int, toName string) api.Act {
	return api.Act{Kind: api.ActRename, Fid: fid, Dir: dir, Name: name, To: to, ToName: toName}
}

// own are records of what the log itself made, or of what needs no version.
func own(as ...api.Act) []api.Rec {
	var l []api.Rec
	for i, a := range as {
		l = append(l, api.Rec{Act: a, Version: -1, ID: i + 1})
	}
	return l
}

// seen is a record whose maker saw that version.
func seen(version int, a api.Act) api.Rec { return api.Rec{Act: a, Version: version, ID: 77} }

// given is /d (1) with /d/g (3), and /f (2); each node is of another version.
func given() []api.Node {
	return []api.Node{
		{Fid: 0, Dir: true, Entries: []api.Entry{{Name: "d", Fid: 1}, {Name: "f", Fid: 2}}, Version: 5},
		{Fid: 1, Dir: true, Entries: []api.Entry{{Name: "g", Fid: 3}}, Version: 4},
		{Fid: 2, Data: []byte("two"), Version: 2},
		{Fid: 3, Version: 3},
	}
}

// tell shows lists without entries alike, nil or not.
func tell(x ...any) string { return fmt.Sprintf("%+v", x) }

func want(t *testing.T, what string, got, want any) {
	t.Helper()
	if tell(got) != tell(want) {
		t.Errorf("%s = %+v, want %+v", what, got, want)
	}
}

func done(fid int) api.Verdict { return api.Verdict{Fid: fid} }

func refused(err api.Errno) api.Verdict { return api.Verdict{Err: err} }

// judged holds Judge of the given tree, whose next fid is 10 and whose version 6, against verdicts and acts; the tree must be what Apply makes of these, each of one version more.
func judged(t *testing.T, log []api.Rec, verdicts []api.Verdict, here ...api.Act) {
	t.Helper()
	l, next := given(), 10
	for i, a := range here {
		var err api.Errno
		if l, err = acts.Apply(l, a, 6+i); err != api.OK {
			t.Fatalf("%+v can't be done: %d", a, err)
		}
		if a.Kind == 1 || a.Kind == 2 {
			next++
		}
	}
	vs, as, m, n := Judge(given(), 10, 6, log)
	what := fmt.Sprintf("Judge of %+v: ", log)
	want(t, what+"verdicts", vs, verdicts)
	want(t, what+"acts", as, here)
	want(t, what+"tree", m, l)
	want(t, what+"next", n, next)
}

func TestNoRecords(t *testing.T) {
	judged(t, nil, nil)
	judged(t, []api.Rec{}, nil)
	for _, next := range []int{math.MinInt, -1, 0, math.MaxInt} {
		vs, as, l, n := Judge(nil, next, next, nil)
		want(t, "Judge of nothing", tell(vs, as, l, n), tell([]api.Verdict{}, []api.Act{}, []api.Node{}, next))
	}
}

func TestEachKind(t *testing.T) {
	judged(t, own(makeAct(-1, 0, "n")), []api.Verdict{done(10)}, makeAct(10, 0, "n"))
	judged(t, own(dirAct(-1, 1, "n")), []api.Verdict{done(10)}, dirAct(10, 1, "n"))
	judged(t, own(storeAct(2, "new")), []api.Verdict{done(2)}, storeAct(2, "new"))
	judged(t, own(removeAct(3, 1, "g")), []api.Verdict{done(3)}, removeAct(3, 1, "g"))
	judged(t, own(renameAct(2, 0, "f", 1, "h")), []api.Verdict{done(2)}, renameAct(2, 0, "f", 1, "h"))
	for _, kind := range []int{math.MinInt, -1, 0, 6, 7, math.MaxInt} {
		judged(t, own(api.Act{Kind: kind, Fid: 2, Name: "f"}), []api.Verdict{refused(api.ErrKind)})
		judged(t, own(api.Act{Kind: kind, Fid: -1, Name: "n"}), []api.Verdict{refused(api.ErrKind)})
	}
}

// TestTheTreeItself says a whole answer out, versions and all.
func TestTheTreeItself(t *testing.T) {
	log := append(own(makeAct(-1, 0, "n"), storeAct(-1, "n"), renameAct(-1, 0, "n", 1, "m")), seen(3, removeAct(3, 1, "g")), seen(9, storeAct(2, "")), seen(2, storeAct(2, "")))
	vs, as, l, next := Judge(given(), 10, 6, log)
	want(t, "verdicts", vs, []api.Verdict{done(10), done(10), done(10), done(3), refused(api.ErrStale), refused(api.ErrRests)})
	want(t, "acts", as, []api.Act{makeAct(10, 0, "n"), storeAct(10, "n"), renameAct(10, 0, "n", 1, "m"), removeAct(3, 1, "g")})
	want(t, "tree", l, []api.Node{
		{Fid: 0, Dir: true, Entries: []api.Entry{{Name: "d", Fid: 1}, {Name: "f", Fid: 2}}, Version: 8},
		{Fid: 1, Dir: true, Entries: []api.Entry{{Name: "m", Fid: 10}}, Version: 9},
		{Fid: 2, Data: []byte("two"), Version: 2},
		{Fid: 10, Data: []byte("n"), Version: 7},
	})
	want(t, "next", next, 11)
}

// resting are acts of each kind that name the fid in one place.
func resting(fid int) []api.Act {
	return []api.Act{
		makeAct(fid, 0, "x"), dirAct(fid, 0, "x"), storeAct(fid, "x"), removeAct(fid, 1, "g"), renameAct(fid, 1, "g", 0, "x"), {Kind: 9, Fid: fid, Dir: 1},
		makeAct(-5, fid, "x"), dirAct(-5, fid, "x"), removeAct(3, fid, "g"), renameAct(3, fid, "g", 0, "x"), {Kind: 9, Fid: 3, Dir: fid},
		renameAct(3, 1, "g", fid, "x"),
	}
}

func TestRests(t *testing.T) {
	for _, first := range []api.Rec{
		seen(-1, makeAct(-1, 0, "f")), seen(-1, dirAct(-1, 7, "x")), seen(1, storeAct(2, "x")), seen(1, removeAct(2, 0, "f")),
		seen(0, renameAct(2, 0, "no", 1, "x")), seen(0, api.Act{Kind: 9, Fid: 2, Dir: 3}), seen(0, makeAct(2, 0, "x")),
	} {
		_, err := judgeOne(first)
		if err == api.OK {
			t.Fatalf("%+v is not refused", first)
		}
		for _, a := range resting(first.Act.Fid) {
			for _, version := range []int{-1, 2, 99} {
				judged(t, []api.Rec{first, seen(version, a)}, []api.Verdict{refused(err), refused(api.ErrRests)})
			}
		}
	}
}

func judgeOne(r api.Rec) (int, api.Errno) {
	vs, _, _, _ := Judge(given(), 10, 6, []api.Rec{r})
	return vs[0].Fid, vs[0].Err
}

// TestWhatRestsIsRestedOn: what is refused for resting is refused as any other.
func TestWhatRestsIsRestedOn(t *testing.T) {
	log := own(dirAct(-1, 0, "f"), dirAct(-2, -1, "a"), makeAct(-3, -2, "b"), storeAct(-3, "c"), renameAct(2, 0, "f", -2, "x"), storeAct(2, "y"), makeAct(-4, 0, "n"))
	rests := refused(api.ErrRests)
	judged(t, log, []api.Verdict{refused(api.ErrName), rests, rests, rests, rests, rests, done(10)}, makeAct(10, 0, "n"))
	// The root is rested on as any other.
	judged(t, own(storeAct(0, "x"), makeAct(-1, 0, "n"), storeAct(2, "x")), []api.Verdict{refused(api.ErrFile), refused(api.ErrRests), done(2)}, storeAct(2, "x"))
}

// TestWhatRestsOnNothing: of a record that was refused only its Fid counts, and of one behind it only what its kind has.
func TestWhatRestsOnNothing(t *testing.T) {
	first := renameAct(2, 1, "no", 0, "x")
	judged(t, own(first, storeAct(3, "x")), []api.Verdict{refused(api.ErrNone), done(3)}, storeAct(3, "x"))
	judged(t, own(first, makeAct(-1, 1, "x")), []api.Verdict{refused(api.ErrNone), done(10)}, makeAct(10, 1, "x"))
	judged(t, own(first, makeAct(-1, 0, "x")), []api.Verdict{refused(api.ErrNone), done(10)}, makeAct(10, 0, "x"))
	store, remove := storeAct(3, "x"), removeAct(3, 1, "g")
	store.Dir, store.To, remove.To = 2, 2, 2
	judged(t, own(first, store), []api.Verdict{refused(api.ErrNone), done(3)}, store)
	judged(t, own(first, remove), []api.Verdict{refused(api.ErrNone), done(3)}, remove)
	// What is refused behind a record is nothing to it.
	judged(t, own(storeAct(2, "x"), first, storeAct(2, "y")), []api.Verdict{done(2), refused(api.ErrNone), refused(api.ErrRests)}, storeAct(2, "x"))
	judged(t, own(first, storeAct(10, "x"), makeAct(-1, 0, "n")), []api.Verdict{refused(api.ErrNone), refused(api.ErrAway), done(10)}, makeAct(10, 0, "n"))
}

// TestRestsByTheFidsOfTheLog: a record rests by the fids that are written in the log, not by those here.
func TestRestsByTheFidsOfTheLog(t *testing.T) {
	log := own(makeAct(-1, 0, "n"), removeAct(-1, 0, "x"), storeAct(10, "ten"), storeAct(-1, "x"))
	judged(t, log, []api.Verdict{done(10), refused(api.ErrNone), done(10), refused(api.ErrRests)}, makeAct(10, 0, "n"), storeAct(10, "ten"))
	log = own(storeAct(10, "x"), makeAct(-1, 0, "n"), storeAct(-1, "y"))
	judged(t, log, []api.Verdict{refused(api.ErrAway), done(10), done(10)}, makeAct(10, 0, "n"), storeAct(10, "y"))
}

func TestFidsThatMayNotBeMade(t *testing.T) {
	for _, fid := range []int{0, 1, 2, 9, 10, math.MaxInt} {
		judged(t, own(makeAct(fid, 0, "n")), []api.Verdict{refused(api.ErrForm)})
		judged(t, own(dirAct(fid, 0, "n")), []api.Verdict{refused(api.ErrForm)})
	}
	for _, fid := range []int{-1, -9, math.MinInt} {
		judged(t, own(makeAct(fid, 0, "n")), []api.Verdict{done(10)}, makeAct(10, 0, "n"))
	}
	for _, a := range []api.Act{makeAct(-1, 0, "n"), dirAct(-1, 0, "n")} {
		here := a
		here.Fid = 10
		for _, b := range []api.Act{makeAct(-1, 0, "m"), dirAct(-1, 1, "m"), makeAct(-1, 0, "n")} {
			judged(t, own(a, b), []api.Verdict{done(10), refused(api.ErrForm)}, here)
		}
	}
	// That it is gone meanwhile is nothing to it: it was made.
	judged(t, own(makeAct(-1, 0, "n"), removeAct(-1, 0, "n"), makeAct(-1, 0, "n")), []api.Verdict{done(10), done(10), refused(api.ErrForm)}, makeAct(10, 0, "n"), removeAct(10, 0, "n"))
	// One ahead that was refused did not make it, but is rested on.
	judged(t, own(makeAct(-1, 0, "f"), makeAct(-1, 0, "n")), []api.Verdict{refused(api.ErrName), refused(api.ErrRests)})
	// What was made, and was to be made once more, is refused from then on.
	judged(t, own(makeAct(-1, 0, "n"), makeAct(-1, 0, "m"), storeAct(-1, "x")), []api.Verdict{done(10), refused(api.ErrForm), refused(api.ErrRests)}, makeAct(10, 0, "n"))
	// Other kinds may have any fid.
	judged(t, own(storeAct(-1, "x"), removeAct(-2, 0, "f")), []api.Verdict{refused(api.ErrAway), refused(api.ErrStale)})
}

func TestFidsHere(t *testing.T) {
	log := own(dirAct(-1, 0, "a"), dirAct(-7, -1, "b"), makeAct(-3, -7, "c"), storeAct(-3, "x"), renameAct(-3, -7, "c", -1, "d"), renameAct(-7, -1, "b", 0, "e"), removeAct(-3, -1, "d"), renameAct(2, 0, "f", -1, "f"))
	judged(t, log, []api.Verdict{done(10), done(11), done(12), done(12), done(12), done(11), done(12), done(2)},
		dirAct(10, 0, "a"), dirAct(11, 10, "b"), makeAct(12, 11, "c"), storeAct(12, "x"), renameAct(12, 11, "c", 10, "d"), renameAct(11, 10, "b", 0, "e"), removeAct(12, 10, "d"), renameAct(2, 0, "f", 10, "f"))
}

// TestFieldsThatStay: Dir of a store is here too; To but of a rename, and all else, is as it was written.
func TestFieldsThatStay(t *testing.T) {
	fill := func(a api.Act) api.Act {
		a.Dir, a.To, a.ToName = -1, -1, "/wrong/"
		if a.Kind == api.ActStore {
			a.Name = "UPPER"
		} else {
			a.Data = []byte("more than twenty bytes are in this")
		}
		return a
	}
	here := func(a api.Act, fid int) api.Act {
		a.Fid, a.Dir = fid, 10
		return a
	}
	file, store, dir, remove := fill(makeAct(-2, 0, "b")), fill(storeAct(2, "x")), fill(dirAct(-3, 0, "c")), fill(removeAct(-2, 0, "b"))
	judged(t, own(dirAct(-1, 0, "a"), file, store, dir, remove), []api.Verdict{done(10), done(11), done(2), done(12), done(11)},
		dirAct(10, 0, "a"), here(file, 11), here(store, 2), here(dir, 12), here(remove, 11))

	// What was not made stays, here as Dir of a store; so does what was refused.
	store = storeAct(2, "x")
	store.Dir = -4
	judged(t, own(store), []api.Verdict{done(2)}, store)
	judged(t, own(makeAct(-4, 0, "f"), store), []api.Verdict{refused(api.ErrName), done(2)}, store)
	rename := renameAct(2, 0, "f", 0, "h")
	rename.Data = []byte("rename")
	judged(t, own(rename), []api.Verdict{done(2)}, rename)
}

// TestItsOwnFidAsDir: that is the next fid here, which is not there as yet, or, in a tree that has it, is.
func TestItsOwnFidAsDir(t *testing.T) {
	judged(t, own(dirAct(-1, -1, "a")), []api.Verdict{refused(api.ErrAway)})
	judged(t, own(makeAct(-1, -1, "a"), makeAct(-2, 0, "b")), []api.Verdict{refused(api.ErrAway), done(10)}, makeAct(10, 0, "b"))
	for next, err := range []api.Errno{api.ErrStale, api.ErrStale, api.ErrDir, api.ErrDir, api.ErrAway} {
		vs, _, _, n := Judge(given(), next, 6, own(dirAct(-1, -1, "a")))
		want(t, fmt.Sprintf("its own fid, %d, as Dir", next), tell(vs, n), tell([]api.Verdict{refused(err)}, next))
	}
	// A node that is called as the log calls it is not meant.
	l := tree.Put(given(), api.Node{Fid: -1, Dir: true})
	vs, _, _, _ := Judge(l, 10, 6, own(dirAct(-1, -1, "a")))
	want(t, "its own fid, and a node of that fid", vs, []api.Verdict{refused(api.ErrAway)})
	vs, as, _, _ := Judge(l, 10, 6, own(dirAct(-2, -1, "a")))
	want(t, "a fid below 0 that none made", tell(vs, as), tell([]api.Verdict{done(10)}, []api.Act{dirAct(10, -1, "a")}))
}

func TestStale(t *testing.T) {
	for _, version := range []int{0, 1, 3, 6, math.MaxInt} {
		judged(t, []api.Rec{seen(version, storeAct(2, "x"))}, []api.Verdict{refused(api.ErrStale)})
		judged(t, []api.Rec{seen(version, removeAct(2, 0, "f"))}, []api.Verdict{refused(api.ErrStale)})
	}
	for _, version := range []int{2, -1, -2, math.MinInt} {
		judged(t, []api.Rec{seen(version, storeAct(2, "x"))}, []api.Verdict{done(2)}, storeAct(2, "x"))
		judged(t, []api.Rec{seen(version, removeAct(2, 0, "f"))}, []api.Verdict{done(2)}, removeAct(2, 0, "f"))
	}
	for _, fid := range []int{8, 10, -1, math.MinInt} {
		for _, version := range []int{0, 2, 6} {
			judged(t, []api.Rec{seen(version, storeAct(fid, "x"))}, []api.Verdict{refused(api.ErrStale)})
			judged(t, []api.Rec{seen(version, removeAct(fid, 0, "f"))}, []api.Verdict{refused(api.ErrStale)})
		}
		judged(t, []api.Rec{seen(-1, storeAct(fid, "x"))}, []api.Verdict{refused(api.ErrAway)})
		judged(t, []api.Rec{seen(-1, removeAct(fid, 0, "x"))}, []api.Verdict{refused(api.ErrNone)})
	}
	// Version 0 is one that may be seen.
	l := []api.Node{{Dir: true, Entries: []api.Entry{{Name: "a", Fid: 1}}}, {Fid: 1}}
	vs, _, _, _ := Judge(l, 2, 1, []api.Rec{seen(0, storeAct(1, "x"))})
	want(t, "a store of what is of version 0", vs, []api.Verdict{done(1)})
}

// TestKindsThatAreNeverStale: makes and renames are done whatever version was seen.
func TestKindsThatAreNeverStale(t *testing.T) {
	for _, version := range []int{-1, 0, 2, 99} {
		for _, a := range []api.Act{makeAct(-1, 0, "n"), dirAct(-1, 0, "n")} {
			here := a
			here.Fid = 10
			judged(t, []api.Rec{seen(version, a)}, []api.Verdict{done(10)}, here)
		}
		rename := renameAct(2, 0, "f", 1, "h")
		judged(t, []api.Rec{seen(version, rename)}, []api.Verdict{done(2)}, rename)
		judged(t, []api.Rec{seen(version, renameAct(8, 0, "f", 1, "h"))}, []api.Verdict{refused(api.ErrStale)})
		judged(t, []api.Rec{seen(version, renameAct(8, 0, "x", 1, "h"))}, []api.Verdict{refused(api.ErrNone)})
		judged(t, []api.Rec{seen(version, api.Act{Kind: 9, Fid: 2})}, []api.Verdict{refused(api.ErrKind)})
	}
}

// TestTouchedAheadIsNotStale: whatever version was seen, if an act that was done ahead names the fid.
func TestTouchedAheadIsNotStale(t *testing.T) {
	late, gone := seen(99, storeAct(2, "late")), seen(99, removeAct(1, 0, "d"))
	for _, a := range []api.Act{storeAct(2, "x"), renameAct(2, 0, "f", 0, "h"), renameAct(2, 0, "f", 1, "h")} {
		judged(t, append(own(a), late), []api.Verdict{done(2), done(2)}, a, late.Act)
	}
	// As Dir, as To; the one that was removed is touched too, though it is not there.
	judged(t, append(own(removeAct(3, 1, "g")), gone), []api.Verdict{done(3), done(1)}, removeAct(3, 1, "g"), gone.Act)
	judged(t, append(own(renameAct(3, 1, "g", 0, "h")), gone), []api.Verdict{done(3), done(1)}, renameAct(3, 1, "g", 0, "h"), gone.Act)
	judged(t, append(own(makeAct(-1, 1, "h")), gone), []api.Verdict{done(10), refused(api.ErrEmpty)}, makeAct(10, 1, "h"))
	judged(t, append(own(renameAct(2, 0, "f", 1, "h")), gone), []api.Verdict{done(2), refused(api.ErrEmpty)}, renameAct(2, 0, "f", 1, "h"))
	judged(t, append(own(removeAct(2, 0, "f")), late), []api.Verdict{done(2), refused(api.ErrAway)}, removeAct(2, 0, "f"))
	// By its fid here.
	made := own(makeAct(-1, 0, "n"))
	judged(t, append(made, seen(99, storeAct(-1, "x"))), []api.Verdict{done(10), done(10)}, makeAct(10, 0, "n"), storeAct(10, "x"))
	judged(t, append(made, seen(99, storeAct(10, "x"))), []api.Verdict{done(10), done(10)}, makeAct(10, 0, "n"), storeAct(10, "x"))
	judged(t, append(made, seen(99, removeAct(-1, 0, "n"))), []api.Verdict{done(10), done(10)}, makeAct(10, 0, "n"), removeAct(10, 0, "n"))
	// Neither Dir nor To of a store is among its fids, nor To of a remove, nor is what was refused.
	store, remove := storeAct(3, "x"), removeAct(3, 1, "g")
	store.Dir, store.To, remove.To = 2, 2, 2
	judged(t, append(own(store), late), []api.Verdict{done(3), refused(api.ErrStale)}, store)
	judged(t, append(own(remove), late), []api.Verdict{done(3), refused(api.ErrStale)}, remove)
	judged(t, append(own(renameAct(3, 2, "g", 2, "h")), late), []api.Verdict{refused(api.ErrDir), refused(api.ErrStale)})
}

// TestFidOfTheLogIsNotTouched: what is touched is what is here; a node that is called as the log calls another one is not.
func TestFidOfTheLogIsNotTouched(t *testing.T) {
	// The log's -1 is -2 here, and its -2 none that it made.
	l := []api.Node{{Fid: -2, Version: 1}, {Fid: -1, Version: 1}, {Dir: true}}
	vs, as, _, _ := Judge(l, -3, 6, append(own(makeAct(-1, 0, "a")), seen(9, storeAct(-2, "x"))))
	want(t, "another fid", tell(vs, as), tell([]api.Verdict{done(-3), refused(api.ErrStale)}, []api.Act{makeAct(-3, 0, "a")}))
	// Fids here are not turned once more.
	l = []api.Node{{Dir: true}}
	vs, as, _, next := Judge(l, -2, 6, own(makeAct(-1, 0, "a"), makeAct(-2, 0, "b"), storeAct(-1, "x"), storeAct(-2, "y")))
	want(t, "fids below 0 here", tell(vs, as, next), tell([]api.Verdict{done(-2), done(-1), done(-2), done(-1)},
		[]api.Act{makeAct(-2, 0, "a"), makeAct(-1, 0, "b"), storeAct(-2, "x"), storeAct(-1, "y")}, 0))
}

func TestWhichErrorComesFirst(t *testing.T) {
	first := own(removeAct(2, 0, "no"))
	none := refused(api.ErrNone)
	for _, x := range []struct {
		r   api.Rec
		err api.Errno
	}{
		{seen(-1, makeAct(2, 0, "n")), api.ErrRests},                  // not ErrForm
		{seen(-1, makeAct(-1, 2, "n")), api.ErrRests},                 // not ErrDir
		{seen(9, storeAct(2, "x")), api.ErrRests},                     // not ErrStale
		{seen(9, removeAct(3, 2, "g")), api.ErrRests},                 // not ErrStale
		{seen(9, api.Act{Kind: 9, Fid: 2}), api.ErrRests},             // not ErrKind
		{seen(-1, makeAct(7, 8, "n")), api.ErrForm},                   // not ErrAway
		{seen(-1, dirAct(3, 0, "f")), api.ErrForm},                    // not ErrName
		{seen(9, storeAct(1, "x")), api.ErrStale},                     // not ErrFile
		{seen(9, storeAct(3, "more than that fits!!")), api.ErrStale}, // not ErrMuch
		{seen(3, storeAct(3, "more than that fits!!")), api.ErrMuch},  // of the version that it has
		{seen(9, removeAct(1, 0, "d")), api.ErrStale},                 // not ErrEmpty
		{seen(4, removeAct(1, 0, "d")), api.ErrEmpty},                 // of the version that it has
		{seen(9, removeAct(3, 8, "g")), api.ErrStale},                 // not ErrAway
		{seen(3, removeAct(3, 8, "g")), api.ErrAway},                  // of the version that it has
		{seen(9, removeAct(3, 1, "x")), api.ErrStale},                 // not ErrNone
	} {
		judged(t, append(slices.Clone(first), x.r), []api.Verdict{none, refused(x.err)})
	}
}

// TestAppliesErrors: what Apply refuses is refused, by its error, and changes nothing.
func TestAppliesErrors(t *testing.T) {
	for _, x := range []struct {
		a   api.Act
		err api.Errno
	}{
		{makeAct(-1, 8, "n"), api.ErrAway}, {makeAct(-1, 2, "n"), api.ErrDir}, {makeAct(-1, 0, "f"), api.ErrName}, {makeAct(-1, 0, "N"), api.ErrName}, {dirAct(-1, 0, ""), api.ErrName},
		{storeAct(8, ""), api.ErrAway}, {storeAct(1, ""), api.ErrFile}, {storeAct(2, "more than that fits!!"), api.ErrMuch},
		{removeAct(2, 8, "f"), api.ErrAway}, {removeAct(2, 3, "f"), api.ErrDir}, {removeAct(2, 0, "g"), api.ErrNone}, {removeAct(2, 0, "d"), api.ErrStale}, {removeAct(1, 0, "d"), api.ErrEmpty},
		{renameAct(2, 0, "f", 8, "x"), api.ErrAway}, {renameAct(2, 0, "f", 3, "x"), api.ErrDir}, {renameAct(2, 0, "f", 1, "g"), api.ErrName}, {renameAct(1, 0, "d", 1, "x"), api.ErrLoop},
		{api.Act{Kind: 6, Fid: 2}, api.ErrKind},
	} {
		judged(t, own(x.a, makeAct(-9, 0, "z")), []api.Verdict{refused(x.err), done(10)}, makeAct(10, 0, "z"))
	}
}

// TestAppliesErrorsOfFidsHere: the act is tried with its fids here, in the tree so far.
func TestAppliesErrorsOfFidsHere(t *testing.T) {
	made := []api.Act{dirAct(-1, 0, "a"), dirAct(-2, -1, "b")}
	here := []api.Act{dirAct(10, 0, "a"), dirAct(11, 10, "b")}
	for _, x := range []struct {
		a   api.Act
		err api.Errno
	}{
		{removeAct(-1, 0, "a"), api.ErrEmpty}, {renameAct(-1, 0, "a", -2, "c"), api.ErrLoop}, {storeAct(-2, "x"), api.ErrFile}, {makeAct(-3, -1, "b"), api.ErrName}, {removeAct(-2, 0, "a"), api.ErrStale},
	} {
		judged(t, own(append(slices.Clone(made), x.a)...), []api.Verdict{done(10), done(11), refused(x.err)}, here...)
	}
	// A next fid that is there already is Apply's to refuse; then next stays.
	vs, as, l, next := Judge(given(), 3, 6, own(makeAct(-1, 0, "a"), makeAct(-2, 0, "b")))
	want(t, "a next fid that is there", tell(vs, as, l, next), tell([]api.Verdict{refused(api.ErrStale), refused(api.ErrStale)}, []api.Act{}, given(), 3))
}

// TestNextAndVersion: both are one more behind what was done, next only if something was made; neither is behind what was refused.
func TestNextAndVersion(t *testing.T) {
	log := own(makeAct(-1, 0, "f"), storeAct(3, "x"), storeAct(8, "x"), makeAct(-2, 0, "a"), makeAct(5, 0, "b"), dirAct(-3, 0, "c"), renameAct(3, 1, "g", -3, "g"), makeAct(-4, -1, "x"), removeAct(1, 0, "d"), makeAct(-5, -3, "e"))
	vs, _, l, next := Judge(given(), 20, 40, log)
	want(t, "verdicts", vs, []api.Verdict{refused(api.ErrName), done(3), refused(api.ErrAway), done(20), refused(api.ErrForm), done(21), done(3), refused(api.ErrRests), done(1), done(22)})
	want(t, "next", next, 23)
	var versions []int
	for _, n := range l {
		versions = append(versions, n.Fid, n.Version)
	}
	want(t, "fids and versions", versions, []int{0, 44, 2, 2, 3, 40, 20, 41, 21, 45, 22, 45})
}

// TestManyRecords: a log may be longer than a client's, and what is full refuses but what makes more.
func TestManyRecords(t *testing.T) {
	var as []api.Act
	var expect []api.Verdict
	for i := range 200 {
		as = append(as, makeAct(-1-i, 0, fmt.Sprint("m", i)))
		if i < 4 {
			expect = append(expect, done(10+i))
		} else {
			expect = append(expect, refused(api.ErrMany))
		}
	}
	as, expect = append(as, storeAct(-4, "x"), storeAct(-5, "x")), append(expect, done(13), refused(api.ErrRests))
	vs, did, l, next := Judge(given(), 10, 6, own(as...))
	want(t, "verdicts", vs, expect)
	want(t, "how many acts and nodes, and next", []int{len(did), len(l), next}, []int{5, 8, 14})
}

// TestNothingPanics: lists that are no trees, numbers at their ends.
func TestNothingPanics(t *testing.T) {
	wrong := [][]api.Node{
		nil, {}, {{Fid: 3}, {Fid: 1, Dir: true}, {Fid: 3}}, {{Dir: true, Entries: []api.Entry{{Name: "b", Fid: 0}, {Name: "a", Fid: 0}, {Name: "a", Fid: 1}}}, {Dir: true}},
		{{Entries: []api.Entry{{Name: "a", Fid: math.MinInt}}}, {Fid: 1, Data: make([]byte, 99)}},
	}
	numbers := []int{math.MinInt, -1, 0, 1, 3, math.MaxInt}
	for _, l := range wrong {
		for _, next := range numbers {
			for _, fid := range numbers {
				log := own(makeAct(fid, next, "a"), makeAct(-1, -1, "b"), makeAct(-2, 0, "c"), storeAct(fid, "x"), removeAct(fid, 0, "a"), renameAct(0, 0, "a", 0, "b"), api.Act{Kind: fid})
				log[3].Version, log[4].Version = next, math.MaxInt
				vs, as, _, _ := Judge(l, next, fid, log)
				if n := len(slices.DeleteFunc(vs, func(v api.Verdict) bool { return v.Err != api.OK })); n != len(as) {
					t.Errorf("Judge(%+v, %d, %d, %+v): %d verdicts are OK, and %d acts done", l, next, fid, log, n, len(as))
				}
			}
		}
	}
}
