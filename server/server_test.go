package server

import (
	"fmt"
	"math"
	"slices"
	"strings"
	"testing"

	"longabsence/api"
	"longabsence/cert"
	"longabsence/tree"
)

func makeAct(fid, dir int, name string) api.Act {
	return api.Act{Kind: api.ActMake, Fid: fid, Dir: dir, Name: name}
}

func dirAct(fid, dir int, name string) api.Act {
	return api.Act{Kind: api.ActDir, Fid: fid, Dir: dir, Name: name}
}

func storeAct(fid int, data string) api.Act {
	return api.Act{Kind: api.ActStore, Fid: fid, Data: []byte(data)}
}

func removeAct(fid, dir int, name string) api.Act {
	return api.Act{Kind: api.ActRemove, Fid: fid, Dir: dir, Name: name}
}

func renameAct(fid, dir int, name string, to int, toName string) api.Act {
	return api.Act{Kind: api.ActRename, Fid: fid, Dir: dir, Name: name, To: to, ToName: toName}
}

// seen is a record whose maker saw that version.
func seen(version int, a api.Act) api.Rec { return api.Rec{Act: a, Version: version, ID: 77} }

// own are records of what the log itself made, or of what needs no version.
func own(as ...api.Act) []api.Rec {
	var l []api.Rec
	for _, a := range as {
		l = append(l, seen(-1, a))
	}
	return l
}

func past(client int, as ...api.Act) []api.Past {
	var l []api.Past
	for _, a := range as {
		l = append(l, api.Past{Client: client, Act: a})
	}
	return l
}

// given is a server that made /d (1), /d/g (2) and /f (3), and stored the files, by client 5.
func given() api.Server {
	return api.Server{
		Tree: []api.Node{
			{Fid: 0, Dir: true, Entries: []api.Entry{{Name: "d", Fid: 1}, {Name: "f", Fid: 3}}, Version: 3},
			{Fid: 1, Dir: true, Entries: []api.Entry{{Name: "g", Fid: 2}}, Version: 2},
			{Fid: 2, Data: []byte("two"), Version: 4},
			{Fid: 3, Data: []byte("three"), Version: 5},
		},
		Next: 4,
		Past: past(5, dirAct(1, 0, "d"), makeAct(2, 1, "g"), makeAct(3, 0, "f"), storeAct(2, "two"), storeAct(3, "three")),
	}
}

// tell shows lists without entries alike, nil or not.
func tell(x ...any) string { return fmt.Sprintf("%+v", x) }

func want(t *testing.T, what string, got, want any) {
	t.Helper()
	if tell(got) != tell(want) {
		t.Errorf("%s = %+v, want %+v", what, got, want)
	}
}

// does: the act is done, and the server is what is expected then.
func does(t *testing.T, s api.Server, client int, a api.Act, expect api.Server) {
	t.Helper()
	got, err := Do(s, client, a)
	if err != api.OK {
		t.Errorf("Do of %+v tells %d, want OK", a, err)
	}
	want(t, fmt.Sprintf("Do of %+v", a), got, expect)
}

// did is the server behind acts that must all be done.
func did(t *testing.T, s api.Server, client int, as ...api.Act) api.Server {
	t.Helper()
	for _, a := range as {
		next, err := Do(s, client, a)
		if err != api.OK {
			t.Fatalf("Do of %+v tells %d, want OK", a, err)
		}
		s = next
	}
	return s
}

// refuses: the act can't be done; beside the error there is no server.
func refuses(t *testing.T, s api.Server, a api.Act, expect api.Errno) {
	t.Helper()
	got, err := Do(s, 7, a)
	want(t, fmt.Sprintf("Do of %+v", a), tell(got, err), tell(api.Server{}, expect))
}

func fids(l []api.Node) []int {
	var out []int
	for _, n := range l {
		out = append(out, n.Fid)
	}
	return out
}

func TestNew(t *testing.T) {
	want(t, "New", New(), api.Server{Tree: []api.Node{{Fid: 0, Dir: true}}, Next: 1})
	want(t, "its version", Version(New()), 1)
}

func TestOwnIsAlike(t *testing.T) {
	for _, s := range []api.Server{
		{}, New(), given(), {Tree: []api.Node{}, Past: []api.Past{}}, {Tree: given().Tree}, {Past: given().Past}, {Next: math.MinInt}, {Next: math.MaxInt},
		{Tree: []api.Node{{Fid: 3, Data: make([]byte, 99)}, {Fid: -1, Dir: true, Entries: []api.Entry{{Name: "No name", Fid: 9}}, Version: -4}, {Fid: 3}}, Past: past(-9, api.Act{Kind: 99, Fid: -1, Dir: 2, Name: "/", To: 3, ToName: "/", Data: []byte("x")}, api.Act{})},
	} {
		want(t, "Own", Own(s), s)
	}
}

// TestGivenIsMade: the server of these tests is one that New and Do make.
func TestGivenIsMade(t *testing.T) {
	s := did(t, New(), 5, dirAct(0, 0, "d"), makeAct(0, 1, "g"), makeAct(0, 0, "f"), storeAct(2, "two"), storeAct(3, "three"))
	want(t, "the given server", s, given())
}

func TestVersion(t *testing.T) {
	want(t, "the version of a server without Past", Version(api.Server{Next: 9, Tree: given().Tree}), 1)
	want(t, "the version of an empty Past", Version(api.Server{Past: []api.Past{}}), 1)
	want(t, "the version of a given one", Version(given()), 6)
	s := New()
	for i := range 50 {
		want(t, "the version", Version(s), i+1)
		if i == 0 {
			s = did(t, s, 0, makeAct(0, 0, "a"))
		} else {
			s = did(t, s, 0, storeAct(1, fmt.Sprint(i)))
		}
		want(t, "the version of what is put anew", s.Tree[1].Version, i+1)
	}
	// Neither the tree nor Next has a say in it.
	s.Next, s.Tree = 99, nil
	want(t, "the version behind 50 acts", Version(s), 51)
}

func TestEachKind(t *testing.T) {
	s := given()
	s.Tree = tree.Put(s.Tree, api.Node{Fid: 0, Dir: true, Entries: []api.Entry{{Name: "d", Fid: 1}, {Name: "f", Fid: 3}, {Name: "n", Fid: 4}}, Version: 6})
	s.Next = 5
	file, dir := s, s
	file.Tree, file.Past = tree.Put(s.Tree, api.Node{Fid: 4, Version: 6}), append(given().Past, past(8, makeAct(4, 0, "n"))...)
	does(t, given(), 8, makeAct(4, 0, "n"), file)
	dir.Tree, dir.Past = tree.Put(s.Tree, api.Node{Fid: 4, Dir: true, Version: 6}), append(given().Past, past(8, dirAct(4, 0, "n"))...)
	does(t, given(), 8, dirAct(4, 0, "n"), dir)

	s = given()
	s.Tree, s.Past = tree.Put(s.Tree, api.Node{Fid: 3, Data: []byte("new"), Version: 6}), append(s.Past, past(8, storeAct(3, "new"))...)
	does(t, given(), 8, storeAct(3, "new"), s)

	s = given()
	s.Tree, s.Past = tree.Drop(tree.Put(s.Tree, api.Node{Fid: 1, Dir: true, Version: 6}), 2), append(s.Past, past(8, removeAct(2, 1, "g"))...)
	does(t, given(), 8, removeAct(2, 1, "g"), s)

	s = given()
	s.Tree = tree.Put(s.Tree, api.Node{Fid: 0, Dir: true, Entries: []api.Entry{{Name: "d", Fid: 1}}, Version: 6})
	s.Tree = tree.Put(s.Tree, api.Node{Fid: 1, Dir: true, Entries: []api.Entry{{Name: "g", Fid: 2}, {Name: "h", Fid: 3}}, Version: 6})
	s.Past = append(s.Past, past(8, renameAct(3, 0, "f", 1, "h"))...)
	does(t, given(), 8, renameAct(3, 0, "f", 1, "h"), s)
}

func TestNoKind(t *testing.T) {
	for _, kind := range []int{math.MinInt, -1, 0, 6, 7, math.MaxInt} {
		refuses(t, New(), api.Act{Kind: kind}, api.ErrKind)
		refuses(t, given(), api.Act{Kind: kind, Fid: 3, Name: "f", ToName: "h", Data: []byte("x")}, api.ErrKind)
	}
}

// TestWhatIsMadeIsNext: the fid that is handed in has no say, be it there already, the root's, or the next one.
func TestWhatIsMadeIsNext(t *testing.T) {
	for _, fid := range []int{math.MinInt, -1, 0, 1, 2, 3, 4, 5, 77, math.MaxInt} {
		for _, a := range []api.Act{makeAct(fid, 1, "n"), dirAct(fid, 1, "n")} {
			s := did(t, given(), 0, a)
			here := a
			here.Fid = 4
			want(t, fmt.Sprintf("what is past behind %+v", a), s.Past[5], api.Past{Act: here})
			want(t, "the fids", fids(s.Tree), []int{0, 1, 2, 3, 4})
			want(t, "the next one", s.Next, 5)
			n, _ := tree.Find(s.Tree, 1)
			want(t, "the entries", n.Entries, []api.Entry{{Name: "g", Fid: 2}, {Name: "n", Fid: 4}})
		}
	}
	// Dir stays, though it be the fid that is handed in, or the next one.
	s := did(t, given(), 0, makeAct(1, 1, "n"))
	want(t, "made in a directory of its own old fid", s.Past[5].Act, makeAct(4, 1, "n"))
	refuses(t, given(), makeAct(77, 77, "n"), api.ErrAway)
	refuses(t, given(), dirAct(-1, -1, "n"), api.ErrAway)
	refuses(t, given(), dirAct(4, 4, "n"), api.ErrAway)
	// Of other kinds the fid is the one that is handed in.
	refuses(t, given(), storeAct(77, "x"), api.ErrAway)
	refuses(t, given(), removeAct(77, 0, "f"), api.ErrStale)
	refuses(t, given(), renameAct(77, 0, "f", 0, "h"), api.ErrStale)
}

// TestFidsAreGivenOnce: what is gone leaves its fid to nobody.
func TestFidsAreGivenOnce(t *testing.T) {
	s := New()
	for i := range 40 {
		s = did(t, s, 0, makeAct(0, 0, "a"), removeAct(i+1, 0, "a"))
		want(t, "the next one", s.Next, i+2)
	}
	s = did(t, s, 0, dirAct(1, 0, "a"))
	want(t, "the fids", fids(s.Tree), []int{0, 41})
}

// TestFieldsThatStay: all else that is handed in is past as it was written.
func TestFieldsThatStay(t *testing.T) {
	for _, a := range []api.Act{
		{Kind: 1, Fid: 4, Name: "n", To: 9, ToName: "/", Data: []byte("more than twenty bytes are in this")},
		{Kind: 2, Fid: 4, Name: "n", To: 1, ToName: "f", Data: []byte("x")},
		{Kind: 3, Fid: 3, Dir: 77, Name: "N", To: -1, ToName: "N", Data: []byte("x")},
		{Kind: 4, Fid: 3, Name: "f", To: 77, ToName: "N", Data: []byte("more than twenty bytes are in this")},
		{Kind: 5, Fid: 3, Name: "f", ToName: "h", Data: []byte("more than twenty bytes are in this")},
	} {
		want(t, "what is past by Do", did(t, given(), -3, a).Past[5], api.Past{Client: -3, Act: a})
		r := a
		if a.Kind < 3 {
			r.Fid = -1
		}
		s, vs := Take(given(), -3, own(r))
		want(t, "the verdicts", vs, []api.Verdict{{Fid: a.Fid}})
		want(t, "what is past by Take", s.Past[5], api.Past{Client: -3, Act: a})
	}
}

func TestAppliesErrors(t *testing.T) {
	much := strings.Repeat("x", api.MaxData+1)
	for _, x := range []struct {
		a   api.Act
		err api.Errno
	}{
		{makeAct(4, 8, "n"), api.ErrAway}, {makeAct(4, 3, "n"), api.ErrDir}, {makeAct(4, 0, "f"), api.ErrName}, {makeAct(4, 0, "N"), api.ErrName}, {makeAct(4, 0, ""), api.ErrName},
		{dirAct(4, -1, "n"), api.ErrAway}, {dirAct(4, 2, "n"), api.ErrDir}, {dirAct(4, 1, "g"), api.ErrName}, {dirAct(4, 0, "toolong12"), api.ErrName},
		{storeAct(8, ""), api.ErrAway}, {storeAct(-1, ""), api.ErrAway}, {storeAct(0, ""), api.ErrFile}, {storeAct(1, ""), api.ErrFile}, {storeAct(3, much), api.ErrMuch},
		{removeAct(3, 8, "f"), api.ErrAway}, {removeAct(3, 3, "f"), api.ErrDir}, {removeAct(3, 0, "g"), api.ErrNone}, {removeAct(3, 0, "d"), api.ErrStale}, {removeAct(1, 0, "d"), api.ErrEmpty},
		{renameAct(3, 8, "f", 0, "h"), api.ErrAway}, {renameAct(3, 2, "f", 0, "h"), api.ErrDir}, {renameAct(3, 0, "x", 0, "h"), api.ErrNone}, {renameAct(1, 0, "f", 0, "h"), api.ErrStale},
		{renameAct(3, 0, "f", 8, "h"), api.ErrAway}, {renameAct(3, 0, "f", 2, "h"), api.ErrDir}, {renameAct(3, 0, "f", 1, "g"), api.ErrName}, {renameAct(3, 0, "f", 0, "d"), api.ErrName}, {renameAct(1, 0, "d", 1, "x"), api.ErrLoop},
	} {
		refuses(t, given(), x.a, x.err)
		// A log that makes something gives it a fid below 0.
		if x.a.Kind < 3 {
			x.a.Fid = -1
		}
		_, vs := Take(given(), 7, own(x.a))
		want(t, fmt.Sprintf("the verdict on %+v", x.a), vs, []api.Verdict{{Err: x.err}})
	}
}

// TestLimits: what is full refuses, and what makes nothing is done still.
func TestLimits(t *testing.T) {
	s := did(t, New(), 0, dirAct(0, 0, "a"), dirAct(0, 0, "b"), dirAct(0, 0, "c"), dirAct(0, 0, "d"))
	for i := range 19 {
		s = did(t, s, 0, makeAct(0, 1+i%4, fmt.Sprint("n", i)))
	}
	want(t, "how many nodes, and the next one", []int{len(s.Tree), s.Next}, []int{api.MaxNodes, 24})
	refuses(t, s, makeAct(0, 4, "more"), api.ErrMany)
	refuses(t, s, dirAct(0, 4, "more"), api.ErrMany)
	_, vs := Take(s, 0, own(makeAct(-1, 4, "more")))
	want(t, "the verdict on one more", vs, []api.Verdict{{Err: api.ErrMany}})
	s = did(t, s, 0, storeAct(5, strings.Repeat("x", api.MaxData)), removeAct(5, 1, "n0"), makeAct(0, 4, "more"))
	want(t, "the fids at the end", s.Tree[len(s.Tree)-1].Fid, 24)

	wide := New()
	for i := range api.MaxEntries {
		wide = did(t, wide, 0, makeAct(0, 0, fmt.Sprint("n", i)))
	}
	refuses(t, wide, makeAct(0, 0, "more"), api.ErrMany)
	did(t, wide, 0, renameAct(1, 0, "n0", 0, "m0"))
}

// TestNextAndPast: both grow by what is done, Next only if it made something, and not by what is refused.
func TestNextAndPast(t *testing.T) {
	s := New()
	for _, x := range []struct {
		client int
		a      api.Act
		err    api.Errno
		next   int
	}{
		{0, storeAct(1, "x"), api.ErrAway, 1}, {0, dirAct(9, 0, "d"), api.OK, 2}, {1, makeAct(9, 0, "d"), api.ErrName, 2}, {2, makeAct(9, 1, "f"), api.OK, 3},
		{0, storeAct(2, "x"), api.OK, 3}, {1, removeAct(1, 0, "d"), api.ErrEmpty, 3}, {1, api.Act{Kind: 9}, api.ErrKind, 3}, {-1, renameAct(2, 1, "f", 0, "g"), api.OK, 3},
		{math.MaxInt, removeAct(1, 0, "d"), api.OK, 3}, {1, makeAct(9, 1, "h"), api.ErrAway, 3}, {1, dirAct(1, 0, "h"), api.OK, 4},
	} {
		after, err := Do(s, x.client, x.a)
		want(t, fmt.Sprintf("the error of %+v", x.a), err, x.err)
		if err == api.OK {
			s = after
		}
		want(t, fmt.Sprintf("the next one behind %+v", x.a), s.Next, x.next)
	}
	want(t, "what is past", s.Past, []api.Past{
		{Act: dirAct(1, 0, "d")}, {Client: 2, Act: makeAct(2, 1, "f")}, {Act: storeAct(2, "x")}, {Client: -1, Act: renameAct(2, 1, "f", 0, "g")},
		{Client: math.MaxInt, Act: removeAct(1, 0, "d")}, {Client: 1, Act: dirAct(3, 0, "h")},
	})
	want(t, "the tree", s.Tree, []api.Node{{Dir: true, Entries: []api.Entry{{Name: "g", Fid: 2}, {Name: "h", Fid: 3}}, Version: 6}, {Fid: 2, Data: []byte("x"), Version: 3}, {Fid: 3, Dir: true, Version: 6}})
}

// takes holds Take of the given server against verdicts, the acts that were done, and the next fid; the tree must be cert's.
func takes(t *testing.T, client int, log []api.Rec, verdicts []api.Verdict, next int, here ...api.Act) api.Server {
	t.Helper()
	s, vs := Take(given(), client, log)
	what := fmt.Sprintf("Take of %+v: ", log)
	want(t, what+"verdicts", vs, verdicts)
	want(t, what+"next", s.Next, next)
	want(t, what+"past", s.Past, append(given().Past, past(client, here...)...))
	_, _, l, _ := cert.Judge(given().Tree, 4, 6, log)
	want(t, what+"tree", s.Tree, l)
	return s
}

func TestTakeOfAnEmptyLog(t *testing.T) {
	for _, log := range [][]api.Rec{nil, {}} {
		s := takes(t, 8, log, nil, 4)
		want(t, "the server", s, given())
		s, vs := Take(New(), 8, log)
		want(t, "a new server", tell(s, vs), tell(New(), []api.Verdict{}))
	}
}

func TestTakeOfWhatIsAllDone(t *testing.T) {
	log := append(own(dirAct(-1, 0, "e"), makeAct(-2, -1, "x"), storeAct(-2, "n")), seen(4, storeAct(2, "new")), seen(0, renameAct(2, 1, "g", -1, "g")), seen(2, removeAct(1, 0, "d")))
	s := takes(t, 8, log, []api.Verdict{{Fid: 4}, {Fid: 5}, {Fid: 5}, {Fid: 2}, {Fid: 2}, {Fid: 1}}, 6,
		dirAct(4, 0, "e"), makeAct(5, 4, "x"), storeAct(5, "n"), storeAct(2, "new"), renameAct(2, 1, "g", 4, "g"), removeAct(1, 0, "d"))
	want(t, "the tree", s.Tree, []api.Node{
		{Fid: 0, Dir: true, Entries: []api.Entry{{Name: "e", Fid: 4}, {Name: "f", Fid: 3}}, Version: 11},
		{Fid: 2, Data: []byte("new"), Version: 9},
		{Fid: 3, Data: []byte("three"), Version: 5},
		{Fid: 4, Dir: true, Entries: []api.Entry{{Name: "g", Fid: 2}, {Name: "x", Fid: 5}}, Version: 10},
		{Fid: 5, Data: []byte("n"), Version: 8},
	})
	want(t, "the version", Version(s), 12)
}

func TestTakeOfWhatIsDoneInPart(t *testing.T) {
	log := append(own(dirAct(-1, 0, "f"), makeAct(-2, -1, "x"), makeAct(-3, 1, "y"), makeAct(9, 1, "z")), seen(4, storeAct(3, "late")), seen(5, storeAct(2, "late")), seen(-1, storeAct(-3, "y")), seen(5, removeAct(3, 0, "f")))
	s := takes(t, 2, log, []api.Verdict{{Err: api.ErrName}, {Err: api.ErrRests}, {Fid: 4}, {Err: api.ErrForm}, {Err: api.ErrStale}, {Err: api.ErrStale}, {Fid: 4}, {Err: api.ErrRests}}, 5,
		makeAct(4, 1, "y"), storeAct(4, "y"))
	want(t, "the tree", s.Tree, []api.Node{
		given().Tree[0],
		{Fid: 1, Dir: true, Entries: []api.Entry{{Name: "g", Fid: 2}, {Name: "y", Fid: 4}}, Version: 6},
		given().Tree[2],
		given().Tree[3],
		{Fid: 4, Data: []byte("y"), Version: 7},
	})
}

func TestTakeOfWhatIsAllRefused(t *testing.T) {
	log := append(own(makeAct(1, 0, "n"), api.Act{Kind: 9, Fid: 2}, storeAct(2, "x"), makeAct(-1, 0, "f")), seen(4, storeAct(3, "x")), seen(9, removeAct(8, 0, "f")))
	s := takes(t, 8, log, []api.Verdict{{Err: api.ErrForm}, {Err: api.ErrKind}, {Err: api.ErrRests}, {Err: api.ErrName}, {Err: api.ErrStale}, {Err: api.ErrStale}}, 4)
	want(t, "the server", s, given())
}

// TestTakeIsOfTheVersionThatIsThere: what Do stored is what a log may have seen; once someone else stores, it may not.
func TestTakeIsOfTheVersionThatIsThere(t *testing.T) {
	s := did(t, given(), 0, storeAct(3, "again"))
	late, right := []api.Rec{seen(5, storeAct(3, "late"))}, []api.Rec{seen(6, storeAct(3, "right"))}
	_, vs := Take(s, 1, late)
	want(t, "late", vs, []api.Verdict{{Err: api.ErrStale}})
	s, vs = Take(s, 1, right)
	want(t, "right", vs, []api.Verdict{{Fid: 3}})
	_, vs = Take(s, 2, right)
	want(t, "right no more", vs, []api.Verdict{{Err: api.ErrStale}})
}

// TestOrderInPast: acts of clients that are here, and those of logs, are past as they came, each of its client.
func TestOrderInPast(t *testing.T) {
	s := did(t, New(), 0, dirAct(0, 0, "a"))
	s, _ = Take(s, 1, own(makeAct(-1, 1, "b"), storeAct(9, "no"), storeAct(-1, "b")))
	s = did(t, s, 2, makeAct(-1, 1, "c"))
	s, _ = Take(s, 1, own(makeAct(-1, 0, "d"), makeAct(-2, 0, "e")))
	s, _ = Take(s, 0, nil)
	s, _ = Take(s, 0, own(renameAct(4, 0, "d", 1, "d")))
	want(t, "what is past", s.Past, slices.Concat(
		past(0, dirAct(1, 0, "a")), past(1, makeAct(2, 1, "b"), storeAct(2, "b")), past(2, makeAct(3, 1, "c")),
		past(1, makeAct(4, 0, "d"), makeAct(5, 0, "e")), past(0, renameAct(4, 0, "d", 1, "d"))))
	want(t, "next, and version", []int{s.Next, Version(s)}, []int{6, 8})
}

func TestReplay(t *testing.T) {
	for _, l := range [][]api.Past{nil, {}} {
		nodes, err := Replay(l)
		want(t, "Replay of nothing", tell(nodes, err), tell(tree.New(), api.OK))
	}
	nodes, err := Replay(given().Past)
	want(t, "Replay of all that a server did", tell(nodes, err), tell(given().Tree, api.OK))

	s, _ := Take(given(), 2, own(makeAct(-1, 0, "e"), storeAct(9, "no"), dirAct(-2, 1, "x"), renameAct(2, 1, "g", -2, "g"), storeAct(-1, "e")))
	s = did(t, s, 1, removeAct(3, 0, "f"))
	nodes, err = Replay(s.Past)
	want(t, "Replay of all that a server did and took", tell(nodes, err), tell(s.Tree, api.OK))
}

// TestReplayIsOfActsAlone: clients have no say; fids are those of the acts; versions are counted from 1 on.
func TestReplayIsOfActsAlone(t *testing.T) {
	l := given().Past
	for i := range l {
		l[i].Client = 7 - i
	}
	nodes, err := Replay(l)
	want(t, "Replay of other clients", tell(nodes, err), tell(given().Tree, api.OK))
	nodes, err = Replay(past(0, makeAct(9, 0, "a"), dirAct(-4, 0, "b"), storeAct(9, "x"), storeAct(9, "x")))
	want(t, "Replay of other fids", tell(nodes, err), tell([]api.Node{
		{Fid: -4, Dir: true, Version: 2}, {Dir: true, Entries: []api.Entry{{Name: "a", Fid: 9}, {Name: "b", Fid: -4}}, Version: 2}, {Fid: 9, Data: []byte("x"), Version: 4},
	}, api.OK))
}

// TestReplayOfWhatCannotBeDone: the first error is told, and beside it no tree.
func TestReplayOfWhatCannotBeDone(t *testing.T) {
	fine := given().Past
	for _, x := range []struct {
		as  []api.Act
		err api.Errno
	}{
		{[]api.Act{makeAct(1, 0, "x")}, api.ErrStale}, {[]api.Act{makeAct(0, 0, "x")}, api.ErrStale}, {[]api.Act{makeAct(4, 0, "f")}, api.ErrName}, {[]api.Act{storeAct(4, "x")}, api.ErrAway},
		{[]api.Act{removeAct(1, 0, "d")}, api.ErrEmpty}, {[]api.Act{renameAct(1, 0, "d", 1, "x")}, api.ErrLoop}, {[]api.Act{{Kind: 9}}, api.ErrKind},
		{[]api.Act{storeAct(1, "x"), storeAct(9, "x"), {Kind: 9}}, api.ErrFile},
	} {
		wrong := past(3, x.as...)
		for _, l := range [][]api.Past{slices.Concat(fine, wrong), slices.Concat(fine, wrong, past(3, storeAct(2, "fine"), makeAct(8, 0, "fine")))} {
			nodes, err := Replay(l)
			want(t, fmt.Sprintf("Replay of %+v", l), tell(nodes, err), tell([]api.Node{}, x.err))
		}
	}
	nodes, err := Replay(past(0, storeAct(1, "x"), makeAct(1, 0, "f")))
	want(t, "Replay of a first act that can't be done", tell(nodes, err), tell([]api.Node{}, api.ErrAway))
}

// TestNothingPanics: servers that none made, numbers at their ends.
func TestNothingPanics(t *testing.T) {
	numbers := []int{math.MinInt, -1, 0, 1, 3, math.MaxInt}
	trees := [][]api.Node{nil, {{Fid: 3}, {Fid: 1, Dir: true}, {Fid: 3}}, {{Dir: true, Entries: []api.Entry{{Name: "b"}, {Name: "a"}, {Name: "a", Fid: 1}}}, {Dir: true}}}
	for _, l := range trees {
		for _, next := range numbers {
			for _, fid := range numbers {
				s := api.Server{Tree: l, Next: next, Past: past(next, api.Act{Kind: fid})}
				as := []api.Act{makeAct(fid, next, "a"), dirAct(fid, 0, "b"), storeAct(fid, "x"), removeAct(fid, 0, "a"), renameAct(fid, 0, "a", next, "c"), {Kind: fid}}
				want(t, "Own", Own(s), s)
				want(t, "Version", Version(s), 2)
				Take(s, fid, own(as...))
				Replay(past(fid, as...))
				for _, a := range as {
					Do(s, next, a)
				}
			}
		}
	}
}
