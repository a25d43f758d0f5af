package acts

import (
	"slices"
	"testing"

	"longabsence/api"
)

// every is an act of each kind that sample takes, and some that it refuses.
func every() []api.Act {
	return []api.Act{
		makeAct(9, 0, "n"), dirAct(-9, 4, "n"), storeAct(3, "store"), storeAct(3, ""), removeAct(3, 0, "f"), removeAct(5, 4, "x"),
		renameAct(3, 0, "f", 4, "f"), renameAct(1, 0, "d", 2, "d"), renameAct(3, 0, "f", 0, "a"), renameAct(3, 0, "f", 0, "f"),
		makeAct(9, 0, "d"), storeAct(77, "x"), removeAct(1, 0, "d"), renameAct(1, 0, "d", 4, "n"), {Kind: 9, Data: []byte("none")},
	}
}

// roomy is l with spare room behind each list, all of it filled.
func roomy(l []api.Node) []api.Node {
	out := make([]api.Node, 0, len(l)+3)
	for _, n := range l {
		data := append(slices.Clone(n.Data), "spare"...)
		entries := append(slices.Clone(n.Entries), api.Entry{Name: "zzz", Fid: 1}, api.Entry{Name: "zzzz", Fid: 2})
		n.Data, n.Entries = data[:len(n.Data)], entries[:len(n.Entries)]
		out = append(out, n)
	}
	spare := out[len(out):cap(out)]
	for i := range spare {
		spare[i] = api.Node{Fid: 9 + i, Data: []byte("spare"), Version: 5}
	}
	return out
}

// roomyActs is the acts with spare room behind each list, all of it filled.
func roomyActs(as ...api.Act) []api.Act {
	out := make([]api.Act, 0, len(as)+2)
	for _, a := range as {
		data := append(slices.Clone(a.Data), "spare"...)
		a.Data = data[:len(a.Data)]
		out = append(out, a)
	}
	spare := out[len(out):cap(out)]
	for i := range spare {
		spare[i] = api.Act{Kind: 99, Data: []byte("spare")}
	}
	return out
}

// whole tells lists with their spare room.
func whole(l []api.Node, as []api.Act) string {
	out := tell(len(l), len(as))
	for _, n := range l[:cap(l)] {
		out += tell(n, n.Data[:cap(n.Data)], n.Entries[:cap(n.Entries)])
	}
	for _, a := range as[:cap(as)] {
		out += tell(a, a.Data[:cap(a.Data)])
	}
	return out
}

// spoil changes nodes and their spare room.
func spoil(l []api.Node) {
	l = l[:cap(l)]
	for i := range l {
		spoilBytes(l[i].Data)
		e := l[i].Entries[:cap(l[i].Entries)]
		for k := range e {
			e[k] = api.Entry{Name: "!", Fid: -99}
		}
		l[i] = api.Node{Fid: -99, Version: -99}
	}
}

func spoilActs(as []api.Act) {
	as = as[:cap(as)]
	for i := range as {
		spoilBytes(as[i].Data)
		as[i] = api.Act{Kind: -99}
	}
}

func spoilBytes(b []byte) {
	b = b[:cap(b)]
	for i := range b {
		b[i] = '!'
	}
}

// callers are the calls that answer nodes, given a tree and acts.
func callers() map[string]func(l []api.Node, as []api.Act) ([]api.Node, int, api.Errno) {
	return map[string]func(l []api.Node, as []api.Act) ([]api.Node, int, api.Errno){
		"Apply": func(l []api.Node, as []api.Act) ([]api.Node, int, api.Errno) {
			out, err := Apply(l, as[0], 50)
			return out, 0, err
		},
		"All":         func(l []api.Node, as []api.Act) ([]api.Node, int, api.Errno) { return All(l, as, 50) },
		"All of none": func(l []api.Node, as []api.Act) ([]api.Node, int, api.Errno) { return All(l, as[:0], 50) },
	}
}

func TestArgumentsAreOnlyReadAndNotKept(t *testing.T) {
	for what, call := range callers() {
		for _, a := range every() {
			l, n, err := call(sample(), []api.Act{a})
			expect := tell(l, n, err)

			l, as := roomy(sample()), roomyActs(a)
			before := whole(l, as)
			got, n, err := call(l, as)
			if tell(got, n, err) != expect {
				t.Errorf("%s of %+v: spare room changes the answer: %+v, want %s", what, a, got, expect)
			}
			if whole(l, as) != before {
				t.Errorf("%s of %+v changes what it was handed", what, a)
			}
			spoil(l)
			spoilActs(as)
			if tell(got, n, err) != expect {
				t.Errorf("%s of %+v: the answer hangs on what was handed in", what, a)
			}

			l, as = roomy(sample()), roomyActs(a)
			got, _, _ = call(l, as)
			spoil(got)
			if whole(l, as) != before {
				t.Errorf("%s of %+v: what was handed in hangs on the answer", what, a)
			}
		}
	}
}

func TestManyActsAreOnlyRead(t *testing.T) {
	as := roomyActs(makeAct(9, 0, "n"), storeAct(9, "one"), storeAct(3, "two"), storeAct(9, "three"), removeAct(3, 0, "f"))
	l := roomy(sample())
	before := whole(l, as)
	got, n, err := All(l, as, 50)
	if n != 5 || err != api.OK || whole(l, as) != before {
		t.Errorf("All = %d, %d, or an argument was changed", n, err)
	}
	expect := tell(got)
	spoil(l)
	spoilActs(as)
	want(t, "the answer", tell(got), expect)
}

func TestListsOfAnAnswerShareNothing(t *testing.T) {
	data := []byte("both")
	as := []api.Act{{Kind: api.ActStore, Fid: 3, Data: data}, {Kind: api.ActStore, Fid: 5, Data: data}}
	l, _, _ := All(sample(), as, 50)
	spoil(l[4:5:5])
	want(t, "the other file", l[6], api.Node{Fid: 5, Data: []byte("both"), Version: 50})
}

func TestOwnAndFidsOnlyRead(t *testing.T) {
	for _, a := range every() {
		as := roomyActs(a)
		before := whole(nil, as)
		Own(as[0])
		Fids(as[0])
		want(t, "what was handed in", whole(nil, as), before)
	}
}

func TestListsThatAreNoTreesEndWithoutPanic(t *testing.T) {
	e := []api.Entry{{Name: "z", Fid: 0}, {Name: "a", Fid: 9}, {Name: "a", Fid: 0}}
	l := []api.Node{{Fid: 9, Dir: true, Entries: e}, {Fid: 0, Dir: true, Entries: e}, {Fid: 0, Entries: e}, {Fid: -1, Dir: true, Entries: e}}
	for kind := -1; kind < 8; kind++ {
		for fid := -2; fid < 11; fid++ {
			for dir := -2; dir < 11; dir++ {
				for _, name := range []string{"", "a", "b", "z"} {
					a := api.Act{Kind: kind, Fid: fid, Dir: dir, Name: name, To: fid - dir, ToName: "n"}
					Apply(l, a, 1)
					All(l, []api.Act{a, a}, 1)
				}
			}
		}
	}
}

func TestRingsEnd(t *testing.T) {
	l := []api.Node{
		{Fid: 0, Dir: true, Entries: []api.Entry{{Name: "a", Fid: 1}}},
		{Fid: 1, Dir: true, Entries: []api.Entry{{Name: "b", Fid: 2}}},
		{Fid: 2, Dir: true, Entries: []api.Entry{{Name: "c", Fid: 1}, {Name: "d", Fid: 0}}},
		{Fid: 3, Dir: true},
	}
	refused(t, l, renameAct(1, 0, "a", 0, "n"), api.ErrLoop)
	refused(t, l, renameAct(1, 2, "c", 2, "n"), api.ErrLoop)
	done(t, l, renameAct(1, 0, "a", 3, "n"))
}
