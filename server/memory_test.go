package server

import (
	"slices"
	"testing"

	"longabsence/api"
)

// samples are acts of each kind, with data though they need none, some of which a given server refuses.
func samples() []api.Act {
	all := []api.Act{makeAct(-1, 0, "a"), dirAct(-2, 1, "b"), storeAct(3, "store"), storeAct(2, ""), removeAct(2, 1, "g"), renameAct(3, 0, "f", 1, "h"), {Kind: 9}, makeAct(-3, 0, "f"), storeAct(9, "none")}
	for i := range all {
		if all[i].Data == nil {
			all[i].Data = []byte("needless")
		}
	}
	return all
}

// logs are of nothing, of each sample, and of all of them.
func logs() [][]api.Rec {
	l := [][]api.Rec{nil, {}, own(samples()...), own(samples()[6:]...)}
	for _, a := range samples() {
		l = append(l, own(a))
	}
	return l
}

// roomyList is l with spare room behind it, filled by x.
func roomyList[T any](l []T, x T) []T {
	return append(slices.Clone(l), x, x)[:len(l)]
}

func roomyPast(l []api.Past) []api.Past {
	out := roomyList(l, api.Past{Client: 99, Act: makeAct(99, 0, "spare")})
	for i, p := range out {
		out[i].Act.Data = roomyList(p.Act.Data, '?')
	}
	return out
}

func roomyLog(l []api.Rec) []api.Rec {
	out := roomyList(l, seen(-1, makeAct(-99, 0, "spare")))
	for i, r := range out {
		out[i].Act.Data = roomyList(r.Act.Data, '?')
	}
	return out
}

// roomy is s with spare room behind each list; what fills it would change the answer if it were looked at.
func roomy(s api.Server) api.Server {
	s.Tree = roomyList(s.Tree, api.Node{Fid: 99, Dir: true, Data: []byte("spare")})
	for i, n := range s.Tree {
		s.Tree[i].Data = roomyList(n.Data, '?')
		s.Tree[i].Entries = roomyList(n.Entries, api.Entry{Name: "z", Fid: 99})
	}
	s.Past = roomyPast(s.Past)
	return s
}

func wholePast(l []api.Past) string {
	out := tell(len(l))
	for _, p := range l[:cap(l)] {
		out += tell(p, p.Act.Data[:cap(p.Act.Data)])
	}
	return out
}

func wholeLog(l []api.Rec) string {
	out := tell(len(l))
	for _, r := range l[:cap(l)] {
		out += tell(r, r.Act.Data[:cap(r.Act.Data)])
	}
	return out
}

// whole tells a server with its spare room.
func whole(s api.Server) string {
	out := tell(len(s.Tree), s.Next)
	for _, n := range s.Tree[:cap(s.Tree)] {
		out += tell(n, n.Data[:cap(n.Data)], n.Entries[:cap(n.Entries)])
	}
	return out + wholePast(s.Past)
}

func spoilBytes(b []byte) {
	for i := range b[:cap(b)] {
		b[:cap(b)][i] = '!'
	}
}

func spoilTree(l []api.Node) {
	l = l[:cap(l)]
	for i, n := range l {
		spoilBytes(n.Data)
		e := n.Entries[:cap(n.Entries)]
		for k := range e {
			e[k] = api.Entry{Name: "!", Fid: -99}
		}
		l[i] = api.Node{Fid: -99}
	}
}

func spoilPast(l []api.Past) {
	l = l[:cap(l)]
	for i, p := range l {
		spoilBytes(p.Act.Data)
		l[i] = api.Past{Client: -99}
	}
}

func spoilLog(l []api.Rec) {
	l = l[:cap(l)]
	for i, r := range l {
		spoilBytes(r.Act.Data)
		l[i] = api.Rec{ID: -99}
	}
}

func spoil(s api.Server) {
	spoilTree(s.Tree)
	spoilPast(s.Past)
}

// keepsOff: call, of a server with spare room, answers what it answers of one without, changes nothing of it, and shares nothing with it.
func keepsOff(t *testing.T, what string, call func(api.Server) api.Server) {
	t.Helper()
	expect := tell(call(given()))
	s := roomy(given())
	before := whole(s)
	got := call(s)
	want(t, what+", of lists with spare room", tell(got), expect)
	want(t, what+": the server that was handed in", whole(s), before)
	spoil(s)
	want(t, what+", when what was handed in changed", tell(got), expect)

	s = roomy(given())
	spoil(call(s))
	want(t, what+": the server, when the answer changed", whole(s), before)
}

func TestServersAreOnlyReadAndNotKept(t *testing.T) {
	keepsOff(t, "Own", Own)
	for _, a := range samples() {
		keepsOff(t, "Do of "+tell(a), func(s api.Server) api.Server {
			after, _ := Do(s, 1, a)
			return after
		})
	}
	for _, log := range logs() {
		keepsOff(t, "Take of "+tell(log), func(s api.Server) api.Server {
			after, _ := Take(s, 1, log)
			return after
		})
	}
	s := roomy(given())
	before := whole(s)
	want(t, "Version, of lists with spare room", Version(s), 6)
	want(t, "the server behind Version", whole(s), before)
}

func TestActsAreOnlyReadAndNotKept(t *testing.T) {
	for _, a := range samples() {
		expect := tell(Do(given(), 1, a))
		x := a
		x.Data = roomyList(a.Data, '?')
		before := tell(x, x.Data[:cap(x.Data)])
		got, err := Do(given(), 1, x)
		want(t, "Do of an act with spare room", tell(got, err), expect)
		want(t, "the act", tell(x, x.Data[:cap(x.Data)]), before)
		spoilBytes(x.Data)
		want(t, "the answer, when the act changed", tell(got, err), expect)

		x.Data = roomyList(a.Data, '?')
		got, _ = Do(given(), 1, x)
		spoil(got)
		want(t, "the act, when the answer changed", tell(x, x.Data[:cap(x.Data)]), before)
	}
}

func TestLogsAreOnlyReadAndNotKept(t *testing.T) {
	for _, log := range logs() {
		expect := tell(Take(given(), 1, log))
		r := roomyLog(log)
		before := wholeLog(r)
		got, vs := Take(given(), 1, r)
		want(t, "Take of a log with spare room", tell(got, vs), expect)
		want(t, "the log", wholeLog(r), before)
		spoilLog(r)
		want(t, "the answer, when the log changed", tell(got, vs), expect)

		r = roomyLog(log)
		got, _ = Take(given(), 1, r)
		spoil(got)
		want(t, "the log, when the answer changed", wholeLog(r), before)
	}
}

func TestPastIsOnlyReadAndNotKept(t *testing.T) {
	for _, l := range [][]api.Past{nil, given().Past, slices.Concat(given().Past, past(1, api.Act{Kind: 9, Data: []byte("none")}))} {
		expect := tell(Replay(l))
		p := roomyPast(l)
		before := wholePast(p)
		got, err := Replay(p)
		want(t, "Replay of acts with spare room", tell(got, err), expect)
		want(t, "the acts", wholePast(p), before)
		spoilPast(p)
		want(t, "the tree, when the acts changed", tell(got, err), expect)

		p = roomyPast(l)
		got, _ = Replay(p)
		spoilTree(got)
		want(t, "the acts, when the tree changed", wholePast(p), before)
	}
}

// sharesNothing: no list of what is answered changes with another one.
func sharesNothing(t *testing.T, what string, call func() api.Server) {
	t.Helper()
	expect := call()
	s := call()
	spoilTree(s.Tree)
	want(t, what+": what is past, when the tree changed", s.Past, expect.Past)
	s = call()
	spoilPast(s.Past)
	want(t, what+": the tree, when what is past changed", s.Tree, expect.Tree)
	for i := range expect.Tree {
		s = call()
		spoilTree(s.Tree[i : i+1 : i+1])
		want(t, what+": the other nodes, when one changed", slices.Delete(s.Tree, i, i+1), slices.Delete(Own(expect).Tree, i, i+1))
	}
	for i := range expect.Past {
		s = call()
		spoilPast(s.Past[i : i+1 : i+1])
		want(t, what+": the other acts, when one changed", slices.Delete(s.Past, i, i+1), slices.Delete(Own(expect).Past, i, i+1))
	}
}

func TestListsOfAnAnswerShareNothing(t *testing.T) {
	sharesNothing(t, "New", New)
	// One Data in two nodes, two acts and two records.
	both := []byte("both")
	one := given()
	one.Tree[2].Data, one.Tree[3].Data, one.Past[3].Act.Data, one.Past[4].Act.Data = both, both, both, both
	sharesNothing(t, "Own", func() api.Server { return Own(one) })
	for _, a := range samples() {
		if a.Data = both; a.Kind == 9 {
			continue
		}
		sharesNothing(t, "Do", func() api.Server {
			s, _ := Do(one, 1, a)
			return s
		})
	}
	for _, log := range append(logs(), own(api.Act{Kind: 3, Fid: 2, Data: both}, api.Act{Kind: 3, Fid: 3, Data: both})) {
		sharesNothing(t, "Take", func() api.Server {
			s, _ := Take(one, 1, log)
			return s
		})
	}
	sharesNothing(t, "Replay", func() api.Server {
		l, _ := Replay(one.Past)
		return api.Server{Tree: l}
	})
}

// TestTwoOfOne: what is made of one server, twice, shares nothing.
func TestTwoOfOne(t *testing.T) {
	a, b := New(), New()
	spoil(a)
	want(t, "a New server, when another one changed", b, New())
	s := roomy(given())
	x, _ := Do(s, 1, storeAct(3, "x"))
	y, _ := Do(s, 2, storeAct(3, "y"))
	expect := tell(y)
	spoil(x)
	want(t, "a server, when another one of the same changed", tell(y), expect)
}
