package cert

import (
	"slices"
	"testing"

	"longabsence/api"
)

// samples are logs: of nothing, of what is done, of what is refused, of each kind.
func samples() [][]api.Rec {
	all := own(dirAct(-1, 0, "a"), makeAct(-2, -1, "b"), storeAct(-2, "minus"), storeAct(2, "much"), removeAct(3, 1, "g"), renameAct(2, 0, "f", -1, "g"), api.Act{Kind: 9, Fid: 8, Data: []byte("none")}, storeAct(8, "rests"), makeAct(4, 0, "h"))
	for i := range all {
		if all[i].Act.Data == nil {
			all[i].Act.Data = []byte("needless")
		}
	}
	return [][]api.Rec{nil, {}, all, all[2:], all[6:], all[3:4], {seen(2, storeAct(2, "two"))}, {seen(3, storeAct(2, "two"))}}
}

// roomyList is l with spare room behind it, filled by x.
func roomyList[T any](l []T, x T) []T {
	return append(slices.Clone(l), x, x)[:len(l)]
}

// roomyTree is l with spare room behind each list; what fills it would change the answer if it were looked at.
func roomyTree(l []api.Node) []api.Node {
	out := roomyList(l, api.Node{Fid: 99, Dir: true, Data: []byte("spare")})
	for i, n := range out {
		out[i].Data = roomyList(n.Data, '?')
		out[i].Entries = roomyList(n.Entries, api.Entry{Name: "z", Fid: 99})
	}
	return out
}

func roomyLog(l []api.Rec) []api.Rec {
	out := roomyList(l, seen(-1, makeAct(-99, 0, "spare")))
	for i, r := range out {
		out[i].Act.Data = roomyList(r.Act.Data, '?')
	}
	return out
}

// wholeTree tells a tree with its spare room.
func wholeTree(l []api.Node) string {
	out := tell(len(l))
	for _, n := range l[:cap(l)] {
		out += tell(n, n.Data[:cap(n.Data)], n.Entries[:cap(n.Entries)])
	}
	return out
}

func wholeLog(l []api.Rec) string {
	out := tell(len(l))
	for _, r := range l[:cap(l)] {
		out += tell(r, r.Act.Data[:cap(r.Act.Data)])
	}
	return out
}

func spoilBytes(b []byte) {
	for i := range b[:cap(b)] {
		b[:cap(b)][i] = '!'
	}
}

func spoilTree(l []api.Node) {
	l = l[:cap(l)]
	for i, n := range l {
		spoilBytes(n.Data)
		e := n.Entries[:cap(n.Entries)]
		for k := range e {
			e[k] = api.Entry{Name: "!", Fid: -99}
		}
		l[i] = api.Node{Fid: -99}
	}
}

func spoilActs(l []api.Act) {
	l = l[:cap(l)]
	for i, a := range l {
		spoilBytes(a.Data)
		l[i] = api.Act{Kind: -99, Name: "!"}
	}
}

func spoilLog(l []api.Rec) {
	l = l[:cap(l)]
	for i, r := range l {
		spoilBytes(r.Act.Data)
		l[i] = api.Rec{ID: -99}
	}
}

func TestArgumentsAreOnlyReadAndNotKept(t *testing.T) {
	for _, log := range samples() {
		expect := tell(Judge(given(), 10, 6, log))

		l, r := roomyTree(given()), roomyLog(log)
		beforeTree, beforeLog := wholeTree(l), wholeLog(r)
		vs, as, m, next := Judge(l, 10, 6, r)
		want(t, "the answer, of lists with spare room", tell(vs, as, m, next), expect)
		want(t, "the tree that was handed in", wholeTree(l), beforeTree)
		want(t, "the log that was handed in", wholeLog(r), beforeLog)
		spoilTree(l)
		spoilLog(r)
		want(t, "the answer, when what was handed in changed", tell(vs, as, m, next), expect)

		l, r = roomyTree(given()), roomyLog(log)
		_, as, m, _ = Judge(l, 10, 6, r)
		spoilTree(m)
		spoilActs(as)
		want(t, "the tree, when the answer changed", wholeTree(l), beforeTree)
		want(t, "the log, when the answer changed", wholeLog(r), beforeLog)
	}
}

func TestListsOfAnAnswerShareNothing(t *testing.T) {
	for _, log := range samples() {
		_, expectActs, expectTree, _ := Judge(given(), 10, 6, log)
		_, as, m, _ := Judge(given(), 10, 6, log)
		spoilActs(as)
		want(t, "the tree, when the acts changed", m, expectTree)
		_, as, m, _ = Judge(given(), 10, 6, log)
		spoilTree(m)
		want(t, "the acts, when the tree changed", as, expectActs)
		for i := range m {
			_, as, m, _ = Judge(given(), 10, 6, log)
			spoilTree(m[i : i+1 : i+1])
			want(t, "the nodes behind, when one changed", m[i+1:], expectTree[i+1:])
		}
		for i := range expectActs {
			_, as, _, _ = Judge(given(), 10, 6, log)
			spoilActs(as[i : i+1 : i+1])
			want(t, "the acts behind, when one changed", as[i+1:], expectActs[i+1:])
		}
	}
}

// TestOneDataInTwoRecords: what two records share, their acts don't.
func TestOneDataInTwoRecords(t *testing.T) {
	data := []byte("both")
	log := own(api.Act{Kind: api.ActStore, Fid: 2, Data: data}, api.Act{Kind: api.ActStore, Fid: 3, Data: data})
	_, as, m, _ := Judge(given(), 10, 6, log)
	spoilActs(as[:1:1])
	want(t, "the other act", string(as[1].Data), "both")
	want(t, "the nodes", []string{string(m[2].Data), string(m[3].Data)}, []string{"both", "both"})
	spoilTree(m[2:3:3])
	want(t, "the other node", string(m[3].Data), "both")
}
