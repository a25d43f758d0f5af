package logs

import (
	"slices"
	"testing"

	"longabsence/api"
)

// samples are logs and records: undone, stored over, behind, and refused.
func samples() []struct {
	l []api.Rec
	r api.Rec
} {
	l := log(makeAct(-1, 0, "a"), storeAct(-1, "minus"), storeAct(5, "five"), renameAct(5, 0, "f", 3, "g"), api.Act{Kind: 9, Fid: 8, Data: []byte("none")})
	return []struct {
		l []api.Rec
		r api.Rec
	}{
		{l, last(removeAct(-1, 0, "a"))}, {l, last(storeAct(-1, "more"))}, {l, last(storeAct(5, ""))}, {l, last(makeAct(-2, 0, "b"))},
		{l, last(api.Act{Kind: 7, Data: []byte("none")})}, {nil, last(storeAct(5, "five"))}, {nil, last(removeAct(5, 0, "a"))},
		{stores(api.MaxLog), last(storeAct(5, "five"))}, {stores(api.MaxLog), last(storeAct(100, "five"))}, {log(makeAct(-1, 0, "a")), last(removeAct(-1, 0, "a"))},
	}
}

func roomyBytes(b []byte) []byte { return append(slices.Clone(b), "spare"...)[:len(b)] }

// roomy is l with spare room behind each list, all of it filled; what fills it would change the answer if it were looked at.
func roomy(l []api.Rec) []api.Rec {
	out := make([]api.Rec, 0, len(l)+2)
	for _, r := range l {
		r.Act.Data = roomyBytes(r.Act.Data)
		out = append(out, r)
	}
	spare := out[len(out):cap(out)]
	for i := range spare {
		spare[i] = api.Rec{Act: renameAct(-1, 0, "a", -1, "a"), Version: -99, ID: -99}
		spare[i].Act.Data = []byte("spare")
	}
	return out
}

// whole tells a log with its spare room.
func whole(l []api.Rec) string {
	out := tell(len(l))
	for _, r := range l[:cap(l)] {
		out += tell(r, r.Act.Data[:cap(r.Act.Data)])
	}
	return out
}

func spoilAct(a *api.Act) {
	b := a.Data[:cap(a.Data)]
	for i := range b {
		b[i] = '!'
	}
	*a = api.Act{Kind: -99, Name: "!"}
}

// spoil changes a log and its spare room.
func spoil(l []api.Rec) {
	l = l[:cap(l)]
	for i := range l {
		spoilAct(&l[i].Act)
		l[i].Version, l[i].ID = -99, -99
	}
}

// fromActs is a log of the very acts, spare room and all.
func fromActs(as []api.Act) []api.Rec {
	out := make([]api.Rec, cap(as))
	for i, a := range as[:cap(as)] {
		out[i].Act = a
	}
	return out[:len(as)]
}

// callers are the calls that answer lists, given a log and a record.
func callers() map[string]func(l []api.Rec, r api.Rec) ([]api.Rec, api.Errno) {
	return map[string]func(l []api.Rec, r api.Rec) ([]api.Rec, api.Errno){
		"Own":    func(l []api.Rec, r api.Rec) ([]api.Rec, api.Errno) { return Own(l), api.OK },
		"Acts":   func(l []api.Rec, r api.Rec) ([]api.Rec, api.Errno) { return fromActs(Acts(l)), api.OK },
		"Add":    Add,
		"Rename": func(l []api.Rec, r api.Rec) ([]api.Rec, api.Errno) { return Rename(l, 5, -1), api.OK },
		"Turn": func(l []api.Rec, r api.Rec) ([]api.Rec, api.Errno) {
			return []api.Rec{{Act: Turn(r.Act, 5, -1)}}, api.OK
		},
	}
}

func TestArgumentsAreOnlyReadAndNotKept(t *testing.T) {
	for what, call := range callers() {
		for _, x := range samples() {
			l, err := call(x.l, x.r)
			expect := tell(l, err)

			l, r := roomy(x.l), roomy([]api.Rec{x.r})
			before, beforeR := whole(l), whole(r)
			got, err := call(l, r[0])
			if tell(got, err) != expect {
				t.Errorf("%s of %+v: spare room changes the answer: %+v, want %s", what, x, got, expect)
			}
			if whole(l) != before || whole(r) != beforeR {
				t.Errorf("%s of %+v changes what it was handed", what, x)
			}
			spoil(l)
			spoil(r)
			if tell(got, err) != expect {
				t.Errorf("%s of %+v: the answer hangs on what was handed in", what, x)
			}

			l, r = roomy(x.l), roomy([]api.Rec{x.r})
			got, _ = call(l, r[0])
			spoil(got)
			if whole(l) != before || whole(r) != beforeR {
				t.Errorf("%s of %+v: what was handed in hangs on the answer", what, x)
			}
		}
	}
}

func TestListsOfAnAnswerShareNothing(t *testing.T) {
	data := []byte("both")
	l := []api.Rec{{Act: api.Act{Kind: 9, Data: data}}, {Act: api.Act{Kind: 9, Data: data}}}
	for what, call := range callers() {
		got, _ := call(l, api.Rec{Act: api.Act{Kind: 9, Data: data}})
		if len(got) < 2 {
			continue
		}
		spoil(got[:1:1])
		for _, r := range got[1:] {
			want(t, what+": the other data", string(r.Act.Data), "both")
		}
	}
}

// TestSpareRoomOfAnAnswer: who puts more behind the data of one record leaves the others as they are.
func TestSpareRoomOfAnAnswer(t *testing.T) {
	for what, call := range callers() {
		got, _ := call(stores(5), last(storeAct(9, "nine")))
		expect := tell(got)
		for _, r := range got {
			_ = append(r.Act.Data, "and much more than that"...)
		}
		want(t, what, tell(got), expect)
	}
}
