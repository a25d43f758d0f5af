package logs

import (
	"testing"

	"longabsence/acts"
	"longabsence/api"
	"longabsence/tree"
)

// names tells whether the record names the fid, by the words of chapter 3.
func names(r api.Rec, fid int) bool {
	a := r.Act
	return a.Fid == fid || a.Kind != 3 && a.Dir == fid || a.Kind == 5 && a.To == fid
}

// takenBack tells whether l made what r removes, and did nothing with it since, by a walk from the end of l.
func takenBack(l []api.Rec, r api.Rec) bool {
	fid, dir, name := r.Act.Fid, r.Act.Dir, r.Act.Name
	clean, back := true, false
	for i := len(l) - 1; i >= 0; i-- {
		a := l[i].Act
		if (a.Kind == 1 || a.Kind == 2) && a.Fid == fid {
			back = clean && a.Dir == dir && a.Name == name
		}
		onName := a.Kind != 3 && a.Kind > 0 && a.Kind < 6 && a.Dir == dir && a.Name == name
		toName := a.Kind == 5 && a.To == dir && a.ToName == name
		clean = clean && !onName && !toName && (a.Kind == 3 || !names(l[i], fid))
	}
	return r.Act.Kind == 4 && back
}

// added is the promise's words, told another way.
func added(l []api.Rec, r api.Rec) ([]api.Rec, api.Errno) {
	var out []api.Rec
	back := takenBack(l, r)
	for _, x := range l {
		gone := r.Act.Kind == 3 && x.Act.Kind == 3 && x.Act.Fid == r.Act.Fid
		if back {
			gone = names(x, r.Act.Fid)
		}
		if !gone {
			out = append(out, x)
		}
	}
	if back {
		return out, api.OK
	}
	if len(out) > 19 {
		return nil, api.ErrMany
	}
	return append(out, r), api.OK
}

// seeds are texts of that many bytes, always the same.
func seeds(f *testing.F, count, size int) {
	f.Add([]byte{})
	seed := uint32(1)
	for range count {
		s := make([]byte, size)
		for i := range s {
			seed = seed*1664525 + 1013904223
			s[i] = byte(seed >> 24)
		}
		f.Add(s)
	}
}

// anyAct reads an act from three bytes: of few fids and names, so that they meet.
func anyAct(s []byte) api.Act {
	kinds := []int{1, 1, 2, 3, 3, 4, 4, 4, 5, 6}
	words := []string{"a", "a", "b"}
	fid := func(k byte) int { return -(int(k) % 5) }
	return api.Act{
		Kind: kinds[int(s[0])%len(kinds)], Fid: fid(s[0] / 10), Dir: fid(s[1]), To: fid(s[1] / 5),
		Name: words[int(s[2])%3], ToName: words[int(s[2])/3%3], Data: s[:int(s[2])/9%3],
	}
}

// FuzzAdd holds logs that grow, of any acts, against the promise's words.
func FuzzAdd(f *testing.F) {
	seeds(f, 1000, 120)
	f.Fuzz(func(t *testing.T, s []byte) {
		var l []api.Rec
		for id := 1; len(s) >= 3; id++ {
			r := api.Rec{Act: anyAct(s), Version: id % 7, ID: id}
			s = s[3:]
			expect, wrong := added(l, r)
			got, err := Add(l, r)
			if err != wrong || tell(got) != tell(expect) {
				t.Fatalf("Add(%+v, %+v) = %+v, %d, want %+v, %d", l, r, got, err, expect, wrong)
			}
			if err == api.OK {
				l = got
			} else {
				l = l[len(l)/2:]
			}
		}
	})
}

// doable reads an act that can mostly be done in the tree; made is the fid of what it makes.
func doable(s []byte, l []api.Node, made int) api.Act {
	kinds := []int{1, 1, 2, 2, 3, 3, 4, 4, 4, 5}
	words := []string{"a", "b", "c"}
	node := func(k byte) api.Node { return l[int(k)%len(l)] }
	a := api.Act{
		Kind: kinds[int(s[0])%len(kinds)], Fid: made, Dir: node(s[1]).Fid, To: node(s[2]).Fid,
		Name: words[int(s[3])%3], ToName: words[int(s[3])/3%3], Data: s[2:3],
	}
	if a.Kind == api.ActStore {
		a.Fid = node(s[2]).Fid
	}
	if e := node(s[1]).Entries; a.Kind > api.ActStore && len(e) > 0 {
		a.Name, a.Fid = e[int(s[3])%len(e)].Name, e[int(s[3])%len(e)].Fid
	}
	return a
}

// FuzzShortIsEnough: acts that were done in turn, and their log, make the same tree.
func FuzzShortIsEnough(f *testing.F) {
	seeds(f, 400, 400)
	f.Fuzz(func(t *testing.T, s []byte) {
		begin, _, _ := acts.All(tree.New(), []api.Act{dirAct(1, 0, "a"), makeAct(2, 1, "a"), makeAct(3, 0, "b"), storeAct(3, "x")}, 1)
		l, log := begin, []api.Rec(nil)
		for id := 1; len(s) >= 4; id++ {
			a := doable(s, l, -id)
			s = s[4:]
			next, err := acts.Apply(l, a, 1)
			if err != api.OK {
				continue
			}
			short, err := Add(log, api.Rec{Act: a, ID: id})
			if err != api.OK {
				begin, l, log = l, next, []api.Rec{{Act: a, ID: id}}
				continue
			}
			l, log = next, short
			replayed, n, err := acts.All(begin, Acts(log), 1)
			if err != api.OK || !tree.Same(replayed, l) {
				t.Fatalf("%+v makes of %+v: %+v (%d, %d), not %+v", log, begin, replayed, n, err, l)
			}
			risingIDs(t, log)
		}
	})
}

func risingIDs(t *testing.T, l []api.Rec) {
	for i, r := range l {
		if i > 0 && r.ID <= l[i-1].ID {
			t.Fatalf("%+v is not in the order in which it was logged", l)
		}
	}
}
