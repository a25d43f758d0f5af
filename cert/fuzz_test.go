package cert

import (
	"testing"

	"longabsence/acts"
	"longabsence/api"
	"longabsence/tree"
)

// model judges record number i by looking, each time, at all verdicts ahead of it: the promise's words, told another way.
type model struct {
	log      []api.Rec
	verdicts []api.Verdict
	done     []api.Act
}

// here is the fid that one of the log has here, if a record ahead of i, or, as next, i itself makes it.
func (m *model) here(fid, i, next int) int {
	for k := 0; k < i; k++ {
		r := m.log[k].Act
		if m.verdicts[k].Err == 0 && r.Fid == fid && (r.Kind == 1 || r.Kind == 2) {
			return m.verdicts[k].Fid
		}
	}
	if r := m.log[i].Act; r.Fid == fid && (r.Kind == 1 || r.Kind == 2) {
		return next
	}
	return fid
}

func (m *model) rests(i int) bool {
	a := m.log[i].Act
	for k := 0; k < i; k++ {
		if fid := m.log[k].Act.Fid; m.verdicts[k].Err != 0 && (a.Fid == fid || a.Kind != 3 && a.Dir == fid || a.Kind == 5 && a.To == fid) {
			return true
		}
	}
	return false
}

func (m *model) twice(i int) bool {
	a := m.log[i].Act
	if a.Kind != 1 && a.Kind != 2 {
		return false
	}
	for k := 0; k < i; k++ {
		b := m.log[k].Act
		if m.verdicts[k].Err == 0 && (b.Kind == 1 || b.Kind == 2) && b.Fid == a.Fid {
			return true
		}
	}
	return a.Fid >= 0
}

func (m *model) stale(l []api.Node, a api.Act, version int) bool {
	if version < 0 || a.Kind != 3 && a.Kind != 4 {
		return false
	}
	for _, b := range m.done {
		if b.Fid == a.Fid || b.Kind != 3 && b.Dir == a.Fid || b.Kind == 5 && b.To == a.Fid {
			return false
		}
	}
	for _, n := range l {
		if n.Fid == a.Fid {
			return n.Version != version
		}
	}
	return true
}

func (m *model) judge(l []api.Node, next, version int) ([]api.Node, int) {
	for i, r := range m.log {
		a := r.Act
		a.Fid, a.Dir = m.here(r.Act.Fid, i, next), m.here(r.Act.Dir, i, next)
		if a.Kind == 5 {
			a.To = m.here(r.Act.To, i, next)
		}
		after, err := acts.Apply(l, a, version+len(m.done))
		switch {
		case m.rests(i):
			err = api.ErrRests
		case m.twice(i):
			err = api.ErrForm
		case m.stale(l, a, r.Version):
			err = api.ErrStale
		}
		if err != api.OK {
			m.verdicts = append(m.verdicts, api.Verdict{Err: err})
			continue
		}
		m.verdicts, m.done, l = append(m.verdicts, api.Verdict{Fid: a.Fid}), append(m.done, a), after
		if a.Kind == 1 || a.Kind == 2 {
			next++
		}
	}
	return l, next
}

// anyRec reads a record from five bytes: of few fids and names, so that they meet, and of acts that can mostly be done.
func anyRec(s []byte, l []api.Node, made int) api.Rec {
	kinds := []int{1, 2, 2, 3, 3, 4, 5, 5, 1, 3, 6}
	words := []string{"a", "b", "c", "d", "e", "f", "N"}
	fid := func(k byte) int {
		switch k % 8 {
		case 0:
			return int(k)/8%3 - 2
		case 1, 2:
			return -1 - int(k)/8%(made+1)
		}
		return l[int(k)/8%len(l)].Fid
	}
	a := api.Act{Kind: kinds[int(s[0])%len(kinds)], Fid: fid(s[1]), Dir: fid(s[2]), To: fid(s[3]), Name: words[int(s[4])%7], ToName: words[int(s[4])/7%7], Data: s[:int(s[4])%4]}
	if acts.Makes(a) && s[0] < 230 {
		a.Fid = -1 - made
	}
	if n, there := tree.Find(l, a.Dir); there && a.Kind > 3 && s[0] < 230 && len(n.Entries) > 0 {
		e := n.Entries[int(s[1])%len(n.Entries)]
		a.Name, a.Fid = e.Name, e.Fid
	}
	version := int(s[0])/11%6 - 1
	if n, there := tree.Find(l, a.Fid); there && s[3] < 200 {
		version = n.Version
	}
	return api.Rec{Act: a, Version: version, ID: made}
}

// seeds are texts of that many bytes, always the same.
func seeds(f *testing.F, count, size int) {
	f.Add([]byte{})
	seed := uint32(1)
	for range count {
		s := make([]byte, size)
		for i := range s {
			seed = seed*1664525 + 1013904223
			s[i] = byte(seed >> 24)
		}
		f.Add(s)
	}
}

// FuzzJudge holds logs of any acts against the promise's words.
func FuzzJudge(f *testing.F) {
	seeds(f, 1500, 101)
	f.Fuzz(func(t *testing.T, s []byte) {
		next := 10
		if len(s) > 0 && s[0] < 9 {
			next = int(s[0]) - 6
		}
		var log []api.Rec
		for len(s) >= 5 && len(log) < 60 {
			log = append(log, anyRec(s, given(), len(log)))
			s = s[5:]
		}
		m := model{log: log}
		l, n := m.judge(given(), next, 6)
		want(t, "Judge", tell(Judge(given(), next, 6, log)), tell(m.verdicts, m.done, l, n))
	})
}

// FuzzGrownLogs: a client's log, whose acts it did in a tree of its own, is done as it stands if nobody else changed anything.
func FuzzGrownLogs(f *testing.F) {
	seeds(f, 500, 200)
	f.Fuzz(func(t *testing.T, s []byte) {
		mine, log, made := given(), []api.Rec(nil), 0
		for len(s) >= 5 && len(log) < 60 {
			r := anyRec(s, mine, made)
			s = s[5:]
			if acts.Makes(r.Act) {
				r.Act.Fid = -1 - made
			}
			if n, there := tree.Find(given(), r.Act.Fid); there {
				r.Version = n.Version
			}
			after, err := acts.Apply(mine, r.Act, 6)
			if err != api.OK {
				continue
			}
			if acts.Makes(r.Act) {
				made++
			}
			mine, log = after, append(log, r)
		}
		vs, as, l, next := Judge(given(), 10, 6, log)
		for i, v := range vs {
			if v.Err != api.OK {
				t.Fatalf("%+v of %+v is refused: %d", log[i], log, v.Err)
			}
		}
		if len(vs) != len(log) || len(as) != len(log) || len(l) != len(mine) || next != 10+made {
			t.Fatalf("%+v: %d verdicts, %d acts, %d nodes, next %d", log, len(vs), len(as), len(l), next)
		}
	})
}
