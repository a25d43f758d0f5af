package acts

import (
	"maps"
	"slices"
	"testing"

	"longabsence/api"
	"longabsence/names"
	"longabsence/tree"
)

// item is a node told another way: by maps.
type item struct {
	dir     bool
	data    string
	entries map[string]int
	version int
}

type model map[int]item

func (m model) own() model {
	out := model{}
	for fid, x := range m {
		x.entries = maps.Clone(x.entries)
		out[fid] = x
	}
	return out
}

// below tells whether fid is in, or under it, by going up from fid.
func (m model) below(fid, in int) bool {
	for range len(m) + 1 {
		if fid == in {
			return true
		}
		up := false
		for dir, x := range m {
			for _, to := range x.entries {
				if to == fid && !up {
					fid, up = dir, true
				}
			}
		}
		if !up {
			return false
		}
	}
	return false
}

type check struct {
	wrong bool
	err   api.Errno
}

func (m model) directory(fid int) []check {
	x, there := m[fid]
	return []check{{!there, api.ErrAway}, {!x.dir, api.ErrDir}}
}

func (m model) free(fid int, name string, without ...string) []check {
	entries := maps.Clone(m[fid].entries)
	for _, w := range without {
		delete(entries, w)
	}
	_, taken := entries[name]
	return []check{{!names.Name(name), api.ErrName}, {taken, api.ErrName}, {len(entries) >= 6, api.ErrMany}}
}

// checks are the chapter's errors, in its order, for the act's kind.
func (m model) checks(a api.Act) []check {
	x, there := m[a.Fid]
	to, named := m[a.Dir].entries[a.Name]
	held := slices.Concat(m.directory(a.Dir), []check{{!named, api.ErrNone}, {to != a.Fid, api.ErrStale}})
	switch a.Kind {
	case 1, 2:
		return slices.Concat(m.directory(a.Dir), m.free(a.Dir, a.Name), []check{{there || a.Fid == 0, api.ErrStale}, {len(m) >= 24, api.ErrMany}})
	case 3:
		return []check{{!there, api.ErrAway}, {x.dir, api.ErrFile}, {len(a.Data) > 20, api.ErrMuch}}
	case 4:
		return slices.Concat(held, []check{{!there, api.ErrAway}, {len(x.entries) > 0, api.ErrEmpty}})
	case 5:
		var without []string
		if a.Dir == a.To {
			without = append(without, a.Name)
		}
		return slices.Concat(held, m.directory(a.To), m.free(a.To, a.ToName, without...), []check{{!there, api.ErrAway}, {m.below(a.To, a.Fid), api.ErrLoop}})
	}
	return []check{{true, api.ErrKind}}
}

func (m model) touch(fid, version int) {
	x := m[fid]
	x.version = version
	m[fid] = x
}

// apply changes m, or tells the first error that fits.
func (m model) apply(a api.Act, version int) api.Errno {
	for _, c := range m.checks(a) {
		if c.wrong {
			return c.err
		}
	}
	switch a.Kind {
	case 1, 2:
		m[a.Dir].entries[a.Name] = a.Fid
		m[a.Fid] = item{dir: a.Kind == 2, entries: map[string]int{}, version: version}
		m.touch(a.Dir, version)
	case 3:
		m[a.Fid] = item{data: string(a.Data), entries: map[string]int{}, version: version}
	case 4:
		delete(m[a.Dir].entries, a.Name)
		delete(m, a.Fid)
		m.touch(a.Dir, version)
	case 5:
		delete(m[a.Dir].entries, a.Name)
		m[a.To].entries[a.ToName] = a.Fid
		m.touch(a.Dir, version)
		m.touch(a.To, version)
	}
	return api.OK
}

func (m model) nodes() []api.Node {
	var l []api.Node
	for _, fid := range slices.Sorted(maps.Keys(m)) {
		x := m[fid]
		n := api.Node{Fid: fid, Dir: x.dir, Data: []byte(x.data), Version: x.version}
		for _, name := range slices.Sorted(maps.Keys(x.entries)) {
			n.Entries = append(n.Entries, api.Entry{Name: name, Fid: x.entries[name]})
		}
		l = append(l, n)
	}
	return l
}

// dealt reads an act from six bytes, so that many of them can be done: most directories are there, most names are free where they must be.
func dealt(s []byte, l []api.Node) (api.Act, []byte) {
	kinds := []int{1, 1, 2, 2, 2, 3, 4, 5, 5, 5, 5, 0, 6}
	words := []string{"a", "b", "c", "d", "e", "f", "g", "h", "i", "j", "", "A", "toolong12"}
	fid := func(k byte) int {
		if k < 208 {
			return l[int(k)%len(l)].Fid
		}
		return int(k)%48 - 3
	}
	word := func(k byte) string { return words[int(k)%len(words)] }
	a := api.Act{
		Kind: kinds[int(s[0])%len(kinds)], Fid: fid(s[1]), Dir: fid(s[2]), Name: word(s[3]),
		To: fid(s[4]), ToName: word(s[5]), Data: slices.Repeat(s[5:6], int(s[4])%23),
	}
	n, _ := tree.Find(l, a.Dir)
	if a.Kind < 3 && s[1] < 192 {
		a.Fid = int(s[1])%48 - 3
	}
	if a.Kind > 3 && s[1] < 192 && len(n.Entries) > 0 {
		e := n.Entries[int(s[3])%len(n.Entries)]
		a.Name, a.Fid = e.Name, e.Fid
	}
	return a, s[6:]
}

// FuzzActs holds acts, one behind the other, against the promise's words, told another way.
func FuzzActs(f *testing.F) {
	f.Add([]byte{})
	seed := uint32(1)
	for range 300 {
		s := make([]byte, 1800)
		for i := range s {
			seed = seed*1664525 + 1013904223
			s[i] = byte(seed >> 24)
		}
		f.Add(s)
	}
	f.Fuzz(func(t *testing.T, s []byte) {
		l, m := tree.New(), model{0: {dir: true, entries: map[string]int{}}}
		for version := 1; len(s) >= 6 && version < 400; version++ {
			var a api.Act
			a, s = dealt(s, l)
			after := m.own()
			expect := after.apply(a, version)
			got, err := Apply(l, a, version)
			if err != expect {
				t.Fatalf("Apply(%+v, %+v) tells %d, want %d", l, a, err, expect)
			}
			if err != api.OK {
				if len(got) != 0 {
					t.Fatalf("Apply(%+v, %+v) = %+v beside an error", l, a, got)
				}
				continue
			}
			if l, m = got, after; tell(l) != tell(m.nodes()) {
				t.Fatalf("%+v makes %+v, want %+v", a, l, m.nodes())
			}
			staysATree(t, l)
		}
	})
}

// staysATree: each node but the root is the entry of just one, from the root all of them are reached, and no limit is passed.
func staysATree(t *testing.T, l []api.Node) {
	led := map[int]int{}
	for _, n := range l {
		for _, e := range n.Entries {
			led[e.Fid]++
		}
		if len(n.Entries) > api.MaxEntries || len(n.Data) > api.MaxData || n.Dir && len(n.Data) > 0 || !n.Dir && len(n.Entries) > 0 {
			t.Fatalf("%+v is no node", n)
		}
	}
	for _, n := range l {
		if n.Fid != api.Root && led[n.Fid] != 1 || !tree.Within(l, n.Fid, api.Root) {
			t.Fatalf("%+v is no tree, at %d", l, n.Fid)
		}
	}
	if len(l) > api.MaxNodes || len(led) != len(l)-1 {
		t.Fatalf("%+v has %d nodes, and %d are named", l, len(l), len(led))
	}
}
