package cache

import (
	"maps"
	"slices"
	"testing"

	"longabsence/api"
)

// The promise's words, told another way: all are put in a line, in the order in which they would go.
func inOrder(l []api.Kept) []int {
	var line []int
	for i, k := range l {
		if k.Dirty || k.Node.Fid == 0 {
			continue
		}
		at := 0
		for at < len(line) && !ahead(k, l[line[at]]) {
			at++
		}
		line = slices.Insert(line, at, i)
	}
	return line
}

func ahead(a, b api.Kept) bool {
	if a.Worth != b.Worth {
		return a.Worth < b.Worth
	}
	if a.Last != b.Last {
		return a.Last < b.Last
	}
	return a.Node.Fid < b.Node.Fid
}

func toldKeep(l []api.Kept, room int, k api.Kept) ([]api.Kept, api.Errno) {
	if i := slices.Index(fids(l), k.Node.Fid); i >= 0 {
		if l[i].Worth > k.Worth {
			k.Worth = l[i].Worth
		}
		return slices.Concat(l[:i], []api.Kept{k}, l[i+1:]), api.OK
	}
	line, gone := inOrder(l), 0
	if len(l) >= room {
		gone = len(l) - room + 1
	}
	if gone > len(line) {
		return nil, api.ErrMany
	}
	var out []api.Kept
	for i, x := range l {
		if !slices.Contains(line[:gone], i) {
			out = append(out, x)
		}
	}
	return append(out, k), api.OK
}

func toldTree(l []api.Kept) []api.Node {
	all := map[int]api.Node{}
	for _, k := range l {
		all[k.Node.Fid] = k.Node
	}
	var out []api.Node
	for _, fid := range slices.Sorted(maps.Keys(all)) {
		out = append(out, all[fid])
	}
	return out
}

func toldFresh(l []api.Kept, at []api.Node) []api.Kept {
	versions := map[int]int{}
	for _, n := range at {
		versions[n.Fid] = n.Version
	}
	var out []api.Kept
	for _, k := range l {
		if version, there := versions[k.Node.Fid]; k.Dirty || there && version == k.Node.Version {
			out = append(out, k)
		}
	}
	return out
}

// anyKept reads one from five bytes: of few fids, versions and worths, so that they meet.
func anyKept(b []byte) api.Kept {
	k := api.Kept{Node: api.Node{Fid: int(b[0])%14 - 3, Version: int(b[1]) % 3}, Dirty: b[2]%4 == 0, Worth: int(b[3])%5 - 1, Last: int(b[4])%5 - 1}
	if b[2]/4%2 == 0 {
		k.Node.Data = slices.Repeat(b[1:2], int(b[1])%5)
	} else {
		k.Node.Dir, k.Node.Entries = true, []api.Entry{{Name: "a", Fid: int(b[0])}}
	}
	return k
}

// anyTree has some nodes, of the versions that those of l have or others.
func anyTree(b []byte) []api.Node {
	var at []api.Node
	for fid := -3; fid < 11; fid++ {
		if x := int(b[0])*(fid+4) + int(b[1]); x%3 != 0 {
			at = append(at, api.Node{Fid: fid, Version: x % 4})
		}
	}
	return at
}

// stepped holds one call that changes a cache against what is told of it, and answers the cache then.
func stepped(t *testing.T, l []api.Kept, by byte, b []byte) []api.Kept {
	k, n := anyKept(b), int(by)/8%12-1
	switch by % 8 {
	case 0:
		at := anyTree(b)
		got := Fresh(l, at)
		want(t, "Fresh", tell(l, at, got), tell(l, at, toldFresh(l, at)))
		if b[4] < 100 {
			return got
		}
	case 1:
		expect := slices.Clone(l)
		for i := range l {
			if l[i].Node.Fid == k.Node.Fid {
				expect[i].Last = n
			}
		}
		got := Use(l, k.Node.Fid, n)
		want(t, "Use", tell(l, k.Node.Fid, n, got), tell(l, k.Node.Fid, n, expect))
		return got
	default:
		got, err := Keep(l, n, k)
		expect, expectErr := toldKeep(l, n, k)
		want(t, "Keep", tell(l, n, k, got, err), tell(l, n, k, expect, expectErr))
		if err == api.OK {
			return got
		}
	}
	return l
}

// FuzzCache holds what a cache becomes, call by call, against the promise's words, told another way.
func FuzzCache(f *testing.F) {
	f.Add([]byte{})
	seed := uint32(1)
	for range 200 {
		s := make([]byte, 300)
		for i := range s {
			seed = seed*1664525 + 1013904223
			s[i] = byte(seed >> 24)
		}
		f.Add(s)
	}
	f.Fuzz(func(t *testing.T, b []byte) {
		var l []api.Kept
		for steps := 0; len(b) >= 6 && steps < 60; steps++ {
			before, was := tell(l), l
			l, b = stepped(t, l, b[0], b[1:6]), b[6:]
			want(t, "the cache that was handed in", tell(was), before)
			want(t, "how many there are of a fid", len(slices.Compact(slices.Sorted(slices.Values(fids(l))))), len(l))
			want(t, "its copy", Own(l), l)
			want(t, "Tree", Tree(l), toldTree(l))
			worst := -1
			if line := inOrder(l); len(line) > 0 {
				worst = line[0]
			}
			want(t, "Worst", tell(l, Worst(l)), tell(l, worst))
			for fid := -4; fid < 12; fid++ {
				want(t, "Has", Has(l, fid), slices.Contains(fids(l), fid))
			}
			var clean []api.Kept
			for _, k := range l {
				if !k.Dirty {
					clean = append(clean, k)
				}
			}
			want(t, "Clean", Clean(l), clean)
		}
	})
}
