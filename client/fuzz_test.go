package client

import (
	"slices"
	"testing"

	"longabsence/api"
	"longabsence/cache"
	"longabsence/server"
	"longabsence/tree"
)

// seeds are the same for each run: so many texts of so many bytes.
func seeds(f *testing.F, texts, bytes int) {
	f.Add([]byte{})
	seed := uint32(1)
	for range texts {
		s := make([]byte, bytes)
		for i := range s {
			seed = seed*1664525 + 1013904223
			s[i] = byte(seed >> 24)
		}
		f.Add(s)
	}
}

// anyPath is one of few names, so that paths meet; mostly one that has no more than two.
func anyPath(a, b byte) string {
	path := ""
	for n := []int{0, 1, 1, 1, 2, 2, 2, 3}[a%8]; n > 0; n-- {
		path += "/" + string("abc"[b%3])
		b /= 3
	}
	switch {
	case a > 250:
		return path + "/"
	case path == "":
		return "/"
	}
	return path
}

// anyStep reads a step from six bytes.
func anyStep(b []byte) api.Step {
	kinds := []int{1, 2, 3, 3, 3, 3, 3, 4, 4, 4, 5, 5, 6, 6, 7, 7, 8, 9, 9, 10, 10, 11}
	x := api.Step{Kind: kinds[int(b[0])%len(kinds)], N: int(b[5])%104 - 1, Path: anyPath(b[1], b[2]), ToPath: anyPath(b[3], b[4])}
	if x.Kind == api.StepWrite {
		x.Data = slices.Repeat(b[5:6], int(b[5])%22)
	}
	return x
}

// right holds what is so of every client behind each step.
func right(t *testing.T, c api.Client, s api.Server) {
	if len(c.Cache) > max(c.Room, 0) {
		t.Fatalf("%d are kept, of room for %d", len(c.Cache), c.Room)
	}
	if len(c.Hoards) > api.MaxHoards || len(c.Log) > api.MaxLog {
		t.Fatalf("there is too much in %+v", c)
	}
	if c.Away {
		return
	}
	if len(c.Log) > 0 {
		t.Fatalf("one who is here has a log: %+v", c)
	}
	for _, k := range c.Cache {
		n, there := tree.Find(s.Tree, k.Node.Fid)
		if k.Dirty || !there || tell(n) != tell(k.Node) {
			t.Fatalf("%+v is kept here, of %+v", k, s.Tree)
		}
	}
}

// reads: who is here reads what is there.
func reads(t *testing.T, s api.Server, x api.Step, r api.Reply) {
	if x.Kind != api.StepRead || r.Err != api.OK {
		return
	}
	n, there := at(s, x.Path)
	if !there || n.Dir || string(n.Data) != string(r.Data) {
		t.Fatalf("%q is read at %s, of %+v", r.Data, x.Path, s.Tree)
	}
}

func at(s api.Server, path string) (api.Node, bool) {
	m := &teller{c: New(0, 0), s: s}
	var n api.Node
	err := caught(func() { n = m.walk(m.split(path), 0) })
	return n, err == api.OK
}

// FuzzClients holds three clients of one server, step by step, against the promises' words, told another way.
func FuzzClients(f *testing.F) {
	seeds(f, 300, 480)
	f.Fuzz(func(t *testing.T, b []byte) {
		s, clients := server.New(), []api.Client{New(0, api.MaxRoom), New(1, 4), New(2, 7)}
		if len(b) > 0 {
			clients[1].Room = int(b[0]) % 9
		}
		for steps := 0; len(b) >= 7 && steps < 80; steps++ {
			who, x := int(b[0])%3, anyStep(b[1:7])
			b = b[7:]
			before := tell(clients[who], s, x)
			c, after, r := Do(clients[who], s, x)
			want(t, "what was handed in", tell(clients[who], s, x), before)
			tc, ts, tr := told(clients[who], s, x)
			if got, expect := tell(c, after, r), tell(tc, ts, tr); got != expect {
				t.Fatalf("Do of %s = %s, want %s", before, got, expect)
			}
			if clients[who].Away && x.Kind != api.StepBack {
				// Who is away asks nobody.
				oc, _, or := Do(clients[who], api.Server{}, x)
				want(t, "what one does who is away, without a server", tell(oc, or), tell(c, r))
				want(t, "the server of one who is away", after, s)
			} else {
				reads(t, after, x, r)
			}
			clients[who], s = c, after
			for i, c := range clients {
				if !c.Away {
					clients[i].Cache = cache.Fresh(c.Cache, s.Tree)
				}
				right(t, clients[i], s)
			}
		}
		l, err := server.Replay(s.Past)
		want(t, "all that was done", tell(l, err), tell(s.Tree, api.OK))
	})
}

// paths tells a tree by its paths: what fids there are is not seen.
func paths(l []api.Node, fid int, path string) string {
	n, _ := tree.Find(l, fid)
	out := tell(path, n.Dir, n.Data)
	for _, e := range n.Entries {
		out += paths(l, e.Fid, path+"/"+e.Name)
	}
	return out
}

// FuzzAwayOrHere: of one who keeps all it is the same whether it is away or here, if nobody else is there.
func FuzzAwayOrHere(f *testing.F) {
	seeds(f, 300, 300)
	f.Fuzz(func(t *testing.T, b []byte) {
		c, s := New(1, api.MaxRoom), server.New()
		next := func() api.Step {
			x := anyStep(b[:6])
			b = b[6:]
			if x.Kind >= api.StepAway {
				x.Kind = api.StepRead
			}
			return x
		}
		for n := 0; len(b) >= 6 && n < 15; n++ {
			c, s, _ = Do(c, s, next())
		}
		for _, n := range s.Tree {
			c.Cache, _ = cache.Keep(c.Cache, c.Room, api.Kept{Node: n})
		}
		away, _, _ := Do(c, s, api.Step{Kind: api.StepAway})
		there := s
		for len(b) >= 6 {
			x := next()
			var r, other api.Reply
			away, there, r = Do(away, there, x)
			if r.Err == api.ErrMany {
				// The log may be full, of which one who is here knows nothing: no more is held against each other.
				if x.Kind == api.StepWrite {
					return
				}
				break
			}
			c, s, other = Do(c, s, x)
			if tell(r) != tell(other) {
				t.Fatalf("away %+v tells %+v, here %+v", x, r, other)
			}
		}
		n := len(away.Log)
		away, there, r := Do(away, there, api.Step{Kind: api.StepBack})
		want(t, "what comes of the log", r, api.Reply{N: n})
		want(t, "what is for repair", away.Repair, []api.Rec{})
		want(t, "the tree", paths(there.Tree, 0, ""), paths(s.Tree, 0, ""))
	})
}
