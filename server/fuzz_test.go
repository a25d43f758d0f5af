package server

import (
	"slices"
	"testing"

	"longabsence/acts"
	"longabsence/api"
	"longabsence/cert"
	"longabsence/tree"
)

// told is the server that did this: the promise's words, told another way, by what is past alone.
func told(t *testing.T, past []api.Past) api.Server {
	s := api.Server{Tree: []api.Node{{Dir: true}}, Next: 1, Past: past}
	for i, p := range past {
		l, err := acts.Apply(s.Tree, p.Act, 1+i)
		if err != api.OK {
			t.Fatalf("%+v, of %+v, can't be done: %d", p, past, err)
		}
		s.Tree = l
		if p.Act.Kind == 1 || p.Act.Kind == 2 {
			if p.Act.Fid != s.Next {
				t.Fatalf("%+v, of %+v, does not make %d", p, past, s.Next)
			}
			s.Next++
		}
	}
	return s
}

// anyAct reads an act from six bytes: of few fids and names, so that they meet, and mostly of what can be done.
func anyAct(s []byte, l []api.Node, made int) api.Act {
	kinds := []int{1, 2, 2, 2, 3, 3, 4, 5, 5, 6}
	words := []string{"a", "b", "c", "d", "e", "f", "g", "N"}
	fid := func(k byte) int {
		switch k % 8 {
		case 0:
			return int(k)/8%30 - 3
		case 1:
			return -1 - int(k)/8%(made+1)
		}
		return l[int(k)/8%len(l)].Fid
	}
	a := api.Act{
		Kind: kinds[int(s[0])%len(kinds)], Fid: fid(s[1]), Dir: fid(s[2]), Name: words[s[3]%8],
		To: fid(s[4]), ToName: words[s[3]/8%8], Data: slices.Repeat(s[5:6], int(s[5])%22),
	}
	if n, there := tree.Find(l, a.Dir); there && a.Kind > 3 && s[5] < 230 && len(n.Entries) > 0 {
		e := n.Entries[int(s[1])%len(n.Entries)]
		a.Name, a.Fid = e.Name, e.Fid
	}
	return a
}

// anyLog reads up to four records of six bytes each; those that make something mostly have fids below 0, others mostly the version that is there.
func anyLog(s []byte, l []api.Node) ([]api.Rec, []byte) {
	var log []api.Rec
	for n := int(s[0]) % 5; n > 0 && len(s) >= 6; n-- {
		a := anyAct(s, l, len(log))
		version := int(s[1])%9 - 1
		if s[5] < 220 && acts.Makes(a) {
			a.Fid = -1 - len(log)
		}
		if node, there := tree.Find(l, a.Fid); there && s[4] < 220 {
			version = node.Version
		}
		log, s = append(log, api.Rec{Act: a, Version: version, ID: len(log)}), s[6:]
	}
	return log, s
}

// done holds one act by Do against what is told of it, and answers the server then.
func done(t *testing.T, s api.Server, client int, a api.Act) api.Server {
	here := a
	if a.Kind == 1 || a.Kind == 2 {
		here.Fid = s.Next
	}
	_, expect := acts.Apply(s.Tree, here, len(s.Past)+1)
	got, err := Do(s, client, a)
	if err != expect {
		t.Fatalf("Do(%+v, %+v) tells %d, want %d", s, a, err, expect)
	}
	if err == api.OK {
		want(t, "Do", got, told(t, append(slices.Clone(s.Past), api.Past{Client: client, Act: here})))
		return got
	}
	want(t, "Do, beside an error", got, api.Server{})
	return s
}

// taken likewise holds a log by Take.
func taken(t *testing.T, s api.Server, client int, log []api.Rec) api.Server {
	verdicts, here, _, _ := cert.Judge(s.Tree, s.Next, len(s.Past)+1, log)
	past := slices.Clone(s.Past)
	for _, a := range here {
		past = append(past, api.Past{Client: client, Act: a})
	}
	got, vs := Take(s, client, log)
	want(t, "the verdicts of Take", vs, verdicts)
	want(t, "Take", got, told(t, past))
	return got
}

// FuzzServer holds acts and logs, one behind the other, against the promise's words, told another way.
func FuzzServer(f *testing.F) {
	f.Add([]byte{})
	seed := uint32(1)
	for range 200 {
		s := make([]byte, 350)
		for i := range s {
			seed = seed*1664525 + 1013904223
			s[i] = byte(seed >> 24)
		}
		f.Add(s)
	}
	f.Fuzz(func(t *testing.T, b []byte) {
		s := New()
		for steps := 0; len(b) >= 7 && steps < 60; steps++ {
			before, was := tell(s), s
			client, by := int(b[0])/4%3, b[0]%4
			if b = b[1:]; by == 0 {
				var log []api.Rec
				log, b = anyLog(b, s.Tree)
				s = taken(t, s, client, log)
			} else {
				s, b = done(t, s, client, anyAct(b, s.Tree, 0)), b[6:]
			}
			want(t, "the server that was handed in", tell(was), before)
			want(t, "its copy", Own(s), s)
			want(t, "its version", Version(s), len(s.Past)+1)
			l, err := Replay(s.Past)
			want(t, "Replay", tell(l, err), tell(s.Tree, api.OK))
		}
	})
}
