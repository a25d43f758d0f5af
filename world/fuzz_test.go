package world

import (
	"slices"
	"testing"

	"longabsence/api"
	"longabsence/client"
	"longabsence/server"
	"longabsence/tree"
)

// seeds are the same for each run: so many texts of so many bytes.
func seeds(f *testing.F, texts, bytes int) {
	f.Add([]byte{})
	seed := uint32(1)
	for range texts {
		s := make([]byte, bytes)
		for i := range s {
			seed = seed*1664525 + 1013904223
			s[i] = byte(seed >> 24)
		}
		f.Add(s)
	}
}

// anyPath is one of few names, so that paths meet; mostly one that has no more than two.
func anyPath(a, b byte) string {
	path := ""
	for n := []int{0, 1, 1, 1, 2, 2, 2, 3}[a%8]; n > 0; n-- {
		path += "/" + string("abc"[b%3])
		b /= 3
	}
	switch {
	case a > 250:
		return path + "/"
	case path == "":
		return "/"
	}
	return path
}

// anyStep reads a step from seven bytes: mostly one of a client that there may be.
func anyStep(b []byte) api.Step {
	kinds := []int{1, 1, 2, 3, 3, 3, 3, 3, 4, 4, 4, 5, 5, 6, 6, 7, 7, 8, 8, 9, 10, 11}
	x := api.Step{Kind: kinds[int(b[0])%len(kinds)], Client: int(b[6]) % 3, N: int(b[5])%104 - 1, Path: anyPath(b[1], b[2]), ToPath: anyPath(b[3], b[4])}
	if b[6] > 245 {
		x.Client = int(b[6]) - 251
	}
	if x.Kind == api.StepWrite {
		x.Data = slices.Repeat(b[5:6], int(b[5])%22)
	}
	return x
}

// anyRooms reads rooms from four bytes, mostly such of which there is a world.
func anyRooms(b []byte) []int {
	var l []int
	for _, x := range b[1 : 1+[]int{1, 2, 2, 3, 3, 3}[b[0]%6]] {
		l = append(l, int(x)%7+api.MinRoom)
	}
	if b[0] > 245 {
		l = append(l, int(b[0])-250)
	}
	return l
}

// anyGame reads rooms and steps.
func anyGame(b []byte) ([]int, []api.Step) {
	if len(b) < 4 {
		return nil, nil
	}
	rooms := anyRooms(b)
	var steps []api.Step
	for b = b[4:]; len(b) >= 7; b = b[7:] {
		steps = append(steps, anyStep(b))
	}
	return rooms, steps
}

// told is the world and the reply behind a step, as the chapter's words say it, client by client.
func told(w api.World, x api.Step) (api.World, api.Reply) {
	if x.Client < 0 || x.Client > len(w.Clients)-1 {
		return w, api.Reply{Err: api.ErrNone}
	}
	var out api.World
	var r api.Reply
	var c api.Client
	c, out.Server, r = client.Do(w.Clients[x.Client], w.Server, x)
	for number, d := range w.Clients {
		if number == x.Client {
			d = c
		}
		d = client.Own(d)
		var l []api.Kept
		for _, k := range d.Cache {
			n, there := tree.Find(out.Server.Tree, k.Node.Fid)
			if d.Away || k.Dirty || there && n.Version == k.Node.Version {
				l = append(l, k)
			}
		}
		d.Cache = l
		out.Clients = append(out.Clients, d)
	}
	return out, r
}

// right holds what is so of every world behind each step.
func right(t *testing.T, w api.World, rooms []int) {
	t.Helper()
	l, err := server.Replay(w.Server.Past)
	if got, expect := tell(l, err), tell(w.Server.Tree, api.OK); got != expect {
		t.Fatalf("what is past makes %s, and there is %s", got, expect)
	}
	for i, c := range w.Clients {
		if c.Number != i || c.Room != rooms[i] || len(c.Cache) > c.Room || len(c.Log) > api.MaxLog || len(c.Hoards) > api.MaxHoards {
			t.Fatalf("client %d, of rooms %v, is %+v", i, rooms, c)
		}
		if c.Away {
			continue
		}
		if len(c.Log) > 0 {
			t.Fatalf("one who is here has a log: %+v", c)
		}
		for _, k := range c.Cache {
			n, there := tree.Find(w.Server.Tree, k.Node.Fid)
			if k.Dirty || !there || tell(n) != tell(k.Node) {
				t.Fatalf("%+v is kept here, of %+v", k, w.Server.Tree)
			}
		}
	}
}

// seen: what is done is read by who did it, and by each one who is here, if that one is.
func seen(t *testing.T, w api.World, x api.Step) {
	t.Helper()
	away := w.Clients[x.Client].Away
	for who, c := range w.Clients {
		if who != x.Client && (away || c.Away) {
			continue
		}
		var r, expect api.Reply
		switch x.Kind {
		case api.StepWrite:
			_, r = Do(w, read(who, x.Path))
			expect.Data = x.Data
		case api.StepDir:
			_, r = Do(w, list(who, x.Path))
		case api.StepRemove:
			_, r = Do(w, list(who, x.Path))
			expect.Err = api.ErrNone
		}
		// One who is away may have given what is on the way for what it made.
		if away && r.Err == api.ErrAway {
			continue
		}
		if tell(r) != tell(expect) {
			t.Fatalf("behind %+v client %d is told %+v, want %+v", x, who, r, expect)
		}
	}
}

// FuzzWorld holds worlds, step by step, against the promise's words, told another way.
func FuzzWorld(f *testing.F) {
	seeds(f, 300, 4+7*api.MaxSteps)
	f.Fuzz(func(t *testing.T, b []byte) {
		rooms, steps := anyGame(b)
		w, err := New(rooms)
		want(t, "New's error", err, Wrong(rooms))
		if err != api.OK {
			return
		}
		for _, x := range steps[:min(len(steps), api.MaxSteps)] {
			before := tell(w, x)
			next, r := Do(w, x)
			want(t, "what was handed in", tell(w, x), before)
			if got, expect := tell(next, r), tell(told(w, x)); got != expect {
				t.Fatalf("Do of %s = %s, want %s", before, got, expect)
			}
			right(t, next, rooms)
			if r.Err == api.OK {
				seen(t, next, x)
			}
			w = next
		}
	})
}

// FuzzPlay holds what Play answers against rooms and steps, one by one.
func FuzzPlay(f *testing.F) {
	seeds(f, 100, 4+7*api.MaxSteps)
	seeds(f, 10, 4+7*(api.MaxSteps+1))
	seeds(f, 50, 40)
	f.Fuzz(func(t *testing.T, b []byte) {
		rooms, steps := anyGame(b)
		before := tell(rooms, steps)
		got, l, other := Play(rooms, steps)
		want(t, "what was handed in", tell(rooms, steps), before)
		w, err := New(rooms)
		if err == api.OK && len(steps) > api.MaxSteps {
			w, err = api.World{}, api.ErrMany
		}
		var replies []api.Reply
		if err == api.OK {
			for _, x := range steps {
				var r api.Reply
				w, r = told(w, x)
				replies = append(replies, r)
			}
		}
		if got, expect := tell(got, l, other), tell(w, replies, err); got != expect {
			t.Fatalf("Play of %s = %s, want %s", before, got, expect)
		}
	})
}
