package world

import (
	"fmt"
	"math"
	"slices"
	"strings"
	"testing"

	"longabsence/api"
	"longabsence/client"
	"longabsence/server"
)

// Steps of a client.
func read(who int, path string) api.Step {
	return api.Step{Kind: api.StepRead, Client: who, Path: path}
}

func list(who int, path string) api.Step {
	return api.Step{Kind: api.StepList, Client: who, Path: path}
}

func mkdir(who int, path string) api.Step {
	return api.Step{Kind: api.StepDir, Client: who, Path: path}
}

func remove(who int, path string) api.Step {
	return api.Step{Kind: api.StepRemove, Client: who, Path: path}
}

func write(who int, path, data string) api.Step {
	return api.Step{Kind: api.StepWrite, Client: who, Path: path, Data: []byte(data)}
}

func rename(who int, path, to string) api.Step {
	return api.Step{Kind: api.StepRename, Client: who, Path: path, ToPath: to}
}

func hoard(who int, path string, n int) api.Step {
	return api.Step{Kind: api.StepHoard, Client: who, Path: path, N: n}
}

func leave(who int) api.Step  { return api.Step{Kind: api.StepAway, Client: who} }
func back(who int) api.Step   { return api.Step{Kind: api.StepBack, Client: who} }
func gather(who int) api.Step { return api.Step{Kind: api.StepWalk, Client: who} }

// data is the reply to a step that tells it.
func data(s string) api.Reply { return api.Reply{Data: []byte(s)} }

func failed(err api.Errno) api.Reply { return api.Reply{Err: err} }

// tell shows lists without entries alike, nil or not.
func tell(x ...any) string { return fmt.Sprintf("%+v", x) }

func want(t *testing.T, what string, got, want any) {
	t.Helper()
	if tell(got) != tell(want) {
		t.Errorf("%s = %+v, want %+v", what, got, want)
	}
}

// game is a world, and what a test plays with it.
type game struct {
	t *testing.T
	w api.World
}

func fresh(t *testing.T, rooms ...int) *game {
	t.Helper()
	w, err := New(rooms)
	want(t, "the error of a new world", err, api.OK)
	return &game{t, w}
}

// does plays a step, and holds the reply.
func (g *game) does(x api.Step, expect api.Reply) {
	g.t.Helper()
	w, r := Do(g.w, x)
	want(g.t, fmt.Sprintf("the reply to %+v", x), r, expect)
	g.w = w
}

// fine plays steps that must be done, whatever they tell.
func (g *game) fine(l ...api.Step) {
	g.t.Helper()
	for _, x := range l {
		w, r := Do(g.w, x)
		if r.Err != api.OK {
			g.t.Errorf("%+v tells %d, want OK", x, r.Err)
		}
		g.w = w
	}
}

// other is an act that none of the clients does.
func (g *game) other(a api.Act) {
	g.t.Helper()
	s, err := server.Do(g.w.Server, 9, a)
	want(g.t, "the error of another one's act", err, api.OK)
	g.w.Server = s
}

// keeps holds of which fids a client keeps the nodes, in turn.
func (g *game) keeps(who int, fids ...int) {
	g.t.Helper()
	want(g.t, fmt.Sprint("what client ", who, " keeps"), kept(g.w.Clients[who]), fids)
}

func kept(c api.Client) []int {
	var l []int
	for _, k := range c.Cache {
		l = append(l, k.Node.Fid)
	}
	return l
}

// The fids of the given world: /d, /d/g, /f and /e.
const (
	dFid = iota + 1
	gFid
	fFid
	eFid
)

// given is a world of three clients that are here, and keep all that there is.
func given(t *testing.T) *game {
	t.Helper()
	g := fresh(t, 9, 9, 9)
	g.fine(mkdir(0, "/d"), write(0, "/d/g", "two"), write(0, "/f", "three"), mkdir(0, "/e"))
	for who := range g.w.Clients {
		g.fine(list(who, "/e"), read(who, "/f"), read(who, "/d/g"))
	}
	for who := 1; who < 3; who++ {
		g.keeps(who, 0, eFid, fFid, dFid, gFid)
	}
	return g
}

// gone is the given world, of which client 2 is away.
func gone(t *testing.T) *game {
	t.Helper()
	g := given(t)
	g.fine(leave(2))
	return g
}

// TestGivenIsAsItIsTold: the world of these tests has the nodes that they name.
func TestGivenIsAsItIsTold(t *testing.T) {
	file := func(fid, version int, data string) api.Node {
		return api.Node{Fid: fid, Version: version, Data: []byte(data)}
	}
	want(t, "the tree", given(t).w.Server.Tree, []api.Node{
		{Fid: 0, Dir: true, Entries: []api.Entry{{Name: "d", Fid: dFid}, {Name: "e", Fid: eFid}, {Name: "f", Fid: fFid}}, Version: 6},
		{Fid: dFid, Dir: true, Entries: []api.Entry{{Name: "g", Fid: gFid}}, Version: 2},
		file(gFid, 3, "two"), file(fFid, 5, "three"), {Fid: eFid, Dir: true, Version: 6},
	})
}

// rooms are such of which there are worlds, and such of which there are none.
var rooms = []struct {
	rooms []int
	err   api.Errno
}{
	{nil, api.ErrMany}, {[]int{}, api.ErrMany},
	{[]int{3}, api.OK}, {[]int{4}, api.OK}, {[]int{23}, api.OK}, {[]int{24}, api.OK},
	{[]int{2}, api.ErrRange}, {[]int{25}, api.ErrRange}, {[]int{0}, api.ErrRange}, {[]int{-3}, api.ErrRange}, {[]int{math.MinInt}, api.ErrRange}, {[]int{math.MaxInt}, api.ErrRange},
	{[]int{3, 24}, api.OK}, {[]int{24, 3}, api.OK}, {[]int{2, 24}, api.ErrRange}, {[]int{3, 25}, api.ErrRange}, {[]int{24, 2}, api.ErrRange}, {[]int{25, 3}, api.ErrRange},
	{[]int{3, 3, 3}, api.OK}, {[]int{24, 24, 24}, api.OK}, {[]int{3, 10, 24}, api.OK}, {[]int{24, 10, 3}, api.OK},
	{[]int{2, 3, 3}, api.ErrRange}, {[]int{3, 2, 3}, api.ErrRange}, {[]int{3, 3, 2}, api.ErrRange},
	{[]int{25, 24, 24}, api.ErrRange}, {[]int{24, 25, 24}, api.ErrRange}, {[]int{24, 24, 25}, api.ErrRange}, {[]int{2, 25, 0}, api.ErrRange},
	{[]int{3, 3, 3, 3}, api.ErrMany}, {[]int{24, 24, 24, 24}, api.ErrMany}, {make([]int, 99), api.ErrMany},
	// Where both are wrong, that there are too many is told.
	{[]int{2, 3, 3, 3}, api.ErrMany}, {[]int{3, 3, 3, 2}, api.ErrMany}, {[]int{25, 3, 3, 3}, api.ErrMany}, {[]int{3, 3, 3, 25}, api.ErrMany},
}

func TestWrong(t *testing.T) {
	for _, x := range rooms {
		want(t, fmt.Sprint("Wrong of ", x.rooms), Wrong(x.rooms), x.err)
	}
	want(t, "the limits", []int{api.MaxClients, api.MinRoom, api.MaxRoom, api.MaxSteps}, []int{3, 3, 24, 80})
}

func TestWrongOfEachRoom(t *testing.T) {
	for room := -9; room < 50; room++ {
		expect := api.OK
		if room < api.MinRoom || room > api.MaxRoom {
			expect = api.ErrRange
		}
		for n := 1; n <= api.MaxClients; n++ {
			for i := range n {
				l := slices.Repeat([]int{api.MinRoom}, n)
				l[i] = room
				want(t, fmt.Sprint("Wrong of ", l), Wrong(l), expect)
			}
		}
	}
}

// TestNew: a server that did nothing, and clients that have nothing; their numbers are from 0 on.
func TestNew(t *testing.T) {
	for _, x := range rooms {
		expect := api.World{}
		if x.err == api.OK {
			expect.Server = api.Server{Tree: []api.Node{{Fid: api.Root, Dir: true}}, Next: 1}
			for i, room := range x.rooms {
				expect.Clients = append(expect.Clients, api.Client{Number: i, Room: room})
			}
		}
		w, err := New(x.rooms)
		want(t, fmt.Sprint("New of ", x.rooms), tell(w, err), tell(expect, x.err))
	}
}

// whole is a world that has something in each field.
func whole(t *testing.T) api.World {
	t.Helper()
	g := gone(t)
	g.fine(hoard(1, "/f", 9), hoard(2, "/d/g", 7), hoard(2, "/e", 1), write(2, "/f", "mine"), mkdir(2, "/n"), write(0, "/f", "other"))
	g.does(back(2), api.Reply{N: 1, M: 1})
	g.fine(read(2, "/f"), read(2, "/d/g"), list(2, "/n"), leave(2), write(2, "/d/g", "mine"), mkdir(2, "/n/k"))
	c := g.w.Clients[2]
	want(t, "how much there is", []int{len(c.Log), len(c.Repair), len(c.Hoards), len(g.w.Server.Past)}, []int{2, 1, 2, 8})
	return g.w
}

func TestOwnIsAlike(t *testing.T) {
	for _, w := range []api.World{
		{}, fresh(t, 3).w, fresh(t, 24, 3, 9).w, given(t).w, gone(t).w, whole(t),
		{Clients: []api.Client{}}, {Clients: make([]api.Client, 9)}, {Server: server.New()}, {Clients: whole(t).Clients}, {Server: whole(t).Server},
		{Server: api.Server{Next: math.MinInt}, Clients: []api.Client{{Number: math.MinInt, Away: true, Room: math.MaxInt, Clock: -1, Made: -2, Logged: -3}, client.New(7, 7)}},
	} {
		want(t, "Own", Own(w), w)
	}
}

// TestNoSuchClient: below 0, and behind the last one; all is as it was, whatever the step is.
func TestNoSuchClient(t *testing.T) {
	for _, g := range []*game{fresh(t, 3), fresh(t, 3, 24), given(t), gone(t), {t, whole(t)}, {t, api.World{}}} {
		n := len(g.w.Clients)
		before := tell(g.w)
		for _, who := range []int{math.MinInt, -n - 1, -n, -2, -1, n, n + 1, 99, math.MaxInt} {
			for _, x := range []api.Step{
				read(who, "/f"), read(who, "bad"), list(who, "/"), write(who, "/f", "x"), mkdir(who, "/x"), remove(who, "/f"), rename(who, "/f", "/h"),
				leave(who), back(who), hoard(who, "/f", 5), hoard(who, "/f", 101), gather(who), {Kind: 99, Client: who}, {Client: who},
			} {
				if who == 0 {
					continue
				}
				g.does(x, failed(api.ErrNone))
				want(t, fmt.Sprintf("the world behind %+v", x), tell(g.w), before)
			}
		}
	}
}

// TestTheClientIsTheOneThatIsNamed: each one of them, also the first one and the last one.
func TestTheClientIsTheOneThatIsNamed(t *testing.T) {
	for n := 1; n <= api.MaxClients; n++ {
		g := fresh(t, []int{5, 6, 7}[:n]...)
		for who := range n {
			g.fine(write(who, fmt.Sprint("/", who), fmt.Sprint(who)))
			for i, c := range g.w.Clients {
				want(t, fmt.Sprint("whether client ", i, " looked at something"), c.Clock > 0, i <= who)
			}
		}
		for i, p := range g.w.Server.Past {
			want(t, fmt.Sprint("who did act ", i), p.Client, i/2)
		}
		want(t, "how many acts there are", len(g.w.Server.Past), 2*n)
	}
}

// TestOneWhoListsWhatAnotherOneMakes is the document's example.
func TestOneWhoListsWhatAnotherOneMakes(t *testing.T) {
	g := fresh(t, 3, 3)
	g.does(list(1, "/"), data(""))
	g.does(mkdir(0, "/a"), api.Reply{})
	g.does(list(1, "/"), data("a\n"))
	g.does(list(1, "/a"), data(""))
}

func TestPlayOfWrongRooms(t *testing.T) {
	for _, x := range rooms {
		if x.err == api.OK {
			continue
		}
		for _, n := range []int{0, 1, api.MaxSteps, api.MaxSteps + 1, 999} {
			w, l, err := Play(x.rooms, make([]api.Step, n))
			want(t, fmt.Sprint("Play of ", x.rooms, " and ", n, " steps"), tell(w, l, err), tell(api.World{}, []api.Reply{}, x.err))
		}
	}
}

func TestPlayOfNoSteps(t *testing.T) {
	for _, x := range rooms {
		if x.err != api.OK {
			continue
		}
		w, err := New(x.rooms)
		for _, steps := range [][]api.Step{nil, {}} {
			got, l, other := Play(x.rooms, steps)
			want(t, fmt.Sprint("Play of ", x.rooms, " and no steps"), tell(got, l, other), tell(w, []api.Reply{}, err))
		}
	}
}

func TestPlayOfTooManySteps(t *testing.T) {
	for _, n := range []int{api.MaxSteps + 1, api.MaxSteps + 2, 999} {
		steps := slices.Repeat([]api.Step{write(0, "/a", "x")}, n)
		w, l, err := Play([]int{3, 4}, steps)
		want(t, fmt.Sprint("Play of ", n, " steps"), tell(w, l, err), tell(api.World{}, []api.Reply{}, api.ErrMany))
	}
}

// TestPlayOfSoManySteps: of MaxSteps all are done.
func TestPlayOfSoManySteps(t *testing.T) {
	for _, n := range []int{1, 2, api.MaxSteps - 1, api.MaxSteps} {
		var steps []api.Step
		var expect []api.Reply
		for i := range n {
			if i%2 == 0 {
				steps, expect = append(steps, write(0, "/a", fmt.Sprint(i))), append(expect, api.Reply{})
			} else {
				steps, expect = append(steps, read(1, "/a")), append(expect, data(fmt.Sprint(i-1)))
			}
		}
		w, l, err := Play([]int{3, 4}, steps)
		want(t, fmt.Sprint("the replies to ", n, " steps"), tell(l, err), tell(expect, api.OK))
		// The file is made but once.
		want(t, "how many acts there are", len(w.Server.Past), 1+(n+1)/2)
	}
}

// story is of all kinds of steps, with errors between them.
func story() ([]api.Step, []api.Reply) {
	steps := []api.Step{
		write(0, "/a", "one"), read(1, "/a"), read(2, "/a"), mkdir(1, "/d"), list(0, "/"), hoard(2, "/a", 50), hoard(2, "/d", 60), gather(2), leave(2), gather(2),
		write(0, "/a", "two"), read(1, "/a"), read(2, "/a"), write(2, "/a", "mine"), write(2, "/d/b", "b"), read(2, "/a"), read(0, "/d/b"), {Kind: 11, Client: 1}, read(3, "/a"),
		rename(1, "/d", "/e"), list(2, "/"), back(2), list(2, "/"), read(2, "/a"), read(0, "/e/b"), remove(0, "/e"), remove(0, "/a"), read(1, "/a"), list(-1, "/"), read(2, "a"),
	}
	return steps, []api.Reply{
		{}, data("one"), data("one"), {}, data("a\nd\n"), {}, {}, {N: 2}, {}, failed(api.ErrAway),
		{}, data("two"), data("one"), {}, {}, data("mine"), failed(api.ErrNone), failed(api.ErrKind), failed(api.ErrNone),
		{}, data("a\nd\n"), {N: 2, M: 1}, data("a\ne\n"), data("two"), data("b"), failed(api.ErrEmpty), {}, failed(api.ErrNone), failed(api.ErrNone), failed(api.ErrForm),
	}
}

// TestPlay: as many replies as steps, in their order.
func TestPlay(t *testing.T) {
	steps, replies := story()
	w, l, err := Play([]int{9, 9, 9}, steps)
	want(t, "the error", err, api.OK)
	want(t, "how many replies there are", len(l), len(steps))
	for i, r := range l {
		want(t, fmt.Sprintf("the reply to step %d, %+v", i, steps[i]), r, replies[i])
	}
	acts := ""
	for _, p := range w.Server.Past {
		acts += fmt.Sprint(p.Client, p.Act.Kind, p.Act.Fid, " ")
	}
	want(t, "who did what", strings.TrimSpace(acts), "0 1 1 0 3 1 1 2 2 0 3 1 1 5 2 2 1 3 2 3 3 0 4 1")
	want(t, "what is for repair", w.Clients[2].Repair, []api.Rec{{Act: api.Act{Kind: api.ActStore, Fid: 1, Data: []byte("mine")}, Version: 2, ID: 1}})
}

// TestPlayIsStepByStep: what Play answers is what New and Do make, for each beginning of the story.
func TestPlayIsStepByStep(t *testing.T) {
	steps, _ := story()
	for _, rooms := range [][]int{{3}, {4, 3}, {3, 5, 24}} {
		w, _ := New(rooms)
		var replies []api.Reply
		for i := 0; ; i++ {
			got, l, err := Play(rooms, steps[:i])
			want(t, fmt.Sprint("Play of ", rooms, " and ", i, " steps"), tell(got, l, err), tell(w, replies, api.OK))
			if i == len(steps) {
				break
			}
			var r api.Reply
			w, r = Do(w, steps[i])
			replies = append(replies, r)
		}
	}
}

// TestNothingPanics: worlds that none made.
func TestNothingPanics(t *testing.T) {
	worlds := []api.World{
		{}, {Clients: make([]api.Client, 3)}, {Server: whole(t).Server, Clients: make([]api.Client, 2)}, {Clients: whole(t).Clients},
		{Server: api.Server{Tree: []api.Node{{Fid: 3}, {Fid: 1}, {}}, Next: math.MaxInt}, Clients: []api.Client{{Room: math.MinInt}, {Away: true, Made: math.MaxInt}, {Cache: make([]api.Kept, 5)}}},
	}
	for _, w := range worlds {
		for who := -1; who < 4; who++ {
			for kind := -1; kind < 13; kind++ {
				for _, path := range []string{"", "/", "a", "/a/a", "/f", strings.Repeat("/a", 40)} {
					Do(w, api.Step{Kind: kind, Client: who, N: 5, Path: path, ToPath: "/h", Data: make([]byte, 9)})
				}
			}
		}
	}
}
