package client

import (
	"fmt"
	"math"
	"strings"
	"testing"

	"longabsence/api"
	"longabsence/server"
)

// Steps.
func read(path string) api.Step   { return api.Step{Kind: api.StepRead, Path: path} }
func list(path string) api.Step   { return api.Step{Kind: api.StepList, Path: path} }
func mkdir(path string) api.Step  { return api.Step{Kind: api.StepDir, Path: path} }
func remove(path string) api.Step { return api.Step{Kind: api.StepRemove, Path: path} }

func write(path, data string) api.Step {
	return api.Step{Kind: api.StepWrite, Path: path, Data: []byte(data)}
}

func rename(path, to string) api.Step {
	return api.Step{Kind: api.StepRename, Path: path, ToPath: to}
}

func hoard(path string, n int) api.Step {
	return api.Step{Kind: api.StepHoard, Path: path, N: n}
}

var (
	leave  = api.Step{Kind: api.StepAway}
	back   = api.Step{Kind: api.StepBack}
	gather = api.Step{Kind: api.StepWalk}
)

// Nodes.
func file(fid, version int, data string) api.Node {
	return api.Node{Fid: fid, Version: version, Data: []byte(data)}
}

// dir has what is told by a name and a fid in turn.
func dir(fid, version int, l ...any) api.Node {
	n := api.Node{Fid: fid, Dir: true, Version: version}
	for i := 0; i < len(l); i += 2 {
		n.Entries = append(n.Entries, api.Entry{Name: l[i].(string), Fid: l[i+1].(int)})
	}
	return n
}

// Nodes that are kept.
func kept(n api.Node, worth, last int) api.Kept { return api.Kept{Node: n, Worth: worth, Last: last} }

func dirty(n api.Node, worth, last int) api.Kept {
	return api.Kept{Node: n, Dirty: true, Worth: worth, Last: last}
}

// The nodes of the given server: /d, /d/g, /e and /f.
var (
	rootNode = dir(0, 5, "d", 1, "e", 4, "f", 3)
	dNode    = dir(1, 2, "g", 2)
	gNode    = file(2, 4, "two")
	fNode    = file(3, 6, "three")
	eNode    = dir(4, 5)
)

// given is a server that client 5 filled, of version 7, and whose next fid is 5.
func given() api.Server {
	s := server.New()
	for _, a := range []api.Act{
		{Kind: api.ActDir, Name: "d"}, {Kind: api.ActMake, Dir: 1, Name: "g"}, {Kind: api.ActMake, Name: "f"},
		{Kind: api.ActStore, Fid: 2, Data: []byte("two")}, {Kind: api.ActDir, Name: "e"}, {Kind: api.ActStore, Fid: 3, Data: []byte("three")},
	} {
		s, _ = server.Do(s, 5, a)
	}
	return s
}

// game is a client and a server, and what a test plays with them.
type game struct {
	t *testing.T
	c api.Client
	s api.Server
}

// fresh is client 1 of that room, with the given server.
func fresh(t *testing.T, room int) *game {
	return &game{t, New(1, room), given()}
}

// holding is likewise a client that keeps the whole given server, its Clock 7; it is here.
func holding(t *testing.T, room int) *game {
	g := fresh(t, room)
	g.fine(list("/e"), read("/f"), read("/d/g"))
	g.keeps(kept(rootNode, 0, 5), kept(eNode, 0, 2), kept(fNode, 0, 4), kept(dNode, 0, 6), kept(gNode, 0, 7))
	g.clock(7)
	return g
}

// gone is that client, away.
func gone(t *testing.T, room int) *game {
	g := holding(t, room)
	g.fine(leave)
	return g
}

// does plays a step, and holds the reply.
func (g *game) does(x api.Step, expect api.Reply) {
	g.t.Helper()
	c, s, r := Do(g.c, g.s, x)
	want(g.t, fmt.Sprintf("the reply to %+v", x), r, expect)
	g.c, g.s = c, s
}

// fine plays steps that must be done, whatever they tell.
func (g *game) fine(l ...api.Step) {
	g.t.Helper()
	for _, x := range l {
		c, s, r := Do(g.c, g.s, x)
		if r.Err != api.OK {
			g.t.Errorf("%+v tells %d, want OK", x, r.Err)
		}
		g.c, g.s = c, s
	}
}

// fails plays a step that tells an error, and nothing else; what is past stays, and so long looks are taken ahead of it.
func (g *game) fails(x api.Step, err api.Errno, looks int) {
	g.t.Helper()
	c, s := Own(g.c), server.Own(g.s)
	g.does(x, api.Reply{Err: err})
	want(g.t, fmt.Sprintf("how many are looked at by %+v", x), g.c.Clock-c.Clock, looks)
	want(g.t, fmt.Sprintf("the server behind %+v", x), g.s, s)
	// Beside the looks nothing is otherwise.
	c.Clock, c.Cache = g.c.Clock, g.c.Cache
	want(g.t, fmt.Sprintf("the client behind %+v", x), g.c, c)
}

func (g *game) keeps(l ...api.Kept) {
	g.t.Helper()
	want(g.t, "what is kept", g.c.Cache, l)
}

func (g *game) logs(l ...api.Rec) {
	g.t.Helper()
	want(g.t, "the log", g.c.Log, l)
}

func (g *game) clock(n int) {
	g.t.Helper()
	want(g.t, "the clock", g.c.Clock, n)
}

// counts are Made and Logged.
func (g *game) counts(made, logged int) {
	g.t.Helper()
	want(g.t, "how many are made, and logged", []int{g.c.Made, g.c.Logged}, []int{made, logged})
}

// past holds what the server did behind the given acts.
func (g *game) past(l ...api.Past) {
	g.t.Helper()
	want(g.t, "what is past", g.s.Past, append(given().Past, l...))
}

// other is an act that another client does at the server.
func (g *game) other(a api.Act) {
	g.t.Helper()
	s, err := server.Do(g.s, 9, a)
	want(g.t, "the error of another one's act", err, api.OK)
	g.s = s
}

// tell shows lists without entries alike, nil or not.
func tell(x ...any) string { return fmt.Sprintf("%+v", x) }

func want(t *testing.T, what string, got, want any) {
	t.Helper()
	if tell(got) != tell(want) {
		t.Errorf("%s = %+v, want %+v", what, got, want)
	}
}

func TestNew(t *testing.T) {
	for _, number := range []int{math.MinInt, -1, 0, 1, 2, 9, math.MaxInt} {
		for _, room := range []int{math.MinInt, -1, 0, 1, api.MinRoom, api.MaxRoom, math.MaxInt} {
			want(t, "New", New(number, room), api.Client{Number: number, Room: room})
		}
	}
}

// TestGivenIsAsItIsTold: the server of these tests has the nodes that they name.
func TestGivenIsAsItIsTold(t *testing.T) {
	want(t, "the tree", given().Tree, []api.Node{rootNode, dNode, gNode, fNode, eNode})
	want(t, "version, and next", []int{server.Version(given()), given().Next}, []int{7, 5})
}

// whole is a client that has something in each field.
func whole() api.Client {
	rec := func(fid, id int) api.Rec {
		return api.Rec{Act: api.Act{Kind: api.ActStore, Fid: fid, Data: []byte("data")}, Version: 4, ID: id}
	}
	return api.Client{
		Number: 1, Away: true, Room: 4,
		Cache:  []api.Kept{dirty(gNode, 3, 2), kept(rootNode, 0, 9), kept(eNode, 1, 1)},
		Log:    []api.Rec{rec(2, 6), rec(3, 7)},
		Repair: []api.Rec{rec(3, 4), rec(9, 5)},
		Hoards: []api.Hoard{{Path: "/d", Worth: 50}, {Path: "/", Worth: 1}},
		Clock:  99, Made: 3, Logged: 7,
	}
}

func TestOwnIsAlike(t *testing.T) {
	for _, c := range []api.Client{
		{}, New(2, 5), whole(),
		{Cache: []api.Kept{}, Log: []api.Rec{}, Repair: []api.Rec{}, Hoards: []api.Hoard{}},
		{Number: math.MinInt, Room: math.MinInt, Clock: math.MaxInt, Made: math.MaxInt, Logged: math.MinInt},
		{Cache: []api.Kept{{}, {}}, Log: []api.Rec{{}}, Repair: make([]api.Rec, 99), Hoards: []api.Hoard{{Path: "no path", Worth: -1}, {}}},
	} {
		want(t, "Own", Own(c), c)
	}
}

// TestWhatIsWrittenIsRead is the document's example: a client writes hi to /a, and reads it.
func TestWhatIsWrittenIsRead(t *testing.T) {
	for _, room := range []int{0, 1, 2, 3, api.MaxRoom} {
		g := &game{t, New(0, room), server.New()}
		g.does(write("/a", "hi"), api.Reply{})
		g.does(read("/a"), api.Reply{Data: []byte("hi")})
	}
}

func TestKindsThatThereAreNot(t *testing.T) {
	for _, kind := range []int{math.MinInt, -1, 0, 11, 12, math.MaxInt} {
		x := api.Step{Kind: kind, Client: 1, N: 5, Path: "/f", ToPath: "/h", Data: []byte("x")}
		fresh(t, 5).fails(x, api.ErrKind, 0)
		holding(t, 5).fails(x, api.ErrKind, 0)
		gone(t, 5).fails(x, api.ErrKind, 0)
		g := gone(t, 5)
		g.fine(write("/f", "x"))
		g.fails(x, api.ErrKind, 0)
	}
}

// TestWhatAKindHasNotMeansNothing: fields of a step that its kind has not.
func TestWhatAKindHasNotMeansNothing(t *testing.T) {
	for _, x := range []api.Step{read("/d/g"), list("/d"), mkdir("/d/x"), remove("/f"), rename("/f", "/h"), write("/d/x", "x"), leave, back, hoard("/d", 7), gather} {
		for _, away := range []bool{false, true} {
			y := x
			y.Client = 77
			if x.Kind != api.StepHoard {
				y.N = -5
			}
			if x.Kind != api.StepRename {
				y.ToPath = "no path"
			}
			if x.Kind != api.StepWrite {
				y.Data = []byte(strings.Repeat("x", api.MaxData+1))
			}
			if x.Kind >= api.StepAway && x.Kind != api.StepHoard {
				y.Path = "no path"
			}
			g := holding(t, 6)
			g.c.Away = away
			want(t, fmt.Sprintf("Do of %+v", y), tell(Do(g.c, g.s, y)), tell(Do(g.c, g.s, x)))
		}
	}
}

// TestNothingPanics: clients that none made, with servers that none made.
func TestNothingPanics(t *testing.T) {
	clients := []api.Client{
		{}, whole(), {Room: math.MinInt}, {Away: true, Room: math.MaxInt, Made: math.MaxInt, Logged: math.MaxInt, Clock: math.MaxInt}, {Away: true, Made: math.MinInt},
		{Away: true, Room: 9, Cache: []api.Kept{{}, {}, dirty(file(0, 0, ""), 0, 0), kept(dir(0, 0, "a", 0), 0, 0)}, Log: make([]api.Rec, 30), Hoards: make([]api.Hoard, 9)},
		{Cache: []api.Kept{kept(dir(0, 0, "b", 1, "a", 0, "a", 0), 0, 0)}, Log: make([]api.Rec, 30), Hoards: []api.Hoard{{Path: "x", Worth: -1}, {Path: "/a/a/a", Worth: math.MaxInt}}},
	}
	servers := []api.Server{{}, server.New(), given(), {Tree: []api.Node{{Fid: 3}, {Fid: 1}, {}}, Next: math.MaxInt}}
	paths := []string{"", "/", "a", "/a", "/a/a", "/d", "/d/g", "/d/g/h", "//", "/\xff", strings.Repeat("/a", 40)}
	for _, c := range clients {
		for _, s := range servers {
			for kind := -1; kind < 13; kind++ {
				for i, path := range paths {
					Do(c, s, api.Step{Kind: kind, Client: -1, N: i * 15, Path: path, ToPath: paths[len(paths)-1-i], Data: make([]byte, i*3)})
				}
			}
		}
	}
}
