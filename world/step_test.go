package world

import (
	"fmt"
	"slices"
	"strings"
	"testing"

	"longabsence/api"
	"longabsence/client"
	"longabsence/server"
)

// changes are steps of one who is here, their replies, and of which fids the nodes are not any more what they were.
var changes = []struct {
	step  func(who int) api.Step
	reply api.Reply
	stale []int
}{
	{func(who int) api.Step { return read(who, "/f") }, data("three"), nil},
	{func(who int) api.Step { return list(who, "/") }, data("d\ne\nf\n"), nil},
	{func(who int) api.Step { return write(who, "/f", "new") }, api.Reply{}, []int{fFid}},
	{func(who int) api.Step { return write(who, "/f", "three") }, api.Reply{}, []int{fFid}},
	{func(who int) api.Step { return write(who, "/d/g", "") }, api.Reply{}, []int{gFid}},
	{func(who int) api.Step { return write(who, "/n", "new") }, api.Reply{}, []int{0}},
	{func(who int) api.Step { return mkdir(who, "/n") }, api.Reply{}, []int{0}},
	{func(who int) api.Step { return mkdir(who, "/d/n") }, api.Reply{}, []int{dFid}},
	{func(who int) api.Step { return remove(who, "/f") }, api.Reply{}, []int{0, fFid}},
	{func(who int) api.Step { return remove(who, "/d/g") }, api.Reply{}, []int{dFid, gFid}},
	{func(who int) api.Step { return rename(who, "/f", "/h") }, api.Reply{}, []int{0}},
	{func(who int) api.Step { return rename(who, "/d/g", "/e/h") }, api.Reply{}, []int{dFid, eFid}},
	{leave, api.Reply{}, nil},
	{back, api.Reply{}, nil},
	{func(who int) api.Step { return hoard(who, "/f", 5) }, api.Reply{}, nil},
	{gather, api.Reply{}, nil},
}

// refused are steps that have an error in the given world, here or away.
var refused = []struct {
	step func(who int) api.Step
	err  api.Errno
}{
	{func(who int) api.Step { return read(who, "f") }, api.ErrForm},
	{func(who int) api.Step { return read(who, "/n") }, api.ErrNone},
	{func(who int) api.Step { return read(who, "/d") }, api.ErrFile},
	{func(who int) api.Step { return list(who, "/f") }, api.ErrDir},
	{func(who int) api.Step { return list(who, strings.Repeat("x", 41)) }, api.ErrMuch},
	{func(who int) api.Step { return write(who, "/", "x") }, api.ErrName},
	{func(who int) api.Step { return write(who, "/d", "x") }, api.ErrFile},
	{func(who int) api.Step { return write(who, "/f", strings.Repeat("x", 21)) }, api.ErrMuch},
	{func(who int) api.Step { return write(who, "/n", strings.Repeat("x", 21)) }, api.ErrMuch},
	{func(who int) api.Step { return mkdir(who, "/f") }, api.ErrName},
	{func(who int) api.Step { return mkdir(who, "/f/n") }, api.ErrDir},
	{func(who int) api.Step { return remove(who, "/d") }, api.ErrEmpty},
	{func(who int) api.Step { return remove(who, "/n") }, api.ErrNone},
	{func(who int) api.Step { return rename(who, "/f", "/d") }, api.ErrName},
	{func(who int) api.Step { return rename(who, "/d", "/d/d") }, api.ErrLoop},
	{func(who int) api.Step { return hoard(who, "/f", 101) }, api.ErrRange},
	{func(who int) api.Step { return hoard(who, "/f", -1) }, api.ErrRange},
	{func(who int) api.Step { return api.Step{Client: who, Path: "/f"} }, api.ErrKind},
	{func(who int) api.Step { return api.Step{Kind: 11, Client: who, Path: "/f"} }, api.ErrKind},
	{func(who int) api.Step { return api.Step{Kind: -1, Client: who, Path: "/f"} }, api.ErrKind},
}

// without are the fids of the given world that stay, in the order in which they are kept.
func without(stale []int) []int {
	return slices.DeleteFunc([]int{0, eFid, fFid, dFid, gFid}, func(fid int) bool { return slices.Contains(stale, fid) })
}

// untouched is c, with the nodes of these fids alone in its cache.
func untouched(c api.Client, fids []int) api.Client {
	c = client.Own(c)
	c.Cache = slices.DeleteFunc(c.Cache, func(k api.Kept) bool { return !slices.Contains(fids, k.Node.Fid) })
	return c
}

// TestStepHere: of each kind, its reply, and what chapter 9 tells of the client and the server; client 1 keeps what is Fresh, client 2, who is away, what it kept.
func TestStepHere(t *testing.T) {
	for _, x := range changes {
		g := gone(t)
		before, step := g.w, x.step(0)
		g.does(step, x.reply)
		c, s, r := client.Do(before.Clients[0], before.Server, step)
		want(t, fmt.Sprintf("client, server and reply behind %+v", step), tell(g.w.Clients[0], g.w.Server, x.reply), tell(c, s, r))
		g.keeps(1, without(x.stale)...)
		want(t, fmt.Sprintf("client 1 behind %+v", step), g.w.Clients[1], untouched(before.Clients[1], without(x.stale)))
		want(t, fmt.Sprintf("client 2, away, behind %+v", step), g.w.Clients[2], before.Clients[2])
	}
}

// TestStepOfAnyoneHere: clients in front of the one whose step it is, and behind, are alike.
func TestStepOfAnyoneHere(t *testing.T) {
	for _, x := range changes {
		for who := range api.MaxClients {
			g := given(t)
			before := g.w
			g.does(x.step(who), x.reply)
			for i, c := range g.w.Clients {
				if i != who {
					want(t, fmt.Sprintf("client %d behind %+v", i, x.step(who)), c, untouched(before.Clients[i], without(x.stale)))
				}
			}
		}
	}
}

// TestStepAway: of each kind; the server, and the others, hear nothing of it.
func TestStepAway(t *testing.T) {
	for _, x := range changes {
		g := gone(t)
		before, step := g.w, x.step(2)
		reply := x.reply
		if step.Kind == api.StepWalk {
			reply = failed(api.ErrAway)
		}
		g.does(step, reply)
		c, s, r := client.Do(before.Clients[2], before.Server, step)
		want(t, fmt.Sprintf("client, server and reply behind %+v", step), tell(g.w.Clients[2], g.w.Server, reply), tell(c, s, r))
		want(t, fmt.Sprintf("the server behind %+v", step), g.w.Server, before.Server)
		want(t, fmt.Sprintf("the others behind %+v", step), g.w.Clients[:2], before.Clients[:2])
	}
}

// TestStepThatIsRefused: the reply tells the error alone; the server and the others are as they were.
func TestStepThatIsRefused(t *testing.T) {
	for _, x := range refused {
		for who := range api.MaxClients {
			g := gone(t)
			before, step := g.w, x.step(who)
			g.does(step, failed(x.err))
			c, s, _ := client.Do(before.Clients[who], before.Server, step)
			want(t, fmt.Sprintf("client and server behind %+v", step), tell(g.w.Clients[who], g.w.Server), tell(c, s))
			for i, c := range g.w.Clients {
				if i != who {
					want(t, fmt.Sprintf("client %d behind %+v", i, step), c, before.Clients[i])
				}
			}
		}
	}
}

// stale is the given world, of which client 2 is away, and the server has /f and /d otherwise than all of them keep them.
func stale(t *testing.T) *game {
	t.Helper()
	g := gone(t)
	g.other(api.Act{Kind: api.ActStore, Fid: fFid, Data: []byte("other")})
	g.other(api.Act{Kind: api.ActRename, Fid: gFid, Dir: dFid, Name: "g", To: dFid, ToName: "h"})
	return g
}

// freshens holds that, behind the step, those who are here keep nothing stale, and that all else is as chapter 9 tells it.
func (g *game) freshens(x api.Step, err api.Errno) {
	g.t.Helper()
	before := g.w
	w, r := Do(before, x)
	want(g.t, fmt.Sprintf("the error of %+v", x), r.Err, err)
	for i, c := range before.Clients {
		if i == x.Client {
			c, _, _ = client.Do(c, before.Server, x)
		}
		if !c.Away {
			c = untouched(c, without([]int{fFid, dFid}))
		}
		want(g.t, fmt.Sprintf("client %d behind %+v", i, x), w.Clients[i], c)
	}
}

// TestFreshBehindEachStep: what the server has otherwise, those who are here keep no longer, whatever the step was; who is away does.
func TestFreshBehindEachStep(t *testing.T) {
	for who := range api.MaxClients {
		for _, x := range []api.Step{read(who, "/f"), list(who, "/e"), leave(who), back(who), hoard(who, "/f", 5), hoard(who, "/f", 0)} {
			stale(t).freshens(x, api.OK)
		}
	}
	stale(t).freshens(gather(0), api.OK)
	stale(t).freshens(gather(2), api.ErrAway)
}

// TestFreshBehindAnError: likewise, though the step has done nothing.
func TestFreshBehindAnError(t *testing.T) {
	for who := range api.MaxClients {
		for _, x := range refused {
			stale(t).freshens(x.step(who), x.err)
		}
	}
}

// TestStaleIsNotRead: one who is here reads what another one wrote, moved or removed.
func TestStaleIsNotRead(t *testing.T) {
	g := given(t)
	for i := range 9 {
		g.fine(write(i%3, "/f", fmt.Sprint(i)))
		for who := range 3 {
			g.does(read(who, "/f"), data(fmt.Sprint(i)))
		}
	}
	g.fine(rename(1, "/d/g", "/e/h"))
	g.does(read(0, "/e/h"), data("two"))
	g.does(read(2, "/d/g"), failed(api.ErrNone))
	g.fine(remove(2, "/d"), write(0, "/d", "file"))
	g.does(read(1, "/d"), data("file"))
	g.does(list(2, "/d"), failed(api.ErrDir))
	g.does(list(1, "/"), data("d\ne\nf\n"))
}

// TestWhoIsAwayAsksNobody: it reads what it kept, whatever the others do, and what it did itself.
func TestWhoIsAwayAsksNobody(t *testing.T) {
	g := gone(t)
	g.fine(write(0, "/f", "other"), remove(1, "/d/g"), remove(0, "/d"), mkdir(1, "/e/n"))
	g.does(read(2, "/f"), data("three"))
	g.does(read(2, "/d/g"), data("two"))
	g.does(list(2, "/e"), data(""))
	g.does(list(2, "/"), data("d\ne\nf\n"))
	g.keeps(2, 0, eFid, fFid, dFid, gFid)
	g.fine(write(2, "/d/g", "mine"), mkdir(2, "/k"))
	g.does(read(2, "/d/g"), data("mine"))
	g.does(list(0, "/"), data("e\nf\n"))
	// One who never kept it, nor keeps the root, can't read it.
	g = fresh(t, 3, 3)
	g.fine(write(0, "/a", "x"), leave(1))
	g.does(read(1, "/a"), failed(api.ErrAway))
	g.does(list(1, "/"), failed(api.ErrAway))
}

// TestBack: the log is done at the server, and those who are here keep no longer what it changed; another one who is away does.
func TestBack(t *testing.T) {
	g := gone(t)
	g.fine(leave(1), write(2, "/f", "mine"), mkdir(2, "/e/n"))
	for who := range 2 {
		g.fine(list(who, "/e"), read(who, "/f"), read(who, "/d/g"))
	}
	before := g.w
	g.does(back(2), api.Reply{N: 2})
	want(t, "client 0", g.w.Clients[0], untouched(before.Clients[0], without([]int{fFid, eFid})))
	want(t, "client 1, away", g.w.Clients[1], before.Clients[1])
	g.keeps(2, 0, dFid, gFid)
	g.does(read(0, "/f"), data("mine"))
	g.does(list(0, "/e"), data("n\n"))
	g.does(read(1, "/f"), data("three"))
	g.does(list(1, "/e"), data(""))
	g.does(back(1), api.Reply{})
	g.keeps(1, 0, dFid, gFid)
	g.does(read(1, "/f"), data("mine"))
	want(t, "who did the last ones", g.w.Server.Past[6:], []api.Past{{Client: 2, Act: api.Act{Kind: api.ActStore, Fid: fFid, Data: []byte("mine")}}, {Client: 2, Act: api.Act{Kind: api.ActDir, Fid: 5, Dir: eFid, Name: "n"}}})
}

// TestTwoComeBack: what the first one did refuses what the second one did to the same file; that one's record is for repair.
func TestTwoComeBack(t *testing.T) {
	g := gone(t)
	g.fine(leave(1), write(1, "/f", "one"), write(2, "/f", "two"), write(2, "/n", "n"), write(1, "/m", "m"))
	g.does(back(1), api.Reply{N: 3})
	g.does(back(2), api.Reply{N: 2, M: 1})
	for who := range 3 {
		g.does(read(who, "/f"), data("one"))
		g.does(read(who, "/n"), data("n"))
		g.does(read(who, "/m"), data("m"))
	}
	want(t, "how many are for repair", []int{len(g.w.Clients[0].Repair), len(g.w.Clients[1].Repair), len(g.w.Clients[2].Repair)}, []int{0, 0, 1})
	want(t, "the fids of /m and /n", g.w.Server.Tree[0].Entries[3:], []api.Entry{{Name: "m", Fid: 5}, {Name: "n", Fid: 6}})
}

// TestRoomIsEachOnesOwn: one who has little room keeps little, and the others hear nothing of that.
func TestRoomIsEachOnesOwn(t *testing.T) {
	g := fresh(t, 3, 24)
	g.fine(mkdir(0, "/d"), write(0, "/d/a", "a"), write(0, "/d/b", "b"), write(0, "/c", "c"))
	for who := range 2 {
		g.fine(read(who, "/d/a"), read(who, "/d/b"), read(who, "/c"))
	}
	g.keeps(0, 0, 3, 4)
	g.keeps(1, 0, 1, 2, 3, 4)
	g.fine(leave(0), leave(1))
	g.does(read(0, "/d/a"), failed(api.ErrAway))
	g.does(read(1, "/d/a"), data("a"))
}

// TestReplayOfAll: the server's Past makes its tree once more, whoever did what.
func TestReplayOfAll(t *testing.T) {
	steps, _ := story()
	w, _, _ := Play([]int{9, 9, 9}, steps)
	for _, s := range []api.Server{w.Server, whole(t).Server, given(t).w.Server} {
		l, err := server.Replay(s.Past)
		want(t, "Replay of what is past", tell(l, err), tell(s.Tree, api.OK))
	}
}
