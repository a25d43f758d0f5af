package client

import (
	"slices"

	"longabsence/acts"
	"longabsence/api"
	"longabsence/cache"
	"longabsence/logs"
	"longabsence/names"
	"longabsence/server"
	"longabsence/tree"
)

// teller does what the chapter's words say, one by one, and throws what is wrong.
type teller struct {
	c api.Client
	s api.Server
	r api.Reply
}

func throw(err api.Errno) {
	if err != api.OK {
		panic(err)
	}
}

// caught is what call throws.
func caught(call func()) (err api.Errno) {
	defer func() {
		if x := recover(); x != nil {
			err = x.(api.Errno)
		}
	}()
	call()
	return api.OK
}

func told(c api.Client, s api.Server, x api.Step) (api.Client, api.Server, api.Reply) {
	m := &teller{c: Own(c), s: server.Own(s)}
	if err := caught(func() { m.step(x) }); err != api.OK {
		m.r = api.Reply{Err: err}
	}
	return m.c, m.s, m.r
}

func (m *teller) split(path string) []string {
	l, err := names.Split(path)
	throw(err)
	return l
}

func (m *teller) look(fid, worth int) api.Node {
	m.c.Clock++
	for i, k := range m.c.Cache {
		if k.Node.Fid == fid {
			m.c.Cache[i].Last = m.c.Clock
			if worth > k.Worth {
				m.c.Cache[i].Worth = worth
			}
			return k.Node
		}
	}
	if m.c.Away {
		throw(api.ErrAway)
	}
	n, there := tree.Find(m.s.Tree, fid)
	if !there {
		throw(api.ErrNone)
	}
	if l, err := cache.Keep(m.c.Cache, m.c.Room, api.Kept{Node: n, Worth: worth, Last: m.c.Clock}); err == api.OK {
		m.c.Cache = l
	}
	return n
}

func (m *teller) walk(l []string, worth int) api.Node {
	if len(l) == 0 {
		return m.look(0, worth)
	}
	n := m.walk(l[:len(l)-1], worth)
	if !n.Dir {
		throw(api.ErrDir)
	}
	fid, there := tree.Entry(n, l[len(l)-1])
	if !there {
		throw(api.ErrNone)
	}
	return m.look(fid, worth)
}

func (m *teller) parent(path string) (api.Node, string) {
	l := m.split(path)
	if len(l) == 0 {
		throw(api.ErrName)
	}
	n := m.walk(l[:len(l)-1], 0)
	if !n.Dir {
		throw(api.ErrDir)
	}
	return n, l[len(l)-1]
}

// changed are the fids of the nodes that an act makes otherwise, or stores, told by its kind.
func changed(a api.Act) []int {
	switch a.Kind {
	case api.ActMake, api.ActDir:
		return []int{a.Fid, a.Dir}
	case api.ActStore:
		return []int{a.Fid}
	case api.ActRemove:
		return []int{a.Dir}
	}
	if a.Dir == a.To && a.Name == a.ToName {
		return nil
	}
	return slices.Compact(slices.Sorted(slices.Values([]int{a.Dir, a.To})))
}

func (m *teller) done(a api.Act) {
	if !m.c.Away {
		s, err := server.Do(m.s, m.c.Number, a)
		throw(err)
		m.s, m.c.Cache = s, cache.Fresh(m.c.Cache, s.Tree)
		return
	}
	made, seen := 0, -1
	if a.Kind == api.ActMake || a.Kind == api.ActDir {
		made, a.Fid = 1, -1-m.c.Made
	}
	had := map[int]int{}
	for _, k := range m.c.Cache {
		had[k.Node.Fid] = k.Node.Version
	}
	if made == 0 && a.Fid >= 0 {
		seen = had[a.Fid]
	}
	l, err := acts.Apply(cache.Tree(m.c.Cache), a, 0)
	throw(err)
	log, err := logs.Add(m.c.Log, api.Rec{Act: a, Version: seen, ID: m.c.Logged + 1})
	throw(err)
	keep := m.c.Cache
	for _, fid := range changed(a) {
		n, _ := tree.Find(l, fid)
		n.Version = had[fid]
		keep, err = cache.Keep(keep, m.c.Room, api.Kept{Node: n, Dirty: true, Last: m.c.Clock})
		throw(err)
	}
	m.c.Cache = nil
	for _, k := range keep {
		if a.Kind != api.ActRemove || k.Node.Fid != a.Fid {
			m.c.Cache = append(m.c.Cache, k)
		}
	}
	m.c.Log, m.c.Logged, m.c.Made = log, m.c.Logged+1, m.c.Made+made
}

func (m *teller) step(x api.Step) {
	switch x.Kind {
	case api.StepRead, api.StepList:
		n := m.walk(m.split(x.Path), 0)
		switch {
		case x.Kind == api.StepRead && n.Dir:
			throw(api.ErrFile)
		case x.Kind == api.StepList && !n.Dir:
			throw(api.ErrDir)
		}
		m.r.Data = slices.Clone(n.Data)
		for _, e := range n.Entries {
			m.r.Data = append(m.r.Data, e.Name+"\n"...)
		}
	case api.StepWrite:
		m.write(x)
	case api.StepDir:
		in, name := m.parent(x.Path)
		m.done(api.Act{Kind: api.ActDir, Dir: in.Fid, Name: name})
	case api.StepRemove, api.StepRename:
		m.move(x)
	case api.StepAway:
		m.c.Away = true
	case api.StepBack:
		m.back()
	case api.StepHoard:
		m.hoard(x)
	case api.StepWalk:
		if m.c.Away {
			throw(api.ErrAway)
		}
		for worth := 100; worth > 0; worth-- {
			for _, h := range m.c.Hoards {
				if h.Worth == worth && caught(func() { m.walk(m.split(h.Path), worth) }) == api.OK {
					m.r.N++
				}
			}
		}
	default:
		throw(api.ErrKind)
	}
}

func (m *teller) write(x api.Step) {
	in, name := m.parent(x.Path)
	if len(x.Data) > api.MaxData {
		throw(api.ErrMuch)
	}
	fid, there := tree.Entry(in, name)
	if there {
		m.look(fid, 0)
	} else {
		m.done(api.Act{Kind: api.ActMake, Dir: in.Fid, Name: name})
		fid = m.walk(m.split(x.Path), 0).Fid
	}
	m.done(api.Act{Kind: api.ActStore, Fid: fid, Data: x.Data})
}

func (m *teller) move(x api.Step) {
	in, name := m.parent(x.Path)
	fid, there := tree.Entry(in, name)
	if !there {
		throw(api.ErrNone)
	}
	m.look(fid, 0)
	if x.Kind == api.StepRemove {
		m.done(api.Act{Kind: api.ActRemove, Fid: fid, Dir: in.Fid, Name: name})
		return
	}
	to, toName := m.parent(x.ToPath)
	m.done(api.Act{Kind: api.ActRename, Fid: fid, Dir: in.Fid, Name: name, To: to.Fid, ToName: toName})
}

func (m *teller) back() {
	s, verdicts := server.Take(m.s, m.c.Number, m.c.Log)
	for i, r := range m.c.Log {
		if verdicts[i].Err != api.OK {
			m.c.Repair = append(m.c.Repair, r)
			m.r.M++
		}
	}
	m.r.N = len(m.c.Log) - m.r.M
	m.s, m.c.Away, m.c.Log = s, false, nil
	var l []api.Kept
	for _, k := range m.c.Cache {
		if n, there := tree.Find(s.Tree, k.Node.Fid); !k.Dirty && there && n.Version == k.Node.Version {
			l = append(l, k)
		}
	}
	m.c.Cache = l
}

func (m *teller) hoard(x api.Step) {
	m.split(x.Path)
	if x.N < 0 || x.N > 100 {
		throw(api.ErrRange)
	}
	var others []api.Hoard
	for _, h := range m.c.Hoards {
		if h.Path != x.Path {
			others = append(others, h)
		}
	}
	if x.N > 0 {
		if len(others) == api.MaxHoards {
			throw(api.ErrMany)
		}
		others = append(others, api.Hoard{Path: x.Path, Worth: x.N})
	}
	m.c.Hoards = others
}
