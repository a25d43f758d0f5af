package client

import (
	"cmp"
	"slices"

	"longabsence/api"
	"longabsence/cache"
	"longabsence/names"
	"longabsence/server"
	"longabsence/tree"
)

// mostWorth is what a path may be worth at most.
const mostWorth = 100

func (v *session) step(x api.Step) api.Reply {
	switch x.Kind {
	case api.StepRead:
		return v.read(x.Path)
	case api.StepList:
		return v.list(x.Path)
	case api.StepWrite:
		return api.Reply{Err: v.write(x.Path, x.Data)}
	case api.StepDir:
		return api.Reply{Err: v.makeDir(x.Path)}
	case api.StepRemove:
		return api.Reply{Err: v.remove(x.Path)}
	case api.StepRename:
		return api.Reply{Err: v.rename(x.Path, x.ToPath)}
	case api.StepAway:
		v.client.Away = true
		return api.Reply{}
	case api.StepBack:
		return v.back()
	case api.StepHoard:
		return api.Reply{Err: v.hoard(x.Path, x.N)}
	case api.StepWalk:
		return v.gather()
	}
	return api.Reply{Err: api.ErrKind}
}

func (v *session) read(path string) api.Reply {
	n, err := v.reach(path, 0)
	switch {
	case err != api.OK:
		return api.Reply{Err: err}
	case n.Dir:
		return api.Reply{Err: api.ErrFile}
	}
	return api.Reply{Data: append([]byte(nil), n.Data...)}
}

func (v *session) list(path string) api.Reply {
	n, err := v.reach(path, 0)
	switch {
	case err != api.OK:
		return api.Reply{Err: err}
	case !n.Dir:
		return api.Reply{Err: api.ErrDir}
	}
	var lines []byte
	for _, e := range n.Entries {
		lines = append(lines, e.Name...)
		lines = append(lines, '\n')
	}
	return api.Reply{Data: lines}
}

func (v *session) write(path string, data []byte) api.Errno {
	dir, name, err := v.parent(path)
	if err != api.OK {
		return err
	}
	// Asked ahead of the making: else a file would be left that nobody wrote.
	if len(data) > api.MaxData {
		return api.ErrMuch
	}
	n, err := v.open(path, dir, name)
	if err != api.OK {
		return err
	}
	return v.do(api.Act{Kind: api.ActStore, Fid: n.Fid, Data: data})
}

// open answers the node at the path, which is the name in dir; it is made, if there is none.
func (v *session) open(path string, dir api.Node, name string) (api.Node, api.Errno) {
	if fid, there := tree.Entry(dir, name); there {
		return v.look(0)(fid)
	}
	if err := v.do(api.Act{Kind: api.ActMake, Dir: dir.Fid, Name: name}); err != api.OK {
		return api.Node{}, err
	}
	// Which fid it has only the tree tells.
	return v.reach(path, 0)
}

func (v *session) makeDir(path string) api.Errno {
	dir, name, err := v.parent(path)
	if err != api.OK {
		return err
	}
	return v.do(api.Act{Kind: api.ActDir, Dir: dir.Fid, Name: name})
}

func (v *session) remove(path string) api.Errno {
	a, err := v.aim(api.ActRemove, path)
	if err != api.OK {
		return err
	}
	return v.do(a)
}

func (v *session) rename(path, toPath string) api.Errno {
	a, err := v.aim(api.ActRename, path)
	if err != api.OK {
		return err
	}
	to, toName, err := v.parent(toPath)
	if err != api.OK {
		return err
	}
	a.To, a.ToName = to.Fid, toName
	return v.do(a)
}

// aim answers an act of that kind on what is at the path, which is looked at.
func (v *session) aim(kind int, path string) (api.Act, api.Errno) {
	dir, name, err := v.parent(path)
	if err != api.OK {
		return api.Act{}, err
	}
	fid, there := tree.Entry(dir, name)
	if !there {
		return api.Act{}, api.ErrNone
	}
	if _, err := v.look(0)(fid); err != api.OK {
		return api.Act{}, err
	}
	return api.Act{Kind: kind, Fid: fid, Dir: dir.Fid, Name: name}, api.OK
}

// back hands the log to the server; of what was refused the records stay, for repair.
func (v *session) back() api.Reply {
	c, r := v.client, api.Reply{}
	s, verdicts := server.Take(v.server, c.Number, c.Log)
	for i, verdict := range verdicts {
		if verdict.Err == api.OK {
			r.N++
			continue
		}
		r.M++
		c.Repair = append(c.Repair, c.Log[i])
	}
	c.Away, c.Log = false, nil
	// What is dirty may be refused, or has another fid by now: the server's nodes are the right ones.
	c.Cache = cache.Fresh(cache.Clean(c.Cache), s.Tree)
	v.client, v.server = c, s
	return r
}

func (v *session) hoard(path string, worth int) api.Errno {
	if _, err := names.Split(path); err != api.OK {
		return err
	}
	if worth < 0 || worth > mostWorth {
		return api.ErrRange
	}
	l := slices.DeleteFunc(ownHoards(v.client.Hoards), func(h api.Hoard) bool { return h.Path == path })
	if worth != 0 {
		if len(l) >= api.MaxHoards {
			return api.ErrMany
		}
		l = append(l, api.Hoard{Path: path, Worth: worth})
	}
	v.client.Hoards = l
	return api.OK
}

// gather walks what the client asked for.
func (v *session) gather() api.Reply {
	if v.client.Away {
		return api.Reply{Err: api.ErrAway}
	}
	l := ownHoards(v.client.Hoards)
	// Stable: of those that are worth the same the one that was told first goes first.
	slices.SortStableFunc(l, func(a, b api.Hoard) int { return cmp.Compare(b.Worth, a.Worth) })
	r := api.Reply{}
	for _, h := range l {
		if _, err := v.reach(h.Path, h.Worth); err == api.OK {
			r.N++
		}
	}
	return r
}
