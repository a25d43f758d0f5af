package client

import (
	"slices"

	"longabsence/api"
	"longabsence/cache"
	"longabsence/names"
	"longabsence/tree"
)

// looking looks at a fid, for a worth that it knows, and answers the node.
type looking func(fid int) (api.Node, api.Errno)

// look answers what looks at fids for that worth.
func (v *session) look(worth int) looking {
	return func(fid int) (api.Node, api.Errno) {
		v.client.Clock++
		k, err := v.kept(fid)
		if err != api.OK {
			return api.Node{}, err
		}
		k.Worth, k.Last = worth, v.client.Clock
		// What is kept stays in its place, and Keep takes the greater worth; where there is no room the node is answered all the same.
		if l, err := cache.Keep(v.client.Cache, v.client.Room, k); err == api.OK {
			v.client.Cache = l
		}
		return k.Node, api.OK
	}
}

// kept answers what is kept of that fid, or else what may be, of who can be asked.
func (v *session) kept(fid int) (api.Kept, api.Errno) {
	l := v.client.Cache
	if i := slices.IndexFunc(l, func(k api.Kept) bool { return k.Node.Fid == fid }); i >= 0 {
		return l[i], api.OK
	}
	n, err := v.ask(fid)
	return api.Kept{Node: n}, err
}

// walk answers the node to which the names lead, from the root on; each one on the way is looked at.
func walk(look looking, l []string) (api.Node, api.Errno) {
	n, err := look(api.Root)
	for _, name := range l {
		if err != api.OK {
			break
		}
		if !n.Dir {
			return api.Node{}, api.ErrDir
		}
		fid, there := tree.Entry(n, name)
		if !there {
			return api.Node{}, api.ErrNone
		}
		n, err = look(fid)
	}
	return n, err
}

// reach answers the node to which the path leads, walked for that worth.
func (v *session) reach(path string, worth int) (api.Node, api.Errno) {
	l, err := names.Split(path)
	if err != api.OK {
		return api.Node{}, err
	}
	return walk(v.look(worth), l)
}

// parent answers the directory in which the path's last name stands, or would stand, and that name.
func (v *session) parent(path string) (api.Node, string, api.Errno) {
	l, err := names.Split(path)
	if err != api.OK {
		return api.Node{}, "", err
	}
	if len(l) == 0 {
		return api.Node{}, "", api.ErrName
	}
	last := len(l) - 1
	n, err := walk(v.look(0), l[:last])
	if err != api.OK {
		return api.Node{}, "", err
	}
	if !n.Dir {
		return api.Node{}, "", api.ErrDir
	}
	return n, l[last], api.OK
}
