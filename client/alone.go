package client

import (
	"slices"

	"longabsence/acts"
	"longabsence/api"
	"longabsence/cache"
	"longabsence/logs"
	"longabsence/tree"
)

// alone answers the client that did the act to what it keeps, and wrote it down.
func alone(c api.Client, a api.Act) (api.Client, api.Errno) {
	makes := acts.Makes(a)
	if makes {
		a.Fid = -1 - c.Made
		c.Made++
	}
	before := cache.Tree(c.Cache)
	after, err := acts.Apply(before, a, 0)
	if err != api.OK {
		return api.Client{}, err
	}
	c.Logged++
	c.Log, err = logs.Add(c.Log, api.Rec{Act: a, Version: seen(before, a), ID: c.Logged})
	if err != api.OK {
		return api.Client{}, err
	}
	c.Cache, err = remember(c, before, after, a)
	if err != api.OK {
		return api.Client{}, err
	}
	return c, api.OK
}

// seen answers which version of its node the act's maker saw; below 0, if only this client ever had it.
func seen(l []api.Node, a api.Act) int {
	if a.Fid < 0 || acts.Makes(a) {
		return -1
	}
	n, _ := tree.Find(l, a.Fid)
	return n.Version
}

// remember answers what the client keeps when the act has made after of before: what it changed, dirty, and nothing that is gone.
func remember(c api.Client, before, after []api.Node, a api.Act) ([]api.Kept, api.Errno) {
	l := cache.Own(c.Cache)
	for _, n := range after {
		was, kept := tree.Find(before, n.Fid)
		stored := a.Kind == api.ActStore && a.Fid == n.Fid
		if kept && !stored && tree.Same([]api.Node{was}, []api.Node{n}) {
			continue
		}
		// The server's own version stays: by that it tells, later, whether others changed the node meanwhile.
		n.Version = was.Version
		var err api.Errno
		l, err = cache.Keep(l, c.Room, api.Kept{Node: n, Dirty: true, Last: c.Clock})
		if err != api.OK {
			return nil, err
		}
	}
	return slices.DeleteFunc(l, func(k api.Kept) bool {
		_, there := tree.Find(after, k.Node.Fid)
		return !there
	}), api.OK
}
