package coffer

import "coffer/api"

const noNode = -1 // as the node of a pod: it is on none

// pod is where a pod is, and which secrets it needs.
type pod struct {
	node  int
	needs []string // paths, each of them once
}

// unplacedPods gives pods as they are at first.
func unplacedPods() [api.MaxPods]pod {
	pods := [api.MaxPods]pod{}
	for i := 0; i < len(pods); i++ {
		pods[i].node = noNode
	}
	return pods
}

func isPod(number int) bool { return number >= 0 && number < api.MaxPods }

func isNode(number int) bool { return number >= 0 && number < api.MaxNodes }

// Place puts a pod on a node (P14).
func (x *Coffer) Place(pod int, node int) api.Errno {
	if !isPod(pod) {
		return api.ErrArg
	}
	if node != noNode && !isNode(node) {
		return api.ErrArg
	}
	x.pods[pod].node = node
	return api.OK
}

// Refer tells whether a pod needs a secret (P14).
func (x *Coffer) Refer(pod int, path string, on bool) api.Errno {
	if !isPod(pod) || !isPath(path) {
		return api.ErrArg
	}
	needs := without(x.pods[pod].needs, path)
	if on {
		if len(needs) >= api.MaxPods {
			return api.ErrMany
		}
		needs = append(needs, path)
	}
	x.pods[pod].needs = needs
	return api.OK
}

// without gives a fresh list of the paths but one.
func without(paths []string, path string) []string {
	others := []string{}
	for i := 0; i < len(paths); i++ {
		if paths[i] != path {
			others = append(others, paths[i])
		}
	}
	return others
}

// Fetch tells a secret to a node (P14).
func (x *Coffer) Fetch(s int, node int, path string) (string, api.Errno) {
	if !x.isServer(s) {
		return "", api.ErrServer
	}
	if !isNode(node) {
		return "", api.ErrArg
	}
	if !x.isNeeded(node, path) {
		return "", api.ErrDenied
	}
	e := x.mayRead(s)
	if e != api.OK {
		return "", e
	}
	entry := x.newest(path, x.state.Rev)
	return x.openedFor(s, entry)
}

// isNeeded tells whether some pod on a node needs a path.
func (x *Coffer) isNeeded(node int, path string) bool {
	for i := 0; i < len(x.pods); i++ {
		if x.pods[i].node == node && x.pods[i].needsPath(path) {
			return true
		}
	}
	return false
}

func (p pod) needsPath(path string) bool {
	for i := 0; i < len(p.needs); i++ {
		if p.needs[i] == path {
			return true
		}
	}
	return false
}
