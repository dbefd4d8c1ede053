package disk

import (
	"slices"

	"rick/api"
)

// key is the place of a file that there is.
type key uint8

// keyOf answers the key of a file; false, if there is no such file.
func keyOf(file int) (key, bool) {
	if file < 0 || file >= api.Files {
		return 0, false
	}
	return key(file), true
}

// content is what is in a file: what is synced, and behind it what is loose.
type content struct {
	all    []byte
	synced int // how many of all, from the first one on
}

// add puts b behind what is there, loose.
func (c *content) add(b []byte) {
	c.all = append(c.all, b...)
}

// sync lets nothing be loose any more.
func (c *content) sync() {
	c.synced = len(c.all)
}

// cut leaves the first n bytes: those of them that were synced still are.
func (c *content) cut(n int) {
	c.all = c.all[:n]
	c.synced = min(c.synced, n)
}

// crashed answers what a crash leaves: what is synced, and the first keep bytes (held from 0 to how many there are) of what is loose.
func (c content) crashed(keep int) content {
	left := c.synced + held(keep, len(c.all)-c.synced)
	return content{all: slices.Clone(c.all[:left]), synced: left}
}

// copied answers the same in memory of its own.
func (c content) copied() content {
	return content{all: slices.Clone(c.all), synced: c.synced}
}
