package net

import (
	"bytes"
	"slices"

	"mosaic/api"
	"mosaic/ip4"
	"mosaic/recut"
)

// flight is what is under way. The bytes of a packet are never changed where they stand, so that twins may share them.
type flight struct {
	ways []Way
	lost int // how many found no room
}

func (f *flight) has(k int) bool { return k >= 0 && k < len(f.ways) }

// put lets packets stand at a place, ahead of the one that is there; those for which there is no room are lost, the last of them.
func (f *flight) put(k int, l ...Way) {
	n := min(len(l), api.MaxFlight-len(f.ways))
	f.ways = slices.Insert(f.ways, k, l[:n]...)
	f.lost += len(l) - n
}

// add puts a packet behind all others.
func (f *flight) add(x Way) { f.put(len(f.ways), x) }

// take lets a packet leave.
func (f *flight) take(k int) Way {
	x := f.ways[k]
	f.ways = slices.Delete(f.ways, k, k+1)
	return x
}

func (f *flight) twin(k int) { f.put(k+1, f.ways[k]) }

func (f *flight) swap(k, j int) api.Errno {
	if !f.has(j) {
		return api.ErrNode
	}
	f.ways[k], f.ways[j] = f.ways[j], f.ways[k]
	return api.OK
}

// spoil changes the bits of mask in a byte.
func (f *flight) spoil(k, at, mask int) api.Errno {
	b := f.ways[k].Bytes
	if at < 0 || at >= len(b) || mask < 1 || mask > 255 {
		return api.ErrArg
	}
	b = bytes.Clone(b)
	b[at] ^= byte(mask)
	f.ways[k].Bytes = b
	return api.OK
}

// recut lets the pieces of a packet stand in its place.
func (f *flight) recut(k, mtu int) api.Errno {
	p, e := ip4.Parse(f.ways[k].Bytes)
	if e != api.OK {
		return api.ErrArg
	}
	pieces, e := recut.Recut(p, mtu)
	if e != api.OK {
		return e
	}
	node := f.take(k).Node
	var l []Way
	for _, q := range pieces {
		b, _ := ip4.Build(q) // what Recut tells is right
		l = append(l, Way{Node: node, Bytes: b})
	}
	f.put(k, l...)
	return api.OK
}

// copied is the flight in memory of its own: one piece of memory for all packets, each cut off behind its bytes, since a long flight is asked for again and again.
func (f *flight) copied() []Way {
	size := 0
	for _, x := range f.ways {
		size += len(x.Bytes)
	}
	all, l := make([]byte, 0, size), make([]Way, 0, len(f.ways))
	for _, x := range f.ways {
		from := len(all)
		all = append(all, x.Bytes...)
		l = append(l, Way{Node: x.Node, Bytes: all[from:len(all):len(all)]})
	}
	return l
}
