package icmp

import (
	"bytes"

	"mosaic/api"
	"mosaic/ip4"
	"mosaic/sum"
	"mosaic/wire"
)

// What a head of version 4 is made of.
const (
	least4       = 20 // bytes of a head without options
	headSumAt    = 10
	word         = 4 // bytes by which a head's length is told
	unit         = 8 // bytes by which an offset is told
	reservedFlag = 1 << 15
	keepFlag     = 1 << 14
	moreFlag4    = 1 << 13
	units        = moreFlag4 - 1
)

// What a head of version 6 is made of.
const (
	fixed6    = 40 // bytes of the head that every packet has
	nextAt    = 6  // where the next header's number stands in it
	extra     = 8  // bytes of a fragment header
	flows     = 1 << 20
	moreFlag6 = 1
	unused    = 2 | 4
	offsets   = maxWord &^ (unit - 1)
)

// Look reads what a message quotes: the packet with as much of its data as is there, and the length of the whole that its head tells. ip4.Parse and ip6.Parse can't: they take whole packets alone.
func Look(m api.Message) (api.Packet, int, api.Errno) {
	switch m.V {
	case 4:
		return look4(m.Body)
	case 6:
		return look6(m.Body)
	}
	return api.Packet{}, 0, api.ErrArg
}

func look4(b []byte) (api.Packet, int, api.Errno) {
	if len(b) < least4 {
		return api.Packet{}, 0, api.ErrShort
	}
	head := int(b[0]&15) * word
	switch {
	case b[0]>>4 != 4 || head < least4:
		return api.Packet{}, 0, api.ErrForm
	case len(b) < head:
		return api.Packet{}, 0, api.ErrShort
	case !summed(b[:head]):
		return api.Packet{}, 0, api.ErrSum
	}
	p, told, reserved := read4(b[:head])
	switch {
	case reserved || told < head:
		return api.Packet{}, 0, api.ErrForm
	case !optioned(p):
		return api.Packet{}, 0, api.ErrOpt
	}
	p.Data = bytes.Clone(b[head:min(len(b), told)])
	return p, told, api.OK
}

// summed says whether a head's checksum is the one.
func summed(head []byte) bool {
	bare := bytes.Clone(head)
	bare[headSumAt], bare[headSumAt+1] = 0, 0
	return wire.NewReader(head[headSumAt:]).U16() == sum.Of(bare)
}

// read4 reads a head's fields, the length of the whole that it tells, and whether the reserved flag is set.
func read4(head []byte) (api.Packet, int, bool) {
	p := api.Packet{V: 4}
	r := wire.NewReader(head)
	r.Bytes(1) // the version and the head's length
	p.TOS = int(r.U8())
	told := int(r.U16())
	p.ID = uint32(r.U16())
	flags := r.U16()
	p.DF = flags&keepFlag != 0
	p.More = flags&moreFlag4 != 0
	p.Off = int(flags&units) * unit
	p.TTL = int(r.U8())
	p.Proto = int(r.U8())
	r.Bytes(2) // the checksum
	p.Src = address(r, 4, 4)
	p.Dst = address(r, 4, 4)
	p.Opts = r.Bytes(r.Left())
	return p, told, flags&reservedFlag != 0
}

// optioned says whether a packet's options are some: whether a packet that has nothing else to be wrong is right with them.
func optioned(p api.Packet) bool {
	return ip4.Right(api.Packet{V: 4, Src: p.Src, Dst: p.Dst, Opts: p.Opts})
}

func look6(b []byte) (api.Packet, int, api.Errno) {
	switch {
	case len(b) < fixed6:
		return api.Packet{}, 0, api.ErrShort
	case b[0]>>4 != 6:
		return api.Packet{}, 0, api.ErrForm
	case b[nextAt] == api.ProtoFrag && len(b) < fixed6+extra:
		return api.Packet{}, 0, api.ErrShort
	}
	r := wire.NewReader(b)
	p, told := read6(r)
	left := told
	if p.Proto == api.ProtoFrag {
		clean := readFragment(r, &p)
		if !clean || p.Proto == api.ProtoFrag || told < extra {
			return api.Packet{}, 0, api.ErrForm
		}
		left -= extra
	}
	p.Data = r.Bytes(min(r.Left(), left))
	return p, fixed6 + told, api.OK
}

// read6 reads the fixed head's fields, and how many bytes it tells behind it; Proto is the number that stands there, a fragment header's too.
func read6(r *wire.Reader) (api.Packet, int) {
	p := api.Packet{V: 6}
	first := r.U32()
	p.TOS = int(first >> 20 & 255)
	p.Flow = int(first % flows)
	told := int(r.U16())
	p.Proto = int(r.U8())
	p.TTL = int(r.U8())
	p.Src = address(r, 6, 16)
	p.Dst = address(r, 6, 16)
	return p, told
}

// readFragment reads a fragment header, and says whether the bits that no field of a packet tells are 0.
func readFragment(r *wire.Reader, p *api.Packet) bool {
	p.Frag = true
	p.Proto = int(r.U8())
	reserved := r.U8()
	place := r.U16()
	p.Off = int(place & offsets)
	p.More = place&moreFlag6 != 0
	p.ID = r.U32()
	return reserved == 0 && place&unused == 0
}

func address(r *wire.Reader, v, size int) api.Addr {
	a := api.Addr{V: v}
	copy(a.B[:], r.Bytes(size))
	return a
}
