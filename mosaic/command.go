package mosaic

import (
	"mosaic/api"
	"mosaic/trace"
)

// command is what a line asks for.
type command interface {
	// do does it in a world; the answer has what counts of it for what is told.
	do(w *trace.World) api.Answer
}

// move is one of trace's. Of those that tell more than that they were done, the three types below have it.
type move api.Move

type (
	bind     struct{ move }
	receive  struct{ move }
	estimate struct{ move }
)

// run forwards what is in front, so many times at most.
type run struct{ times int }

// question is answered by what the world tells, and does nothing.
type question struct{}

type (
	askFlight struct{ question }
	askClear  struct{ question }
	askNow    struct{ question }
	askState  struct{ node int }
)

func (m move) do(w *trace.World) api.Answer { return w.Do(api.Move(m)) }

func (c run) do(w *trace.World) api.Answer {
	n := 0
	for n < c.times && w.Do(api.Move{Kind: api.MvForward}).Code == api.OK {
		n++
	}
	return api.Answer{N: n}
}

func (question) do(*trace.World) api.Answer { return api.Answer{} }

func (c askState) do(w *trace.World) api.Answer {
	_, e := w.State(c.node)
	return api.Answer{Code: e}
}

// commandOf is the command that a line is; none and OK: it says nothing; none and ErrLine: it is no command.
func commandOf(line string) (command, api.Errno) {
	var c command
	e := readLine(line, func(r *words) { c = r.command() })
	if e != api.OK {
		return nil, e
	}
	return c, api.OK
}

func (r *words) command() command {
	switch word := r.word(); word {
	case "bind":
		return bind{move{Kind: api.MvBind, Node: r.number(), Addr: r.address(), Port: r.number()}}
	case "send":
		return move{Kind: api.MvSend, Node: r.number(), Socket: r.number(), Addr: r.address(), Port: r.number(), Flags: r.flags(), Data: r.bytes()}
	case "mtu":
		return estimate{move{Kind: api.MvEstimate, Node: r.number(), Addr: r.address()}}
	case "inject":
		return move{Kind: api.MvInject, Node: r.number(), Data: r.bytes()}
	default:
		return numbered(word, r.numbers(word))
	}
}

// numbered is a command of numbers alone.
func numbered(word string, n []int) command {
	switch word {
	case "shut":
		return move{Kind: api.MvShut, Node: n[0], Socket: n[1]}
	case "recv":
		return receive{move{Kind: api.MvRecv, Node: n[0], Socket: n[1]}}
	case "forward":
		return move{Kind: api.MvForward, K: n[0]}
	case "drop":
		return move{Kind: api.MvDrop, K: n[0]}
	case "twin":
		return move{Kind: api.MvTwin, K: n[0]}
	case "swap":
		return move{Kind: api.MvSwap, K: n[0], J: n[1]}
	case "spoil":
		return move{Kind: api.MvSpoil, K: n[0], J: n[1], Mask: n[2]}
	case "recut":
		return move{Kind: api.MvRecut, K: n[0], J: n[1]}
	case "tick":
		return move{Kind: api.MvTick}
	case "run":
		return run{n[0]}
	case "flight":
		return askFlight{}
	case "state":
		return askState{n[0]}
	case "clear":
		return askClear{}
	case "now":
		return askNow{}
	}
	panic(api.ErrLine) // a word of a world's text
}
