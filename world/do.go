package world

import (
	"firth/api"
	"firth/code"
	"firth/site"
)

// Do lets an event happen.
func (w *World) Do(e Event) (api.Errno, int) {
	w.events++
	switch e.Kind {
	case Open:
		n, err := w.sess.Open(e.Site)
		return err, n
	case Get, Put, Del:
		return w.clientAsks(e)
	case Try, Full, Move, Heal:
		return w.nobodyAsks(e)
	case Go:
		return w.sess.Go(e.Sess, e.Site), 0
	case Deliver:
		return w.deliver(e.I), 0
	case Lose:
		return none(w.net.Lose(e.I)), 0
	case Copy:
		return none(w.net.Copy(e.I)), 0
	case Flip:
		return none(w.net.Flip(e.I, e.At, e.X)), 0
	case Junk:
		return w.junk(e), 0
	case Tick:
		w.tick()
		return api.OK, 0
	case Crash:
		return w.crash(e), 0
	case Start:
		return w.start(api.Addr{Site: e.Site, Node: e.Node}), 0
	case Wipe:
		return w.wipe(api.Addr{Site: e.Site, Node: e.Node}), 0
	case Part:
		return w.part(e), 0
	case Mend:
		return w.mend(e), 0
	case Trim:
		return w.trim(api.Addr{Site: e.Site, Node: e.Node}), 0
	}
	return api.ErrEvent, 0
}

func none(ok bool) api.Errno {
	if ok {
		return api.OK
	}
	return api.ErrNone
}

func (w *World) isPlace(a api.Addr) bool {
	return w.places[a] != nil
}

// clientAsks lets a session ask.
func (w *World) clientAsks(e Event) (api.Errno, int) {
	at, token, err := w.sess.Begin(e.Sess, int64(len(w.history))+1)
	if err != api.OK {
		return err, 0
	}
	return w.ask(e, e.Sess, at, func(gate *site.Site, op int64) ([]api.Msg, api.Errno) {
		if e.Kind == Get {
			return gate.Get(op, token, e.Key)
		}
		if e.Kind == Del {
			return gate.Put(op, token, e.Key, "", true)
		}
		return gate.Put(op, token, e.Key, e.Val, false)
	})
}

// nobodyAsks asks a gate for what no session asks.
func (w *World) nobodyAsks(e Event) (api.Errno, int) {
	if w.gate(e.Site) == nil {
		return api.ErrArg, 0
	}
	return w.ask(e, 0, e.Site, func(gate *site.Site, op int64) ([]api.Msg, api.Errno) {
		switch e.Kind {
		case Try:
			return gate.Get(op, e.Data, e.Key)
		case Full:
			return gate.Full(op, e.I)
		case Move:
			return gate.Move(op, e.List)
		}
		return gate.Heal(op, e.Node, w.life(api.Addr{Site: e.Site, Node: e.Node}))
	})
}

// life tells a node's life; 0 of no place.
func (w *World) life(a api.Addr) int64 {
	if p := w.places[a]; p != nil {
		return p.life
	}
	return 0
}

// ask makes an entry, and lets the gate do what is asked.
func (w *World) ask(e Event, session, at int, do func(*site.Site, int64) ([]api.Msg, api.Errno)) (api.Errno, int) {
	op := int64(len(w.history)) + 1
	entry := Entry{Op: op, Kind: e.Kind, Sess: session, Site: at, Key: e.Key, Begun: w.events}
	if e.Kind == Put {
		entry.Val = e.Val
	}
	w.history = append(w.history, entry)
	p := w.gate(at)
	p.open = append(p.open, op)
	if !p.isUp() {
		w.end(op, api.ErrDown, nil, nil)
		return api.ErrDown, int(op)
	}
	out, err := do(p.gate, op)
	w.send(out)
	if err != api.OK {
		w.end(op, err, nil, nil)
	}
	w.gather(at)
	return err, int(op)
}

// deliver lets a packet arrive.
func (w *World) deliver(i int) api.Errno {
	packet, ok := w.net.Take(i)
	if !ok {
		return api.ErrNone
	}
	p := w.places[packet.To]
	if p == nil || !p.isUp() {
		return api.ErrDown
	}
	m, err := code.Msg(packet.Data)
	if err != api.OK {
		return err
	}
	if p.gate == nil {
		w.send(p.node.Handle(m))
		return api.OK
	}
	w.send(p.gate.Handle(m))
	w.gather(packet.To.Site)
	return api.OK
}

// junk puts any bytes under way.
func (w *World) junk(e Event) api.Errno {
	if !w.isPlace(e.A) || !w.isPlace(e.B) {
		return api.ErrArg
	}
	if !w.net.Send(api.Packet{From: e.A, To: e.B, Data: e.Data}) {
		return api.ErrFull
	}
	return api.OK
}

// part parts two places, or joins them.
func (w *World) part(e Event) api.Errno {
	if !w.isPlace(e.A) || !w.isPlace(e.B) {
		return api.ErrArg
	}
	w.net.Part(e.A, e.B, e.On)
	return api.OK
}

// tick lets time go on at all places that are up.
func (w *World) tick() {
	for _, a := range w.all() {
		p := w.places[a]
		switch {
		case p.gate != nil:
			w.send(p.gate.Tick())
			w.gather(a.Site)
		case p.node != nil:
			w.send(p.node.Tick())
		}
	}
}

// crash lets a place be down, and its disk lose what isn't safe.
func (w *World) crash(e Event) api.Errno {
	a := api.Addr{Site: e.Site, Node: e.Node}
	p := w.places[a]
	if p == nil {
		return api.ErrArg
	}
	if !p.isUp() {
		return api.ErrDown
	}
	p.gate, p.node = nil, nil
	p.disk.Crash(e.Keep, e.Torn)
	if a.Node > 0 {
		return api.OK
	}
	w.sess.Lost(a.Site)
	for _, op := range append([]int64(nil), p.open...) {
		w.end(op, api.ErrDown, nil, nil)
	}
	return api.OK
}

// start lets a place that is down be up.
func (w *World) start(a api.Addr) api.Errno {
	p := w.places[a]
	if p == nil {
		return api.ErrArg
	}
	if p.isUp() {
		return api.ErrBusy
	}
	p.boot++
	return w.open(a)
}

// wipe takes a node down, and all from its disk.
func (w *World) wipe(a api.Addr) api.Errno {
	p := w.places[a]
	if p == nil || a.Node == 0 {
		return api.ErrArg
	}
	p.node = nil
	p.disk.Wipe()
	p.life++
	return api.OK
}

// mend lets a node begin to find out where it differs from another one.
func (w *World) mend(e Event) api.Errno {
	p := w.places[api.Addr{Site: e.Site, Node: e.Node}]
	if p == nil || e.Node == 0 {
		return api.ErrArg
	}
	if !p.isUp() {
		return api.ErrDown
	}
	w.send(p.node.Mend(e.I, e.At))
	return api.OK
}

// trim trims what a place has on its disk.
func (w *World) trim(a api.Addr) api.Errno {
	p := w.places[a]
	switch {
	case p == nil:
		return api.ErrArg
	case !p.isUp():
		return api.ErrDown
	case p.gate != nil:
		return p.gate.Trim()
	}
	return p.node.Trim()
}
