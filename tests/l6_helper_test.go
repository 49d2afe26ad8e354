package tests

import (
	"regexp"
	"slices"
	"strconv"
	"strings"
	"testing"

	"loop.example/s01647/impl"
)

func sameSetups(a, b impl.Setup) bool {
	return a.Kind == b.Kind && a.Cfg == b.Cfg && slices.Equal(a.Filters, b.Filters)
}

func sameOrders(a, b impl.Order) bool {
	return a.Tick == b.Tick && a.Op == b.Op && a.Node == b.Node && a.Tag == b.Tag && sameFrames(a.F, b.F) && a.From == b.From && a.Count == b.Count
}

func sameScripts(a, b impl.Script) bool {
	return a.Code == b.Code && a.Line == b.Line && a.Ticks == b.Ticks &&
		slices.EqualFunc(a.Setups, b.Setups, sameSetups) && slices.EqualFunc(a.Orders, b.Orders, sameOrders)
}

func sameSeen(a, b impl.Seen) bool {
	return a.Tick == b.Tick && a.Node == b.Node && sameEvents(a.E, b.E)
}

func sameOutcomes(a, b impl.Outcome) bool {
	return a.Code == b.Code && a.Line == b.Line && a.Bus == b.Bus &&
		slices.EqualFunc(a.Seen, b.Seen, sameSeen) && slices.Equal(a.Finals, b.Finals)
}

func outcomeRegions(o impl.Outcome) []region {
	out := []region{regionOf(o.Seen), regionOf(o.Finals)}
	for _, s := range o.Seen {
		out = append(out, regionOf(s.E.F.Data))
	}
	return out
}

func scriptRegions(s impl.Script) []region {
	out := []region{regionOf(s.Setups), regionOf(s.Orders)}
	for _, setup := range s.Setups {
		out = append(out, regionOf(setup.Filters))
	}
	for _, o := range s.Orders {
		out = append(out, regionOf(o.F.Data))
	}
	return out
}

// The reading a second time: each line is held against patterns, one for each word of its row in the document's table.

const (
	numberForm = `[0-9]{1,6}`
	hexForm    = `[0-9a-f]{1,8}`
	dataForm   = `-|(?:[0-9a-f][0-9a-f]){1,8}`
)

func slowForms() map[string][]string {
	return map[string][]string{
		"node":    {`ref|opt`, numberForm, numberForm, `old|new`, numberForm},
		"accept":  {numberForm, `b|x`, hexForm, hexForm},
		"send":    {numberForm, numberForm, `b|x`, hexForm, dataForm},
		"ask":     {numberForm, numberForm, `b|x`, hexForm, numberForm},
		"drop":    {numberForm, numberForm},
		"restart": {numberForm},
		"fetch":   {numberForm},
		"flip":    {numberForm, numberForm, numberForm},
		"run":     {numberForm},
	}
}

func wordsOf(line string) []string {
	return slices.DeleteFunc(strings.Split(line, " "), func(word string) bool { return word == "" })
}

func slowParse(src string) impl.Script {
	if len(src) > 20000 || !regexp.MustCompile(`^[\n -~]*$`).MatchString(src) {
		return impl.Script{Code: impl.CodeText}
	}
	var s impl.Script
	ordered := false
	for i, line := range strings.Split(src, "\n") {
		words := wordsOf(line)
		if len(words) == 0 {
			continue
		}
		if code := slowLine(&s, words, ordered); code != 0 {
			return impl.Script{Code: code, Line: i + 1}
		}
		ordered = ordered || words[0] != "node" && words[0] != "accept"
	}
	if len(s.Setups) == 0 {
		return impl.Script{Code: impl.CodeEmpty}
	}
	return s
}

// slowLine changes s only where the line has no fault.
func slowLine(s *impl.Script, words []string, ordered bool) int {
	forms, known := slowForms()[words[0]]
	if !known {
		return impl.CodeWord
	}
	if len(words)-1 != len(forms) {
		return impl.CodeCount
	}
	if ordered && (words[0] == "node" || words[0] == "accept") {
		return impl.CodePlace
	}
	for i, form := range forms {
		if !regexp.MustCompile(`^(?:` + form + `)$`).MatchString(words[i+1]) {
			return impl.CodeForm
		}
	}
	if !slowMeaning(s, words) {
		return impl.CodeRange
	}
	return 0
}

func numberIn(word string, base int) int {
	n, err := strconv.ParseInt(word, base, 64)
	if err != nil {
		return 0
	}
	return int(n)
}

// slowMeaning says no where something is out of its range.
func slowMeaning(s *impl.Script, words []string) bool {
	var n, h [6]int
	for i, word := range words[1:] {
		n[i+1], h[i+1] = numberIn(word, 10), numberIn(word, 16)
	}
	switch words[0] {
	case "run":
		s.Ticks += n[1]
		return s.Ticks <= 6000
	case "node":
		c := impl.Config{Boxes: n[2], Fifo: n[3], Events: n[5]}
		if words[4] == "new" {
			c.Policy = impl.PolicyNew
		}
		setup := impl.Setup{Cfg: c}
		if words[1] == "opt" {
			setup.Kind = impl.KindOpt
		}
		s.Setups = append(s.Setups, setup)
		return hasConfig(c) && len(s.Setups) <= 32
	}
	if n[1] >= len(s.Setups) {
		return false
	}
	o := impl.Order{Tick: s.Ticks, Node: n[1]}
	switch words[0] {
	case "accept":
		list := append(s.Setups[n[1]].Filters, impl.Filter{Ext: words[2] == "x", Mask: uint32(h[3]), Match: uint32(h[4])})
		s.Setups[n[1]].Filters = list
		return hasFilters(list)
	case "send":
		o.Op, o.Tag, o.F = impl.OpSend, n[2], impl.Frame{Ext: words[3] == "x", Id: uint32(h[4])}
		for digits := strings.TrimPrefix(words[5], "-"); digits != ""; digits = digits[2:] {
			o.F.Dlc++
			o.F.Data = append(o.F.Data, uint8(numberIn(digits[:2], 16)))
		}
	case "ask":
		o.Op, o.Tag, o.F = impl.OpSend, n[2], impl.Frame{Ext: words[3] == "x", Id: uint32(h[4]), Rtr: true, Dlc: n[5]}
	case "drop":
		o.Op, o.Tag = impl.OpDrop, n[2]
	case "restart":
		o.Op = impl.OpRestart
	case "fetch":
		o.Op = impl.OpFetch
	case "flip":
		o.Op, o.From, o.Count = impl.OpFlip, s.Ticks+n[2], n[3]
		if n[2] > 6000 || n[3] > 6000 {
			return false
		}
	}
	s.Orders = append(s.Orders, o)
	return len(s.Orders) <= 500 && o.Tag <= 9999 && impl.ValidFrame(o.F)
}

// The bus a second time: one node behind the other, each told as plain data between any two calls.

type slowNode struct {
	quick bool
	ref   impl.Ref
	opt   impl.Opt
}

func (n *slowNode) core() *impl.Core {
	if n.quick {
		return &n.opt.Core
	}
	return &n.ref.Core
}

func (n *slowNode) drive() int {
	level := 0
	if n.quick {
		n.opt, level = impl.OptDrive(n.opt)
	} else {
		n.ref, level = impl.RefDrive(n.ref)
	}
	return level
}

func (n *slowNode) step(bit int) {
	if n.quick {
		n.opt = impl.OptStep(n.opt, bit)
	} else {
		n.ref = impl.RefStep(n.ref, bit)
	}
}

func (n *slowNode) drain() []impl.Event {
	h, events := impl.Drain(n.core().Host)
	n.core().Host = h
	return events
}

func (n *slowNode) obey(o impl.Order) {
	c := n.core()
	switch o.Op {
	case impl.OpSend:
		c.Host = impl.Submit(c.Host, o.Tag, o.F)
	case impl.OpDrop:
		c.Host = impl.Abort(c.Host, o.Tag)
	case impl.OpFetch:
		c.Host = impl.Fetch(c.Host)
	case impl.OpRestart:
		*c = impl.Restart(*c)
	}
}

// isFlipped counts every OpFlip of the script: none covers a tick ahead of its own.
func isFlipped(s impl.Script, node, tick int) bool {
	count := 0
	for _, o := range s.Orders {
		if o.Op == impl.OpFlip && o.Node == node && o.From <= tick && tick < o.From+o.Count {
			count++
		}
	}
	return count%2 == 1
}

func heldIn(h impl.Host) int {
	return len(h.Boxes) - boxesIn(h, impl.BoxFree)
}

func slowRun(src, kinds string) impl.Outcome {
	s := slowParse(src)
	if s.Code != 0 {
		return impl.Outcome{Code: s.Code, Line: s.Line}
	}
	if kinds != "" && (len(kinds) != len(s.Setups) || strings.Trim(kinds, "ro") != "") {
		return impl.Outcome{Code: impl.CodeKinds}
	}
	var nodes []*slowNode
	for i, setup := range s.Setups {
		h, _ := impl.NewHost(setup.Cfg, setup.Filters)
		n := &slowNode{quick: setup.Kind == impl.KindOpt}
		if kinds != "" {
			n.quick = kinds[i] == 'o'
		}
		n.core().Host = h
		nodes = append(nodes, n)
	}
	var out impl.Outcome
	for tick := range s.Ticks + 1 {
		for _, o := range s.Orders {
			if o.Tick == tick {
				nodes[o.Node].obey(o)
			}
		}
		if tick < s.Ticks {
			out.Bus += slowTick(s, nodes, tick)
		}
		for i, n := range nodes {
			for _, e := range n.drain() {
				out.Seen = append(out.Seen, impl.Seen{Tick: tick, Node: i, E: e})
			}
		}
	}
	for _, n := range nodes {
		c := n.core()
		out.Finals = append(out.Finals, impl.Final{State: impl.ErrorState(*c), Tec: c.Tec, Rec: c.Rec, Held: heldIn(c.Host), Fifo: len(c.Host.Fifo), Lost: c.Host.Lost})
	}
	return out
}

// slowTick answers the letter of the bus.
func slowTick(s impl.Script, nodes []*slowNode, tick int) string {
	level := 1
	for _, n := range nodes {
		level = min(level, n.drive())
	}
	for i, n := range nodes {
		if isFlipped(s, i, tick) {
			n.step(1 - level)
		} else {
			n.step(level)
		}
	}
	return strconv.Itoa(level)
}

// scriptLine joins words and numbers.
func scriptLine(words ...any) string {
	var out []string
	for _, word := range words {
		switch x := word.(type) {
		case string:
			out = append(out, x)
		case int:
			out = append(out, strconv.Itoa(x))
		}
	}
	return strings.Join(out, " ") + "\n"
}

// frameLine is the line that orders a frame; a data frame must have as many bytes as its code says.
func frameLine(node, tag int, f impl.Frame) string {
	width, id := "b", strconv.FormatUint(uint64(f.Id), 16)
	if f.Ext {
		width = "x"
	}
	if f.Rtr {
		return scriptLine("ask", node, tag, width, id, f.Dlc)
	}
	data := ""
	for _, octet := range f.Data {
		data += strconv.FormatUint(uint64(octet)+256, 16)[1:]
	}
	if data == "" {
		data = "-"
	}
	return scriptLine("send", node, tag, width, id, data)
}

// wish says what the dice shall put into a script.
type wish struct {
	nodes, orders, ticks int
	flips                int  // how many of the orders
	own                  bool // no two nodes send the same identifier
	near                 bool // frames that are alike
	wide                 bool // queues that lose nothing
}

// wishedFrame is one that a line can order.
func (d *dice) wishedFrame(w wish, node int) impl.Frame {
	f := d.anyFrame()
	if w.near {
		f = d.nearFrame()
	}
	if !f.Rtr {
		f.Data = f.Data[:min(f.Dlc, 8)]
		f.Dlc = len(f.Data)
	}
	if w.own {
		f.Id = f.Id/32*32 + uint32(node)
	}
	return f
}

func (d *dice) nodeLine(w wish) string {
	c := d.config()
	if w.wide {
		c.Events = 32
	}
	kind, policy := []string{"ref", "opt"}[d.roll(2)], []string{"old", "new"}[c.Policy]
	return scriptLine("node", kind, c.Boxes, c.Fifo, policy, c.Events)
}

func (d *dice) acceptLine(nodes int) string {
	x := impl.Filter{Mask: uint32(d.one(0, 1, 0x400, 0x7ff)), Match: uint32(d.roll(1 << 11))}
	width := "b"
	if d.roll(2) == 0 {
		width, x.Mask, x.Match = "x", uint32(d.one(0, 1, 1<<18, 1<<29-1)), uint32(d.roll(1<<29))
	}
	return scriptLine("accept", d.roll(nodes), width, strconv.FormatUint(uint64(x.Mask), 16), strconv.FormatUint(uint64(x.Match), 16))
}

func (d *dice) orderLine(w wish, tag int) string {
	node := d.roll(w.nodes)
	switch d.roll(8) {
	case 0:
		return scriptLine("drop", node, max(tag-d.roll(6), 0))
	case 1:
		return scriptLine("fetch", node)
	case 2:
		return scriptLine("restart", node)
	}
	return frameLine(node, tag-d.one(0, 0, 0, 1)*min(tag, 1), d.wishedFrame(w, node))
}

// script keeps to the limits, so that it has no fault. Its orders come in heaps.
func (d *dice) script(w wish) string {
	out := ""
	for range w.nodes {
		out += d.nodeLine(w)
	}
	for range d.one(0, 0, 1, 3) {
		out += d.acceptLine(w.nodes)
	}
	heap := 1 + w.orders/8
	left := w.ticks
	for i := range w.orders {
		if i%heap == 0 || d.roll(4) == 0 {
			pass := min(left, d.roll(1+2*w.ticks/(w.orders+8)))
			left -= pass
			out += scriptLine("run", pass)
		}
		if d.roll(w.orders) < w.flips {
			out += scriptLine("flip", d.roll(w.nodes), d.roll(60), d.one(0, 1, 1, 1, 2, 7, 1+d.roll(40)))
			continue
		}
		out += d.orderLine(w, i)
	}
	return out + scriptLine("run", left) + d.orderLine(w, w.orders)
}

// kindTexts are texts of kinds that fit a script of so many nodes.
func (d *dice) kindTexts(nodes int) []string {
	mixed := make([]byte, nodes)
	for i := range mixed {
		mixed[i] = "ro"[d.roll(2)]
	}
	return []string{"", strings.Repeat("r", nodes), strings.Repeat("o", nodes), string(mixed)}
}

// expectSame tells the first place where two outcomes part.
func expectSame(t *testing.T, what, src string, got, want impl.Outcome) {
	t.Helper()
	if sameOutcomes(got, want) {
		return
	}
	for i := range min(len(got.Seen), len(want.Seen)) {
		if !sameSeen(got.Seen[i], want.Seen[i]) {
			t.Fatalf("%s:\n%s\nseen %d: %+v, want %+v", what, src, i, got.Seen[i], want.Seen[i])
		}
	}
	t.Fatalf("%s:\n%s\n%+v\nwant %+v", what, src, got, want)
}

// eventsOf are the Seen of one node and kind.
func eventsOf(out impl.Outcome, node, kind int) []impl.Seen {
	var list []impl.Seen
	for _, s := range out.Seen {
		if s.Node == node && s.E.Kind == kind {
			list = append(list, s)
		}
	}
	return list
}

// expectSeen names tick, node, kind and A of each Seen.
func expectSeen(t *testing.T, what string, got []impl.Seen, want ...[4]int) {
	t.Helper()
	var list [][4]int
	for _, s := range got {
		list = append(list, [4]int{s.Tick, s.Node, s.E.Kind, s.E.A})
	}
	if !slices.Equal(list, want) {
		t.Errorf("%s: seen %v, want %v", what, list, want)
	}
}
