package net

import (
	"fmt"
	"math"
	"math/big"
	"math/rand"
	"slices"
	"strings"
	"testing"

	"deadeye/api"
)

// ask returns a message that is told from others by its number.
func ask(from, to, number int) api.Msg {
	return api.Msg{Kind: api.MsgAsk, From: from, To: to, Epoch: number}
}

// sample has something in each field.
func sample() api.Msg {
	return api.Msg{
		Kind: api.MsgFrags, From: -5, To: 14, Epoch: 500, E: api.ErrFull,
		Entry:   api.Entry{Seq: 1000, Client: 3, Num: 70, Op: api.Del, Key: "key\x00\xff", Size: 200, Sum: 0xfedcba98, Frag: []byte{9, 0, 128}},
		Frags:   []api.Frag{{Pos: 12, Data: []byte{1, 200}}, {Pos: 0}, {Pos: 3, Data: []byte("xyz")}},
		Keys:    []string{"one", "", "\x80\x00", "one"},
		Conf:    api.Conf{Epoch: 300, Members: []int{7, 0, 15, 7}},
		Sources: []api.Source{{Node: 9, Pos: 1}, {Node: 2, Pos: 13}},
		Entries: []api.Entry{{Seq: 3, Client: 2, Num: 4, Op: api.Put, Key: "k", Size: 2, Sum: 6, Frag: []byte{8, 7}}, {}},
	}
}

// fullest is a message of the greatest size.
func fullest() api.Msg {
	m := sample()
	m.Keys, m.Entries = nil, nil
	for i := range api.MaxList {
		m.Keys = append(m.Keys, strings.Repeat("k", api.MaxKey))
		m.Entries = append(m.Entries, api.Entry{Seq: i, Frag: make([]byte, api.MaxBlob)})
	}
	return m
}

// unsound returns messages that have no encoding.
func unsound() []api.Msg {
	changes := []func(*api.Msg){
		func(m *api.Msg) { m.Kind = 0 },
		func(m *api.Msg) { m.Kind = 16 },
		func(m *api.Msg) { m.From = -6 },
		func(m *api.Msg) { m.To = 16 },
		func(m *api.Msg) { m.Epoch = -1 },
		func(m *api.Msg) { m.E = 14 },
		func(m *api.Msg) { m.Entry.Client = 4 },
		func(m *api.Msg) { m.Frags[1].Pos = 16 },
		func(m *api.Msg) { m.Keys[2] = strings.Repeat("k", 17) },
		func(m *api.Msg) { m.Conf.Members[3] = -1 },
		func(m *api.Msg) { m.Sources[1].Node = math.MinInt },
		func(m *api.Msg) { m.Entries[1].Op = math.MaxInt },
	}
	list := []api.Msg{{}}
	for _, change := range changes {
		m := sample()
		change(&m)
		list = append(list, m)
	}
	return list
}

// text is all that a message holds; nil and empty slices look alike.
func text(m api.Msg) string { return fmt.Sprintf("%+v %q", m, m.Keys) }

func checkError(t *testing.T, what string, got, want api.Errno) {
	t.Helper()
	if got != want {
		t.Fatalf("%s: the error is %d, want %d", what, got, want)
	}
}

// checkBag checks all messages in transit.
func checkBag(t *testing.T, n *Net, want []api.Msg) {
	t.Helper()
	if n.Len() != len(want) {
		t.Fatalf("Len() = %d, want %d", n.Len(), len(want))
	}
	for i, m := range want {
		if got, ok := n.Look(i); !ok || text(got) != text(m) {
			t.Fatalf("Look(%d) = %s, %t, want %s", i, text(got), ok, text(m))
		}
	}
	if got, ok := n.Look(len(want)); ok != (len(want) > 0) || len(want) == 0 && text(got) != text(api.Msg{}) {
		t.Fatalf("Look(%d) = %s, %t", len(want), text(got), ok)
	}
}

func send(t *testing.T, n *Net, list ...api.Msg) {
	t.Helper()
	for _, m := range list {
		checkError(t, "Send", n.Send(m), api.OK)
	}
}

// numbered returns count messages of different numbers.
func numbered(count int) []api.Msg {
	var list []api.Msg
	for i := range count {
		list = append(list, ask(i%3, 5, i))
	}
	return list
}

// carrying returns a network with messages.
func carrying(t *testing.T, list ...api.Msg) *Net {
	t.Helper()
	n := New()
	send(t, n, list...)
	return n
}

// full returns a network that takes no message more.
func full(t *testing.T) *Net { return carrying(t, numbered(1024)...) }

// parties are all who may send or receive.
func parties() []int {
	var list []int
	for p := -5; p <= 15; p++ {
		list = append(list, p)
	}
	return list
}

var extremes = []int{math.MinInt, math.MinInt + 1, -1 << 53, -1 << 32, -1<<32 + 1, -1 << 31, 1 << 31, 1<<32 + 1, 1 << 53, 1<<53 + 1, math.MaxInt - 1, math.MaxInt}

// remainder is the least number from 0 on that differs from i by a multiple of
// count.
func remainder(i, count int) int {
	return int(new(big.Int).Mod(big.NewInt(int64(i)), big.NewInt(int64(count))).Int64())
}

func indices() []int {
	list := slices.Clone(extremes)
	for i := -30; i <= 30; i++ {
		list = append(list, i)
	}
	return list
}

// P13.1: Send

func TestNew(t *testing.T) {
	a, b := New(), New()
	checkBag(t, a, nil)
	send(t, a, sample())
	if !a.Cut(0, 1) {
		t.Error("a link of a new network is cut")
	}
	checkBag(t, b, nil)
	if b.Heal(0, 1) || !b.Cut(0, 1) {
		t.Error("two networks share their links")
	}
}

func TestSendAppends(t *testing.T) {
	n := New()
	var want []api.Msg
	for i, m := range []api.Msg{ask(0, 1, 9), sample(), ask(1, 0, 2), ask(0, 1, 9), fullest(), ask(3, 3, 0)} {
		send(t, n, m)
		want = append(want, m)
		if n.Len() != i+1 {
			t.Fatalf("Len() = %d after %d messages", n.Len(), i+1)
		}
	}
	checkBag(t, n, want)
}

func TestSendUnsound(t *testing.T) {
	n := carrying(t, sample())
	for _, m := range unsound() {
		checkError(t, text(m), n.Send(m), api.ErrForm)
	}
	checkBag(t, n, []api.Msg{sample()})
}

func TestSendFull(t *testing.T) {
	n := New()
	for i := range 1024 {
		checkError(t, fmt.Sprint("message ", i), n.Send(ask(0, 1, i)), api.OK)
	}
	for range 3 {
		checkError(t, "a message more", n.Send(ask(0, 1, 0)), api.ErrFull)
		checkError(t, "an unsound message more", n.Send(api.Msg{}), api.ErrForm)
	}
	if n.Len() != 1024 {
		t.Errorf("Len() = %d", n.Len())
	}
	for i := range 1024 {
		if m, ok := n.Look(i); !ok || m.Epoch != i {
			t.Fatalf("Look(%d) = %v", i, m)
		}
	}
}

// What is removed makes room for one message.
func TestRoomAgain(t *testing.T) {
	removals := map[string]func(*Net) api.Errno{
		"Drop":    func(n *Net) api.Errno { return n.Drop(500) },
		"Deliver": func(n *Net) api.Errno { _, e := n.Deliver(500); return e },
	}
	additions := map[string]func(*Net) api.Errno{
		"Send": func(n *Net) api.Errno { return n.Send(ask(0, 1, 0)) },
		"Dup":  func(n *Net) api.Errno { return n.Dup(3) },
	}
	for removal, remove := range removals {
		for addition, add := range additions {
			n := full(t)
			checkError(t, addition, add(n), api.ErrFull)
			checkError(t, removal, remove(n), api.OK)
			checkError(t, addition, add(n), api.OK)
			checkError(t, addition, add(n), api.ErrFull)
			if n.Len() != 1024 {
				t.Errorf("%s, %s: Len() = %d", removal, addition, n.Len())
			}
		}
	}
}

// P13.1: the index

func TestIndex(t *testing.T) {
	for count := 1; count <= 7; count++ {
		want := numbered(count)
		for _, i := range indices() {
			place := remainder(i, count)
			n := carrying(t, want...)
			if m, ok := n.Look(i); !ok || text(m) != text(want[place]) {
				t.Errorf("Look(%d) of %d = %s, %t", i, count, text(m), ok)
			}
			checkError(t, "Dup", n.Dup(i), api.OK)
			checkBag(t, n, append(slices.Clone(want), want[place]))

			rest := slices.Delete(slices.Clone(want), place, place+1)
			n = carrying(t, want...)
			checkError(t, "Drop", n.Drop(i), api.OK)
			checkBag(t, n, rest)

			n = carrying(t, want...)
			if m, e := n.Deliver(i); e != api.OK || text(m) != text(want[place]) {
				t.Errorf("Deliver(%d) of %d = %s, %d", i, count, text(m), e)
			}
			checkBag(t, n, rest)
		}
	}
}

func TestIndexOfMany(t *testing.T) {
	n := full(t)
	for _, i := range append(indices(), 1023, 1024, 1025, -1023, -1024, -1025) {
		if m, ok := n.Look(i); !ok || m.Epoch != remainder(i, 1024) {
			t.Errorf("Look(%d) = %v, %t", i, m, ok)
		}
	}
}

func TestEmpty(t *testing.T) {
	emptied := carrying(t, sample(), ask(0, 1, 2))
	emptied.Drop(0)
	emptied.Deliver(0)
	emptied.Cut(0, 1)
	for _, n := range []*Net{New(), emptied, {}} {
		for _, i := range indices() {
			if m, ok := n.Look(i); ok || text(m) != text(api.Msg{}) {
				t.Errorf("Look(%d) = %s, %t", i, text(m), ok)
			}
			m, e := n.Deliver(i)
			checkError(t, "Deliver", e, api.ErrNone)
			if text(m) != text(api.Msg{}) {
				t.Errorf("Deliver(%d) = %s", i, text(m))
			}
			checkError(t, "Drop", n.Drop(i), api.ErrNone)
			checkError(t, "Dup", n.Dup(i), api.ErrNone)
		}
		checkBag(t, n, nil)
		send(t, n, sample())
		checkBag(t, n, []api.Msg{sample()})
	}
}

// P13.1: Drop, Dup, Deliver

func TestDropOneByOne(t *testing.T) {
	want := numbered(6)
	n := carrying(t, want...)
	for _, i := range []int{5, 0, 2, -1, 7, 0} {
		checkError(t, "Drop", n.Drop(i), api.OK)
		place := remainder(i, len(want))
		want = slices.Delete(want, place, place+1)
		checkBag(t, n, want)
	}
	checkError(t, "Drop", n.Drop(0), api.ErrNone)
}

// A message on a cut link can be dropped and duplicated.
func TestCutLinkDoesNotMatter(t *testing.T) {
	n := carrying(t, ask(0, 1, 5), ask(2, 1, 6))
	n.Cut(0, 1)
	checkError(t, "Dup", n.Dup(0), api.OK)
	checkBag(t, n, []api.Msg{ask(0, 1, 5), ask(2, 1, 6), ask(0, 1, 5)})
	checkError(t, "Drop", n.Drop(0), api.OK)
	checkBag(t, n, []api.Msg{ask(2, 1, 6), ask(0, 1, 5)})
	send(t, n, ask(1, 0, 7))
	checkBag(t, n, []api.Msg{ask(2, 1, 6), ask(0, 1, 5), ask(1, 0, 7)})
}

func TestDupFull(t *testing.T) {
	n := carrying(t, ask(0, 1, 5), ask(2, 1, 6))
	for i := 2; i < 1024; i++ {
		checkError(t, fmt.Sprint("copy ", i), n.Dup(i*i), api.OK)
	}
	for _, i := range indices() {
		checkError(t, "a copy more", n.Dup(i), api.ErrFull)
	}
	checkError(t, "a message more", n.Send(sample()), api.ErrFull)
	if n.Len() != 1024 {
		t.Errorf("Len() = %d", n.Len())
	}
}

// Copies are messages of their own.
func TestCopies(t *testing.T) {
	n := carrying(t, sample())
	checkError(t, "Dup", n.Dup(0), api.OK)
	checkError(t, "Dup", n.Dup(1), api.OK)
	checkBag(t, n, []api.Msg{sample(), sample(), sample()})
	for left := 2; left >= 0; left-- {
		if m, e := n.Deliver(left / 2); e != api.OK || text(m) != text(sample()) {
			t.Errorf("Deliver = %s, %d", text(m), e)
		}
		checkBag(t, n, slices.Repeat([]api.Msg{sample()}, left))
	}
}

func TestDeliverLargest(t *testing.T) {
	n := carrying(t, fullest())
	if m, e := n.Deliver(0); e != api.OK || text(m) != text(fullest()) {
		t.Errorf("error %d", e)
	}
}

// A refused delivery changes nothing, wherever the message is.
func TestDeliverBusy(t *testing.T) {
	want := []api.Msg{ask(0, 1, 1), ask(1, 0, 2), ask(-2, -1, 3), ask(0, 2, 4), ask(0, 1, 1)}
	n := carrying(t, want...)
	n.Cut(1, 0)
	for _, i := range []int{0, 1, 4, -1, 5, 6} {
		m, e := n.Deliver(i)
		checkError(t, "Deliver", e, api.ErrBusy)
		if text(m) != text(api.Msg{}) {
			t.Errorf("Deliver(%d) = %s", i, text(m))
		}
		checkBag(t, n, want)
	}
	for range 2 {
		if m, e := n.Deliver(2); e != api.OK || m.Epoch != 3 && m.Epoch != 4 {
			t.Errorf("Deliver(2) = %s, %d", text(m), e)
		}
	}
	n.Heal(1, 0)
	for _, number := range []int{1, 2, 1} {
		if m, e := n.Deliver(0); e != api.OK || m.Epoch != number {
			t.Errorf("Deliver(0) = %s, %d", text(m), e)
		}
	}
	checkBag(t, n, nil)
}

// Of all messages, a cut link stops those between its two parties.
func TestDeliverOnEachLink(t *testing.T) {
	for _, a := range parties() {
		for _, b := range parties() {
			n := New()
			if n.Cut(a, b) != (a != b) {
				t.Errorf("Cut(%d, %d) = %t", a, b, a == b)
			}
			for _, from := range parties() {
				for _, to := range parties() {
					send(t, n, ask(from, to, 0))
					want := api.OK
					if from != to && (from == a && to == b || from == b && to == a) {
						want = api.ErrBusy
					}
					if _, e := n.Deliver(0); e != want {
						t.Errorf("%d-%d is cut: from %d to %d, error %d", a, b, from, to, e)
					}
					n.Drop(0)
				}
			}
		}
	}
}

// P13.2

func TestCutByHand(t *testing.T) {
	n := New()
	for _, x := range []struct {
		heal bool
		a, b int
		want bool
	}{
		{false, 0, 1, true}, {false, 0, 1, false}, {false, 1, 0, false},
		{true, 0, 2, false}, {true, 2, 1, false}, {true, 0, 0, false}, {true, 1, 1, false},
		{true, 1, 0, true}, {true, 1, 0, false}, {true, 0, 1, false},
		{false, 1, 0, true}, {true, 1, 0, true}, {false, 1, 0, true}, {false, 0, 1, false}, {true, 0, 1, true},
		{false, 3, 3, false}, {true, 3, 3, false}, {false, -1, -1, false}, {false, 0, 0, false},
		{false, -5, 15, true}, {true, 15, -5, true}, {false, 15, -5, true}, {false, -5, 15, false},
		{false, -6, 0, false}, {false, 0, -6, false}, {false, 16, 0, false}, {false, 0, 16, false},
		{true, -6, 0, false}, {true, 0, -6, false}, {true, 16, 0, false}, {true, 0, 16, false},
		{false, -1, -2, true}, {false, -1, 2, true}, {false, 1, -2, true}, {false, 1, 2, true},
		{true, -1, -2, true}, {true, 1, 2, true}, {true, 2, -1, true}, {true, -2, 1, true}, {true, -1, -2, false},
	} {
		do := n.Cut
		if x.heal {
			do = n.Heal
		}
		if got := do(x.a, x.b); got != x.want {
			t.Errorf("%+v: %t", x, got)
		}
	}
}

// Numbers out of range are refused also when they are taken for others modulo
// some power of two, or look alike as floats.
func TestCutRange(t *testing.T) {
	numbers := slices.Clone(extremes)
	for p := -40; p <= 40; p++ {
		numbers = append(numbers, p)
	}
	for _, p := range parties() {
		numbers = append(numbers, p+1<<8, p+1<<16, p+1<<32, p-1<<32, p+math.MaxInt-15, p+math.MinInt+5)
	}
	for _, a := range numbers {
		for _, b := range numbers {
			n := New()
			want := -5 <= a && a <= 15 && -5 <= b && b <= 15 && a != b
			if n.Heal(a, b) || n.Cut(a, b) != want || n.Cut(b, a) || n.Heal(b, a) != want || n.Heal(a, b) {
				t.Errorf("Cut(%d, %d) is wrong", a, b)
			}
		}
	}
}

// Links are independent of each other.
func TestAllLinks(t *testing.T) {
	n := New()
	type pair struct{ a, b int }
	var pairs []pair
	for _, a := range parties() {
		for b := -5; b < a; b++ {
			pairs = append(pairs, pair{a, b})
		}
	}
	random := rand.New(rand.NewSource(1))
	shuffle := func() { random.Shuffle(len(pairs), func(i, j int) { pairs[i], pairs[j] = pairs[j], pairs[i] }) }
	for range 3 {
		for i := range pairs {
			for j, p := range pairs {
				if j >= i && (n.Heal(p.a, p.b) || n.Heal(p.b, p.a)) || j < i && (n.Cut(p.a, p.b) || n.Cut(p.b, p.a)) {
					t.Fatalf("link %v is wrong", p)
				}
			}
			if !n.Cut(pairs[i].b, pairs[i].a) {
				t.Fatalf("Cut(%v) = false", pairs[i])
			}
		}
		shuffle()
		for i, p := range pairs {
			if !n.Heal(p.a, p.b) {
				t.Fatalf("Heal(%v) = false", p)
			}
			for _, q := range pairs[i+1:] {
				if n.Cut(q.a, q.b) {
					t.Fatalf("Heal(%v) restored %v", p, q)
				}
			}
		}
		shuffle()
	}
}

// Cut and Heal leave the messages alone.
func TestLinksAndMessages(t *testing.T) {
	want := []api.Msg{ask(0, 1, 1), sample(), ask(0, 1, 1)}
	n := carrying(t, want...)
	n.Cut(0, 1)
	checkBag(t, n, want)
	n.Heal(0, 1)
	checkBag(t, n, want)
}

// A link stays cut when its messages are gone.
func TestLinkStaysCut(t *testing.T) {
	n := carrying(t, ask(0, 1, 1))
	n.Cut(0, 1)
	n.Drop(0)
	send(t, n, ask(1, 0, 2))
	_, e := n.Deliver(0)
	checkError(t, "Deliver", e, api.ErrBusy)
	if n.Cut(0, 1) {
		t.Error("the link is whole")
	}
}

// Nil and zero networks

func TestNil(t *testing.T) {
	var n *Net
	for _, m := range append(unsound(), sample(), ask(0, 1, 2)) {
		checkError(t, "Send", n.Send(m), api.ErrArg)
	}
	for _, i := range indices() {
		if m, ok := n.Look(i); ok || text(m) != text(api.Msg{}) {
			t.Errorf("Look(%d) = %s, %t", i, text(m), ok)
		}
		if m, e := n.Deliver(i); e != api.ErrNone || text(m) != text(api.Msg{}) {
			t.Errorf("Deliver(%d) = %s, %d", i, text(m), e)
		}
		checkError(t, "Drop", n.Drop(i), api.ErrNone)
		checkError(t, "Dup", n.Dup(i), api.ErrNone)
		for _, j := range indices() {
			if n.Cut(i, j) || n.Heal(i, j) {
				t.Errorf("the link between %d and %d of no network", i, j)
			}
		}
	}
	if n.Len() != 0 {
		t.Errorf("Len() = %d", n.Len())
	}
}

func TestZero(t *testing.T) {
	n := &Net{}
	if n.Heal(0, 1) || !n.Cut(0, 1) || n.Cut(1, 0) {
		t.Error("the links of a zero network")
	}
	send(t, n, ask(0, 1, 4))
	_, e := n.Deliver(0)
	checkError(t, "Deliver", e, api.ErrBusy)
	if !n.Heal(0, 1) {
		t.Error("Heal")
	}
	if m, e := n.Deliver(0); e != api.OK || text(m) != text(ask(0, 1, 4)) {
		t.Errorf("Deliver(0) = %s, %d", text(m), e)
	}
}

// R4

// spoil changes all that m refers to, with its spare capacity.
func spoil(m api.Msg) {
	bytesOf := [][]byte{m.Entry.Frag}
	for _, f := range m.Frags {
		bytesOf = append(bytesOf, f.Data)
	}
	for _, e := range m.Entries {
		bytesOf = append(bytesOf, e.Frag)
	}
	for _, b := range bytesOf {
		b = b[:cap(b)]
		for i := range b {
			b[i] ^= 0x55
		}
	}
	clear(m.Frags[:cap(m.Frags)])
	clear(m.Keys[:cap(m.Keys)])
	clear(m.Conf.Members[:cap(m.Conf.Members)])
	clear(m.Sources[:cap(m.Sources)])
	clear(m.Entries[:cap(m.Entries)])
}

func TestSendMemory(t *testing.T) {
	m := sample()
	data := append(m.Frags[0].Data, 77, 78)
	keys := append(m.Keys, "77")
	m.Frags[0].Data, m.Keys = data[:2], keys[:4]
	n := carrying(t, m)
	if text(m) != text(sample()) || data[2] != 77 || data[3] != 78 || keys[4] != "77" {
		t.Error("Send changed its argument")
	}
	spoil(m)
	checkBag(t, n, []api.Msg{sample()})
}

func TestResultMemory(t *testing.T) {
	n := carrying(t, sample())
	n.Dup(0)
	look := func(i int) api.Msg { m, _ := n.Look(i); return m }
	first, second, other := look(0), look(0), look(1)
	spoil(first)
	if text(second) != text(sample()) || text(other) != text(sample()) {
		t.Error("two results of Look share memory")
	}
	checkBag(t, n, []api.Msg{sample(), sample()})
	delivered, _ := n.Deliver(0)
	if text(delivered) != text(sample()) {
		t.Error("a result of Look shares memory with one of Deliver")
	}
	spoil(second)
	if text(delivered) != text(sample()) {
		t.Error("a result of Look shares memory with one of Deliver")
	}
	spoil(delivered)
	checkBag(t, n, []api.Msg{sample()})
}

// All together

// model is a network as lists.
type model struct {
	bag []api.Msg
	cut [][2]int
}

func (m *model) severed(a, b int) bool {
	return slices.Contains(m.cut, [2]int{a, b}) || slices.Contains(m.cut, [2]int{b, a})
}

// add is what Send and Dup have in common.
func (m *model) add(list ...api.Msg) api.Errno {
	if len(m.bag) == 1024 {
		return api.ErrFull
	}
	m.bag = append(m.bag, list...)
	return api.OK
}

func (m *model) send(x api.Msg, sound bool) api.Errno {
	if !sound {
		return api.ErrForm
	}
	return m.add(x)
}

// take returns message i, and removes it if there is no error.
func (m *model) take(i int, deliver bool) (api.Msg, api.Errno) {
	if len(m.bag) == 0 {
		return api.Msg{}, api.ErrNone
	}
	place := remainder(i, len(m.bag))
	x := m.bag[place]
	if deliver && m.severed(x.From, x.To) {
		return api.Msg{}, api.ErrBusy
	}
	m.bag = append(slices.Clone(m.bag[:place]), m.bag[place+1:]...)
	return x, api.OK
}

func (m *model) dup(i int) api.Errno {
	if len(m.bag) == 0 {
		return api.ErrNone
	}
	return m.add(m.bag[remainder(i, len(m.bag))])
}

func (m *model) cuts(a, b int) bool {
	if a < -5 || a > 15 || b < -5 || b > 15 || a == b || m.severed(a, b) {
		return false
	}
	m.cut = append(m.cut, [2]int{a, b})
	return true
}

func (m *model) heals(a, b int) bool {
	if !m.severed(a, b) {
		return false
	}
	m.cut = slices.DeleteFunc(m.cut, func(l [2]int) bool { return l == [2]int{a, b} || l == [2]int{b, a} })
	return true
}

// step does one thing to a network and its model, and compares the results.
func step(t *testing.T, n *Net, m *model, kind byte, a, b int) {
	t.Helper()
	what := fmt.Sprintf("step %d of %d, %d", kind%8, a, b)
	switch kind % 8 {
	case 0, 1:
		x := ask(a, b, len(m.bag))
		sound := -5 <= a && a <= 15 && -5 <= b && b <= 15
		checkError(t, what, n.Send(x), m.send(x, sound))
	case 2:
		got, e := n.Deliver(a)
		want, wantError := m.take(a, true)
		checkError(t, what, e, wantError)
		if text(got) != text(want) {
			t.Fatalf("%s: %s, want %s", what, text(got), text(want))
		}
	case 3:
		_, e := m.take(a, false)
		checkError(t, what, n.Drop(a), e)
	case 4, 5:
		checkError(t, what, n.Dup(a), m.dup(a))
	case 6:
		if got, want := n.Cut(a, b), m.cuts(a, b); got != want {
			t.Fatalf("%s: %t", what, got)
		}
	case 7:
		if got, want := n.Heal(a, b), m.heals(a, b); got != want {
			t.Fatalf("%s: %t", what, got)
		}
	}
}

// run does a step for each three bytes.
func run(t *testing.T, script []byte) {
	t.Helper()
	n, m := New(), &model{}
	for ; len(script) >= 3; script = script[3:] {
		step(t, n, m, script[0], int(int8(script[1]))%32, int(int8(script[2]))%32)
	}
	checkBag(t, n, m.bag)
}

func TestManySteps(t *testing.T) {
	random := rand.New(rand.NewSource(2))
	for range 1000 {
		script := make([]byte, 3*random.Intn(200))
		random.Read(script)
		run(t, script)
	}
}

// Two of three steps add a message, so that the network gets full.
func TestManyStepsNearFull(t *testing.T) {
	random := rand.New(rand.NewSource(3))
	for range 20 {
		script := make([]byte, 3*3000)
		random.Read(script)
		for i := 0; i < len(script); i += 3 {
			if random.Intn(2) == 0 {
				script[i] = 4
			}
		}
		run(t, script)
	}
}

func FuzzSteps(f *testing.F) {
	f.Add([]byte{0, 0, 1, 6, 1, 0, 2, 0, 0, 4, 0, 0, 7, 0, 1, 2, 0, 0, 3, 0, 0, 2, 0, 0})
	f.Add([]byte{6, 0xfb, 15, 1, 15, 0xfb, 5, 0xff, 0, 2, 0xff, 0, 3, 1, 0})
	f.Fuzz(run)
}
