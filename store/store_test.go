package store

import (
	"bytes"
	"encoding/binary"
	"fmt"
	"hash/crc32"
	"math"
	"math/rand"
	"slices"
	"strings"
	"testing"

	"deadeye/api"
	"deadeye/disk"
	"deadeye/entry"
)

// state is what the methods of a store that change nothing return.
type state struct {
	conf            api.Conf
	pos, base, last int
	sealed          bool
	staged          int
	entries         []api.Entry
}

func of(s *Store) state {
	return state{conf: s.Conf(), pos: s.Pos(), base: s.Base(), last: s.Last(), sealed: s.Sealed(), staged: s.Staged(), entries: s.Entries()}
}

func text(e api.Entry) string {
	return fmt.Sprintf("%d %d %d %d %q %d %x %x", e.Seq, e.Client, e.Num, e.Op, e.Key, e.Size, e.Sum, e.Frag)
}

func (s state) String() string {
	told := fmt.Sprintf("epoch %d of %v, pos %d, base %d, last %d, sealed %t, staged %d", s.conf.Epoch, s.conf.Members, s.pos, s.base, s.last, s.sealed, s.staged)
	for _, e := range s.entries {
		told += "; " + text(e)
	}
	return told
}

// The model: what counts are the last record that begins an epoch and the
// records behind it.

func lastOf(list []api.Rec, kind int) int {
	place := -1
	for i, r := range list {
		if r.Kind == kind {
			place = i
		}
	}
	return place
}

// epochOf returns the record that begins the epoch, and what is behind it.
func epochOf(list []api.Rec) (api.Rec, []api.Rec) {
	place := lastOf(list, api.RecActivate)
	if place < 0 {
		return api.Rec{}, list
	}
	return list[place], list[place+1:]
}

// stagedOf returns the record that stages the staged epoch.
func stagedOf(list []api.Rec) api.Rec {
	_, list = epochOf(list)
	if place := lastOf(list, api.RecStage); place >= 0 {
		return list[place]
	}
	return api.Rec{}
}

// result returns the state that results from records.
func result(list []api.Rec) state {
	begun, list := epochOf(list)
	s := state{conf: begun.Conf, pos: begun.Pos, base: begun.Last, last: begun.Last, staged: stagedOf(list).Conf.Epoch}
	s.entries = slices.Clone(begun.Entries)
	for _, r := range list {
		if r.Kind == api.RecEntry {
			s.entries = slices.Concat(s.entries, r.Entries)
		}
	}
	s.sealed = lastOf(list, api.RecSeal) >= 0
	if count := len(s.entries); count > 0 && s.entries[count-1].Seq > s.base {
		s.last = s.entries[count-1].Seq
	}
	return s
}

// contentOf returns the frames of list.
func contentOf(t testing.TB, list ...api.Rec) string {
	t.Helper()
	var content []byte
	for _, r := range list {
		code, e := entry.Encode(r)
		if e != api.OK {
			t.Fatalf("Encode of %v: %d", r, e)
		}
		length := binary.BigEndian.AppendUint32(nil, uint32(len(code)))
		check := crc32.ChecksumIEEE(slices.Concat(length, code))
		content = slices.Concat(binary.BigEndian.AppendUint32(slices.Concat(content, length), check), code)
	}
	return string(content)
}

func checkError(t testing.TB, what string, got, want api.Errno) {
	t.Helper()
	if got != want {
		t.Fatalf("%s: the error is %d, want %d", what, got, want)
	}
}

// checkState checks what all methods that change nothing return.
func checkState(t testing.TB, s *Store, want state) {
	t.Helper()
	if got := of(s); got.String() != want.String() {
		t.Fatalf("the state is\n%v, want\n%v", got, want)
	}
	seqs := []int{math.MinInt, -1, 0, want.base, want.last + 1, math.MaxInt}
	for _, e := range want.entries {
		seqs = append(seqs, e.Seq-1, e.Seq, e.Seq+1)
	}
	for _, seq := range seqs {
		checkEntry(t, s, want.entries, seq)
	}
}

func checkEntry(t testing.TB, s *Store, list []api.Entry, seq int) {
	t.Helper()
	first, found := api.Entry{}, false
	for _, e := range list {
		if e.Seq == seq && !found {
			first, found = e, true
		}
	}
	if e, ok := s.Entry(seq); text(e) != text(first) || ok != found {
		t.Fatalf("Entry(%d) = %s, %t, want %s, %t", seq, text(e), ok, text(first), found)
	}
}

// checkStore checks the state of a store and that d, whose power is on, holds
// just the records from which it results. So does one that is opened there.
func checkStore(t testing.TB, s *Store, d *disk.Disk, list ...api.Rec) {
	t.Helper()
	checkState(t, s, result(list))
	if b, e := d.Read(); e != api.OK || string(b) != contentOf(t, list...) {
		t.Fatalf("the disk holds %x, %d, want %x", b, e, contentOf(t, list...))
	}
	checkState(t, opened(t, d), result(list))
}

func opened(t testing.TB, d *disk.Disk) *Store {
	t.Helper()
	s, e := Open(d)
	if e != api.OK || s == nil {
		t.Fatalf("Open = %v, %d", s, e)
	}
	return s
}

// holding returns a disk with room bytes that holds list.
func holding(t testing.TB, room int, list ...api.Rec) *disk.Disk {
	t.Helper()
	d := disk.New(room)
	checkError(t, "Replace", d.Replace([]byte(contentOf(t, list...))), api.OK)
	return d
}

const plenty = 1 << 20

// having returns a store, and its disk, that has the state resulting from list.
func having(t testing.TB, list ...api.Rec) (*Store, *disk.Disk) {
	t.Helper()
	d := holding(t, plenty, list...)
	return opened(t, d), d
}

// Some records. Each is made anew.

func conf(epoch int, members ...int) api.Conf { return api.Conf{Epoch: epoch, Members: members} }

// put returns an entry that uses all fields.
func put(seq int) api.Entry {
	return api.Entry{Seq: seq, Client: 3, Num: 70 + seq%10, Op: api.Put, Key: "key\x00\xff", Size: 200, Sum: 0xfedcba98, Frag: []byte{9, 0, byte(seq)}}
}

func puts(seqs ...int) []api.Entry {
	var list []api.Entry
	for _, seq := range seqs {
		list = append(list, put(seq))
	}
	return list
}

func logged(seqs ...int) api.Rec { return api.Rec{Kind: api.RecEntry, Entries: puts(seqs...)} }

func sealing() api.Rec { return api.Rec{Kind: api.RecSeal} }

func staging(epoch int, seqs ...int) api.Rec {
	return api.Rec{Kind: api.RecStage, Conf: conf(epoch, 4, 15, 0), Pos: 2, Last: 7, Entries: puts(seqs...)}
}

func begun(epoch, base int, seqs ...int) api.Rec {
	return api.Rec{Kind: api.RecActivate, Conf: conf(epoch, 3, 4), Pos: 1, Last: base, Entries: puts(seqs...)}
}

// began returns the record that is made of a staged epoch.
func began(r api.Rec) api.Rec {
	r.Kind = api.RecActivate
	return r
}

// P14.1: Open

func TestOpenEmpty(t *testing.T) {
	for _, room := range []int{0, 1, plenty} {
		d := disk.New(room)
		checkStore(t, opened(t, d), d)
	}
	s, _ := having(t)
	if got, want := of(s).String(), "epoch 0 of [], pos 0, base 0, last 0, sealed false, staged 0"; got != want {
		t.Errorf("%s, want %s", got, want)
	}
}

func TestOpenByHand(t *testing.T) {
	one := api.Entry{Seq: 1, Key: "a"}
	two := api.Entry{Seq: 2, Key: "b", Frag: []byte{8}}
	three := api.Entry{Seq: 3}
	activate := func(epoch, base int, list ...api.Entry) api.Rec {
		return api.Rec{Kind: 4, Conf: conf(epoch, 6, 5), Pos: 1, Last: base, Entries: list}
	}
	stage := func(epoch int) api.Rec {
		return api.Rec{Kind: 3, Conf: conf(epoch, 9, 5), Pos: 2, Last: 8, Entries: []api.Entry{three}}
	}
	log := func(list ...api.Entry) api.Rec { return api.Rec{Kind: 1, Entries: list} }
	seal := api.Rec{Kind: 2}
	for _, x := range []struct {
		list []api.Rec
		want string
	}{
		{[]api.Rec{activate(1, 0)}, "epoch 1 of [6 5], pos 1, base 0, last 0, sealed false, staged 0"},
		{[]api.Rec{activate(1, 4)}, "epoch 1 of [6 5], pos 1, base 4, last 4, sealed false, staged 0"},
		{[]api.Rec{activate(1, 0), log(one), log(two)}, `epoch 1 of [6 5], pos 1, base 0, last 2, sealed false, staged 0; 1 0 0 0 "a" 0 0 ; 2 0 0 0 "b" 0 0 08`},
		{[]api.Rec{activate(1, 0), log(one, two), log()}, `epoch 1 of [6 5], pos 1, base 0, last 2, sealed false, staged 0; 1 0 0 0 "a" 0 0 ; 2 0 0 0 "b" 0 0 08`},
		// The base is greater than the Seq of the last entry, the same, less.
		{[]api.Rec{activate(1, 3, one, two)}, `epoch 1 of [6 5], pos 1, base 3, last 3, sealed false, staged 0; 1 0 0 0 "a" 0 0 ; 2 0 0 0 "b" 0 0 08`},
		{[]api.Rec{activate(1, 2, one, two)}, `epoch 1 of [6 5], pos 1, base 2, last 2, sealed false, staged 0; 1 0 0 0 "a" 0 0 ; 2 0 0 0 "b" 0 0 08`},
		{[]api.Rec{activate(1, 1, one, two)}, `epoch 1 of [6 5], pos 1, base 1, last 2, sealed false, staged 0; 1 0 0 0 "a" 0 0 ; 2 0 0 0 "b" 0 0 08`},
		// The last entry counts, not the greatest one.
		{[]api.Rec{activate(1, 0, two, one)}, `epoch 1 of [6 5], pos 1, base 0, last 1, sealed false, staged 0; 2 0 0 0 "b" 0 0 08; 1 0 0 0 "a" 0 0 `},
		{[]api.Rec{activate(1, 0, one), seal}, `epoch 1 of [6 5], pos 1, base 0, last 1, sealed true, staged 0; 1 0 0 0 "a" 0 0 `},
		{[]api.Rec{activate(1, 0, one), seal, log(two)}, `epoch 1 of [6 5], pos 1, base 0, last 2, sealed true, staged 0; 1 0 0 0 "a" 0 0 ; 2 0 0 0 "b" 0 0 08`},
		{[]api.Rec{activate(1, 0, one), stage(2)}, `epoch 1 of [6 5], pos 1, base 0, last 1, sealed false, staged 2; 1 0 0 0 "a" 0 0 `},
		{[]api.Rec{activate(1, 0, one), seal, stage(2), stage(5)}, `epoch 1 of [6 5], pos 1, base 0, last 1, sealed true, staged 5; 1 0 0 0 "a" 0 0 `},
		{[]api.Rec{activate(1, 0, one), stage(2), seal, activate(3, 7, two)}, `epoch 3 of [6 5], pos 1, base 7, last 7, sealed false, staged 0; 2 0 0 0 "b" 0 0 08`},
		{[]api.Rec{stage(2)}, "epoch 0 of [], pos 0, base 0, last 0, sealed false, staged 2"},
		// What this package would not write.
		{[]api.Rec{activate(4, 0), stage(2), stage(1)}, "epoch 4 of [6 5], pos 1, base 0, last 0, sealed false, staged 1"},
		{[]api.Rec{log(two), seal}, `epoch 0 of [], pos 0, base 0, last 2, sealed true, staged 0; 2 0 0 0 "b" 0 0 08`},
		{[]api.Rec{activate(4, 0), activate(2, 0)}, "epoch 2 of [6 5], pos 1, base 0, last 0, sealed false, staged 0"},
		{[]api.Rec{{Kind: 1, Conf: conf(9, 9), Pos: 9, Last: 9, Entries: []api.Entry{one}}, {Kind: 2, Conf: conf(9, 9), Pos: 9, Last: 9, Entries: []api.Entry{one}}}, `epoch 0 of [], pos 0, base 0, last 1, sealed true, staged 0; 1 0 0 0 "a" 0 0 `},
	} {
		s, _ := having(t, x.list...)
		if got := of(s).String(); got != x.want {
			t.Errorf("%v\n%s, want\n%s", x.list, got, x.want)
		}
		checkState(t, s, result(x.list))
	}
}

// kinds returns records of all kinds.
func kinds() []api.Rec {
	return []api.Rec{
		logged(1), logged(3, 1), logged(), sealing(), staging(0), staging(2, 8), staging(5, 1, 2),
		begun(0, 0, 2), begun(1, 2, 1, 2, 2), begun(3, 1<<40),
	}
}

// All lists of up to four records.
func TestOpenAllLists(t *testing.T) {
	var grow func(list []api.Rec)
	grow = func(list []api.Rec) {
		s, _ := having(t, list...)
		checkState(t, s, result(list))
		if len(list) == 4 {
			return
		}
		for _, r := range kinds() {
			grow(append(slices.Clone(list), r))
		}
	}
	grow(nil)
}

func TestOpenErrors(t *testing.T) {
	refuse := func(what string, d *disk.Disk, want api.Errno) {
		t.Helper()
		s, e := Open(d)
		if s != nil {
			t.Errorf("%s: a store", what)
		}
		checkError(t, what, e, want)
	}
	refuse("no disk", nil, api.ErrArg)
	down := holding(t, plenty, begun(1, 0))
	down.Crash()
	refuse("no power", down, api.ErrDown)
	torn := holding(t, plenty, begun(1, 0))
	torn.Append([]byte{1})
	torn.Tear(0)
	refuse("the power goes off when the torn part is removed", torn, api.ErrDown)
	torn.Start()
	checkStore(t, opened(t, torn), torn, begun(1, 0))
}

// Each cut through the content leaves the records ahead of it.
func TestOpenTorn(t *testing.T) {
	list := []api.Rec{begun(1, 2, 1, 2), logged(3), sealing(), staging(5, 3)}
	content := contentOf(t, list...)
	for size := range content {
		whole := 0
		for len(contentOf(t, list[:whole+1]...)) <= size {
			whole++
		}
		d := disk.New(plenty)
		d.Replace([]byte(content[:size]))
		checkStore(t, opened(t, d), d, list[:whole]...)
	}
}

// P14.1: Log

func TestLog(t *testing.T) {
	s, d := having(t, begun(1, 0))
	list := []api.Rec{begun(1, 0)}
	for seq := 1; seq < 6; seq++ {
		checkError(t, "Log", s.Log(put(seq)), api.OK)
		list = append(list, logged(seq))
		checkStore(t, s, d, list...)
	}
}

// Entries need have nothing but the next Seq.
func TestLogAnyEntry(t *testing.T) {
	for _, e := range []api.Entry{
		{Seq: 6}, put(6), {Seq: 6, Op: api.List}, {Seq: 6, Op: api.Del, Key: strings.Repeat("\xff", 16), Frag: bytes.Repeat([]byte{7}, 256)},
	} {
		s, d := having(t, begun(1, 5))
		checkError(t, "Log", s.Log(e), api.OK)
		checkStore(t, s, d, begun(1, 5), api.Rec{Kind: api.RecEntry, Entries: []api.Entry{e}})
	}
}

func TestLogErrEpoch(t *testing.T) {
	for _, list := range [][]api.Rec{
		nil, {staging(5)}, {begun(0, 0)}, {logged(1)}, {sealing()},
		{begun(1, 0), sealing()}, {begun(1, 0), sealing(), staging(5)}, {begun(1, 0), logged(1), sealing(), sealing()},
	} {
		s, d := having(t, list...)
		for _, seq := range []int{math.MinInt, -1, 0, 1, 2, 3, 1<<40 + 1, math.MaxInt} {
			checkError(t, "Log", s.Log(put(seq)), api.ErrEpoch)
			checkStore(t, s, d, list...)
		}
	}
}

func TestLogErrRange(t *testing.T) {
	for _, list := range [][]api.Rec{
		{begun(1, 0)}, {begun(1, 4)}, {begun(1, 4, 2, 3)}, {begun(1, 2, 3, 4)}, {begun(1, 0), logged(4)}, {begun(1, 9), logged(4)},
		{begun(1, 0), logged(1), staging(2)},
	} {
		last := result(list).last
		for _, seq := range []int{math.MinInt, -1, 0, last - 1, last, last + 2, 2*last + 3, -last - 1, 1 << 40, 1<<40 + 1, math.MaxInt} {
			s, d := having(t, list...)
			checkError(t, "Log", s.Log(put(seq)), api.ErrRange)
			// It is the first error also for an entry that is not sound.
			checkError(t, "Log", s.Log(api.Entry{Seq: seq, Client: 4}), api.ErrRange)
			checkStore(t, s, d, list...)
		}
		s, d := having(t, list...)
		checkError(t, "Log", s.Log(put(last+1)), api.OK)
		checkStore(t, s, d, append(list, logged(last+1))...)
	}
}

func TestLogUpToTheLimit(t *testing.T) {
	s, d := having(t, begun(1, 1<<40-1))
	checkError(t, "Log", s.Log(put(1<<40)), api.OK)
	checkError(t, "Log", s.Log(put(1<<40)), api.ErrRange)
	checkError(t, "Log", s.Log(put(1<<40+1)), api.ErrForm)
	checkStore(t, s, d, begun(1, 1<<40-1), logged(1<<40))
}

func TestLogErrForm(t *testing.T) {
	s, d := having(t, begun(1, 5))
	for _, e := range []api.Entry{
		{Seq: 6, Client: 4}, {Seq: 6, Client: -1}, {Seq: 6, Num: -1}, {Seq: 6, Num: 1<<40 + 1}, {Seq: 6, Op: 6}, {Seq: 6, Op: -1},
		{Seq: 6, Size: 257}, {Seq: 6, Size: -1}, {Seq: 6, Key: strings.Repeat("k", 17)}, {Seq: 6, Frag: make([]byte, 257)}, {Seq: 6, Client: math.MinInt, Num: math.MaxInt},
	} {
		checkError(t, "Log", s.Log(e), api.ErrForm)
		checkStore(t, s, d, begun(1, 5))
	}
}

// P14.1: Seal

func TestSeal(t *testing.T) {
	for _, list := range [][]api.Rec{{begun(1, 0)}, {begun(1<<40, 3, 2)}, {begun(1, 0), logged(1), staging(2)}} {
		s, d := having(t, list...)
		checkError(t, "Seal", s.Seal(), api.OK)
		list = append(list, sealing())
		checkStore(t, s, d, list...)
		checkError(t, "Seal again", s.Seal(), api.OK)
		checkStore(t, s, d, list...)
		d.Crash()
		checkError(t, "Seal again without power", s.Seal(), api.OK)
	}
}

func TestSealErrEpoch(t *testing.T) {
	for _, list := range [][]api.Rec{nil, {staging(5)}, {begun(0, 0)}, {sealing()}} {
		s, d := having(t, list...)
		checkError(t, "Seal", s.Seal(), api.ErrEpoch)
		checkStore(t, s, d, list...)
		d.Crash()
		checkError(t, "Seal", s.Seal(), api.ErrEpoch)
	}
}

// P14.1: Stage

// staged calls Stage with what r has.
func staged(s *Store, r api.Rec) api.Errno { return s.Stage(r.Conf, r.Pos, r.Last, r.Entries) }

func TestStage(t *testing.T) {
	for _, list := range [][]api.Rec{nil, {begun(1, 3, 3)}, {begun(1, 0), logged(1), sealing()}, {staging(2, 6)}, {begun(1, 0), staging(2, 6, 7)}} {
		for _, r := range []api.Rec{
			staging(3), staging(4, 3, 1), staging(1<<40, 1, 2, 3),
			{Kind: 3, Conf: conf(5)}, {Kind: 3, Conf: conf(3, slices.Repeat([]int{15}, 16)...), Pos: 15, Last: 1 << 40},
		} {
			s, d := having(t, list...)
			checkError(t, "Stage", staged(s, r), api.OK)
			checkStore(t, s, d, append(slices.Clone(list), r)...)
			checkError(t, "Stage again", staged(s, r), api.ErrEpoch)
			checkStore(t, s, d, append(slices.Clone(list), r)...)
		}
	}
}

func TestStageErrEpoch(t *testing.T) {
	for _, x := range []struct {
		list  []api.Rec
		least int
	}{
		{nil, 1}, {[]api.Rec{begun(0, 0)}, 1}, {[]api.Rec{begun(1, 0)}, 2}, {[]api.Rec{begun(7, 0)}, 8}, {[]api.Rec{staging(3)}, 4},
		{[]api.Rec{begun(1, 0), staging(3)}, 4}, {[]api.Rec{begun(1, 0), staging(3), staging(5)}, 6},
		{[]api.Rec{begun(1, 0), staging(5), begun(2, 0)}, 3},
		// The staged epoch is not above the current one.
		{[]api.Rec{begun(5, 0), staging(2)}, 6},
		{[]api.Rec{begun(5, 0), staging(8), staging(2)}, 6},
	} {
		for _, epoch := range []int{math.MinInt, -1, 0, x.least - 2, x.least - 1} {
			s, d := having(t, x.list...)
			checkError(t, "Stage", staged(s, staging(epoch, 1)), api.ErrEpoch)
			// It is the first error also for what is not sound.
			checkError(t, "Stage", s.Stage(conf(epoch, 16), -1, -1, make([]api.Entry, 4097)), api.ErrEpoch)
			checkStore(t, s, d, x.list...)
		}
		for _, epoch := range []int{x.least, x.least + 1, 1 << 40} {
			s, d := having(t, x.list...)
			checkError(t, "Stage", staged(s, staging(epoch, 1)), api.OK)
			checkStore(t, s, d, append(slices.Clone(x.list), staging(epoch, 1))...)
		}
	}
}

func TestStageErrForm(t *testing.T) {
	list := []api.Rec{begun(1, 2, 1), staging(3, 9)}
	s, d := having(t, list...)
	for _, r := range []api.Rec{
		{Conf: conf(1<<40 + 1)}, {Conf: conf(math.MaxInt)}, {Conf: conf(4, 16)}, {Conf: conf(4, 0, -1)}, {Conf: conf(4, make([]int, 17)...)},
		{Conf: conf(4), Pos: 16}, {Conf: conf(4), Pos: -1}, {Conf: conf(4), Last: -1}, {Conf: conf(4), Last: 1<<40 + 1},
		{Conf: conf(4), Entries: make([]api.Entry, 4097)}, {Conf: conf(4), Entries: []api.Entry{{}, {Seq: -1}}},
		{Conf: conf(4), Pos: math.MinInt, Last: math.MaxInt},
	} {
		checkError(t, "Stage", staged(s, r), api.ErrForm)
		checkStore(t, s, d, list...)
	}
}

// The list may be as long as a record's.
func TestStageMuch(t *testing.T) {
	s, d := having(t, begun(1, 0))
	r := api.Rec{Kind: api.RecStage, Conf: conf(2), Last: 4096}
	for seq := range 4096 {
		r.Entries = append(r.Entries, api.Entry{Seq: seq + 1, Frag: []byte{1}})
	}
	checkError(t, "Stage", staged(s, r), api.OK)
	checkStore(t, s, d, begun(1, 0), r)
	checkError(t, "Activate", s.Activate(2), api.OK)
	checkStore(t, s, d, began(r))
}

// P14.1: Activate

func TestActivate(t *testing.T) {
	for _, list := range [][]api.Rec{
		{staging(5, 6, 7)}, {begun(1, 3, 3), staging(5)}, {begun(1, 0), logged(1), sealing(), staging(5, 8)}, {begun(1, 0), staging(5), sealing()},
		{begun(1, 0), staging(2, 6), staging(5, 1)}, {logged(1), staging(5)}, {begun(7, 0), staging(5, 1)},
		{staging(3), begun(1, 0), staging(5, 9, 9)},
	} {
		s, d := having(t, list...)
		for _, epoch := range []int{math.MinInt, -5, -1, 0, 1, 2, 3, 4, 6, 7, math.MaxInt} {
			checkError(t, "Activate", s.Activate(epoch), api.ErrEpoch)
			checkStore(t, s, d, list...)
		}
		checkError(t, "Activate", s.Activate(5), api.OK)
		checkStore(t, s, d, began(stagedOf(list)))
		checkError(t, "Activate again", s.Activate(5), api.ErrEpoch)
		checkError(t, "Log", s.Log(put(s.Last()+1)), api.OK)
	}
}

func TestActivateNothing(t *testing.T) {
	for _, list := range [][]api.Rec{nil, {begun(1, 0)}, {begun(1, 0), logged(1)}, {staging(5), begun(1, 0)}, {staging(0)}, {begun(2, 0), staging(0, 1)}} {
		s, d := having(t, list...)
		for _, epoch := range []int{math.MinInt, -1, 0, 1, 2, 5, math.MaxInt} {
			checkError(t, "Activate", s.Activate(epoch), api.ErrEpoch)
			checkStore(t, s, d, list...)
		}
	}
}

// P14.1: Begin

func TestBegin(t *testing.T) {
	for _, list := range [][]api.Rec{nil, {logged(1), sealing()}, {staging(9, 1)}, {begun(2, 3, 4, 5)}, {begun(2, 3), logged(4), sealing(), staging(9, 1)}} {
		for _, r := range []api.Rec{
			{Kind: 4, Conf: conf(3, 7, 2, 9), Pos: 2}, {Kind: 4, Conf: conf(3)}, {Kind: 4, Conf: conf(1<<40, slices.Repeat([]int{15}, 16)...), Pos: 15},
			{Kind: 4, Conf: conf(9, 1)}, {Kind: 4, Conf: conf(10, 1)},
		} {
			s, d := having(t, list...)
			checkError(t, "Begin", s.Begin(r.Conf, r.Pos), api.OK)
			checkStore(t, s, d, r)
			checkError(t, "Begin again", s.Begin(r.Conf, r.Pos), api.ErrEpoch)
			checkError(t, "Log", s.Log(put(1)), api.OK)
			checkStore(t, s, d, r, logged(1))
		}
	}
}

func TestBeginErrEpoch(t *testing.T) {
	for _, list := range [][]api.Rec{nil, {begun(0, 0, 1)}, {staging(9, 1)}, {begun(7, 3, 4), sealing()}, {begun(7, 0), staging(9)}, {begun(1<<40, 0)}} {
		current := result(list).conf.Epoch
		for _, epoch := range []int{math.MinInt, -current, -1, 0, current - 1, current} {
			s, d := having(t, list...)
			checkError(t, "Begin", s.Begin(conf(epoch, 1), 0), api.ErrEpoch)
			// It is the first error also for what is not sound.
			checkError(t, "Begin", s.Begin(conf(epoch, 16), -1), api.ErrEpoch)
			checkStore(t, s, d, list...)
		}
	}
}

func TestBeginErrForm(t *testing.T) {
	list := []api.Rec{begun(1, 2, 1), logged(3), sealing(), staging(3, 9)}
	s, d := having(t, list...)
	for _, r := range []api.Rec{
		{Conf: conf(1<<40 + 1)}, {Conf: conf(math.MaxInt)}, {Conf: conf(4, 16)}, {Conf: conf(4, 0, -1)}, {Conf: conf(4, make([]int, 17)...)},
		{Conf: conf(4), Pos: 16}, {Conf: conf(4), Pos: -1}, {Conf: conf(4), Pos: math.MinInt}, {Conf: conf(4), Pos: math.MaxInt},
	} {
		checkError(t, "Begin", s.Begin(r.Conf, r.Pos), api.ErrForm)
		checkStore(t, s, d, list...)
	}
}

// P14.1: the errors of the disk

// call is a call that writes, and the records that are there when it succeeds.
type call struct {
	name string
	do   func(s *Store) api.Errno
	list []api.Rec
	// size is how many bytes the call writes.
	size int
}

func start() []api.Rec { return []api.Rec{begun(1, 2, 1), logged(3), staging(3, 9)} }

func calls(t *testing.T) []call {
	again := api.Rec{Kind: api.RecActivate, Conf: conf(2, 5, 6), Pos: 1}
	behind := func(r api.Rec) []api.Rec { return append(start(), r) }
	return []call{
		{"Log", func(s *Store) api.Errno { return s.Log(put(4)) }, behind(logged(4)), len(contentOf(t, logged(4)))},
		{"Seal", (*Store).Seal, behind(sealing()), len(contentOf(t, sealing()))},
		{"Stage", func(s *Store) api.Errno { return staged(s, staging(4, 1)) }, behind(staging(4, 1)), len(contentOf(t, staging(4, 1)))},
		{"Activate", func(s *Store) api.Errno { return s.Activate(3) }, []api.Rec{began(staging(3, 9))}, len(contentOf(t, began(staging(3, 9))))},
		{"Begin", func(s *Store) api.Errno { return s.Begin(again.Conf, again.Pos) }, []api.Rec{again}, len(contentOf(t, again))},
	}
}

func TestNoPower(t *testing.T) {
	for _, c := range calls(t) {
		s, d := having(t, start()...)
		d.Crash()
		checkError(t, c.name, c.do(s), api.ErrDown)
		checkState(t, s, result(start()))
		d.Start()
		checkStore(t, s, d, start()...)
		checkError(t, c.name, c.do(s), api.OK)
		checkStore(t, s, d, c.list...)
	}
}

// Each call at each byte: the state is the previous one until the store is
// opened again, and then has the effect of the call only if all was written.
func TestTorn(t *testing.T) {
	for _, c := range calls(t) {
		for n := range c.size + 2 {
			s, d := having(t, start()...)
			d.Tear(n)
			checkError(t, c.name, c.do(s), api.ErrDown)
			checkState(t, s, result(start()))
			checkError(t, c.name+" again", c.do(s), api.ErrDown)
			checkState(t, s, result(start()))
			d.Start()
			want := start()
			if n >= c.size {
				want = c.list
			}
			s = opened(t, d)
			checkStore(t, s, d, want...)
		}
	}
}

// A disk with just enough room, and with a byte less.
func TestNoRoom(t *testing.T) {
	for _, c := range calls(t) {
		need := max(len(contentOf(t, c.list...)), len(contentOf(t, start()...)))
		d := holding(t, need, start()...)
		s := opened(t, d)
		checkError(t, c.name, c.do(s), api.OK)
		checkStore(t, s, d, c.list...)
	}
	for _, c := range calls(t)[:3] {
		d := holding(t, len(contentOf(t, c.list...))-1, start()...)
		s := opened(t, d)
		checkError(t, c.name, c.do(s), api.ErrFull)
		checkStore(t, s, d, start()...)
		d.Tear(1)
		checkError(t, c.name, c.do(s), api.ErrFull)
		if !d.Up() {
			t.Errorf("%s: the power is off", c.name)
		}
	}
}

// Records that take the place of others can only be too long for an empty disk.
func TestBeginNoRoom(t *testing.T) {
	r := api.Rec{Kind: api.RecActivate, Conf: conf(2, 5, 6), Pos: 1}
	size := len(contentOf(t, r))
	d := disk.New(size - 1)
	s := opened(t, d)
	checkError(t, "Begin", s.Begin(r.Conf, r.Pos), api.ErrFull)
	checkStore(t, s, d)
	d = disk.New(size)
	s = opened(t, d)
	checkError(t, "Begin", s.Begin(r.Conf, r.Pos), api.OK)
	checkStore(t, s, d, r)
}

// A staged epoch can begin where there is room for nothing else, as its record
// takes the place of the others.
func TestActivateFull(t *testing.T) {
	d := holding(t, len(contentOf(t, start()...)), start()...)
	s := opened(t, d)
	checkError(t, "Seal", s.Seal(), api.ErrFull)
	checkError(t, "Activate", s.Activate(3), api.OK)
	checkStore(t, s, d, began(staging(3, 9)))
	checkError(t, "Seal", s.Seal(), api.OK)
	checkStore(t, s, d, began(staging(3, 9)), sealing())
}

// An entry that is not sound is refused ahead of the disk.
func TestErrFormBeforeTheDisk(t *testing.T) {
	s, d := having(t, start()...)
	d.Crash()
	checkError(t, "Log", s.Log(api.Entry{Seq: 4, Client: -1}), api.ErrForm)
	checkError(t, "Stage", s.Stage(conf(4), -1, 0, nil), api.ErrForm)
	checkError(t, "Begin", s.Begin(conf(4), -1), api.ErrForm)
	checkError(t, "Log", s.Log(put(5)), api.ErrRange)
	checkError(t, "Stage", s.Stage(conf(3), 0, 0, nil), api.ErrEpoch)
	checkError(t, "Activate", s.Activate(2), api.ErrEpoch)
	checkError(t, "Begin", s.Begin(conf(1), 0), api.ErrEpoch)
	checkState(t, s, result(start()))
}

// P14.2 has tests of its own in TestOpenByHand and in checkState; these are the
// cases that records rarely lead to.

func TestEntryFirst(t *testing.T) {
	same := api.Entry{Seq: 1, Key: "another"}
	s, _ := having(t, api.Rec{Kind: 4, Conf: conf(1), Last: 1, Entries: []api.Entry{same, put(1), put(0)}}, staging(3, 8))
	if e, ok := s.Entry(1); !ok || text(e) != text(same) {
		t.Errorf("Entry(1) = %s, %t", text(e), ok)
	}
	if e, ok := s.Entry(0); !ok || text(e) != text(put(0)) {
		t.Errorf("Entry(0) = %s, %t", text(e), ok)
	}
	for _, seq := range []int{math.MinInt, -1, 2, 8, math.MaxInt} {
		if e, ok := s.Entry(seq); ok || text(e) != text(api.Entry{}) {
			t.Errorf("Entry(%d) = %s, %t", seq, text(e), ok)
		}
	}
}

// No store, and one that was not opened

func TestNil(t *testing.T) {
	var s *Store
	for range 2 {
		checkError(t, "Log", s.Log(put(1)), api.ErrArg)
		checkError(t, "Log", s.Log(api.Entry{}), api.ErrArg)
		checkError(t, "Seal", s.Seal(), api.ErrArg)
		checkError(t, "Stage", staged(s, staging(1)), api.ErrArg)
		checkError(t, "Stage", s.Stage(api.Conf{}, -1, -1, nil), api.ErrArg)
		checkError(t, "Activate", s.Activate(0), api.ErrArg)
		checkError(t, "Activate", s.Activate(1), api.ErrArg)
		checkError(t, "Begin", s.Begin(conf(1), 0), api.ErrArg)
		checkError(t, "Begin", s.Begin(api.Conf{}, 0), api.ErrArg)
		checkState(t, s, state{})
	}
}

func TestZero(t *testing.T) {
	var s Store
	checkError(t, "Log", s.Log(put(1)), api.ErrEpoch)
	checkError(t, "Seal", s.Seal(), api.ErrEpoch)
	checkError(t, "Stage", staged(&s, staging(0)), api.ErrEpoch)
	checkError(t, "Stage", staged(&s, staging(1)), api.ErrArg)
	checkError(t, "Activate", s.Activate(0), api.ErrEpoch)
	checkError(t, "Begin", s.Begin(conf(0), 0), api.ErrEpoch)
	checkError(t, "Begin", s.Begin(conf(1), 0), api.ErrArg)
	checkState(t, &s, state{})
}

// R4: memory

// spoil overwrites all memory that e and its like have, and the spare capacity.
func spoil(members []int, list []api.Entry) {
	members = members[:cap(members)]
	for i := range members {
		members[i] = 12
	}
	list = list[:cap(list)]
	for i := range list {
		frag := list[i].Frag[:cap(list[i].Frag)]
		for j := range frag {
			frag[j] ^= 0x55
		}
		list[i] = api.Entry{Seq: 99, Key: "spoilt"}
	}
}

// roomy returns a list with spare capacity, at every level.
func roomy(seqs ...int) []api.Entry {
	list := append(puts(seqs...), put(55), put(56))
	for i := range list {
		list[i].Frag = append(list[i].Frag, 77, 78)[:len(list[i].Frag)]
	}
	return list[:len(seqs)]
}

func texts(list []api.Entry) string {
	told := ""
	for _, e := range list {
		told += text(e) + fmt.Sprintf(" %x; ", e.Frag[:cap(e.Frag)])
	}
	return told
}

func TestArgumentMemory(t *testing.T) {
	s, d := having(t, begun(1, 3))
	e := roomy(4)
	before := texts(e[:cap(e)])
	checkError(t, "Log", s.Log(e[0]), api.OK)
	if texts(e[:cap(e)]) != before {
		t.Error("Log changed its argument")
	}
	spoil(nil, e)
	checkStore(t, s, d, begun(1, 3), logged(4))

	list, members := roomy(8, 9), []int{4, 15, 0, 66, 67}
	before = texts(list[:cap(list)])
	checkError(t, "Stage", s.Stage(conf(5, members[:3]...), 2, 7, list), api.OK)
	if texts(list[:cap(list)]) != before || !slices.Equal(members, []int{4, 15, 0, 66, 67}) {
		t.Error("Stage changed an argument")
	}
	spoil(members, list)
	checkStore(t, s, d, begun(1, 3), logged(4), staging(5, 8, 9))
	checkError(t, "Activate", s.Activate(5), api.OK)
	checkStore(t, s, d, began(staging(5, 8, 9)))

	members = []int{4, 15, 0, 66, 67}
	checkError(t, "Begin", s.Begin(conf(6, members[:3]...), 2), api.OK)
	if !slices.Equal(members, []int{4, 15, 0, 66, 67}) {
		t.Error("Begin changed its argument")
	}
	spoil(members, nil)
	checkStore(t, s, d, api.Rec{Kind: 4, Conf: conf(6, 4, 15, 0), Pos: 2})
}

// What the store was opened with, what it was told and what it has begun: none
// of it is shared with a result, and no result with another.
func TestResultMemory(t *testing.T) {
	s, d := having(t, begun(1, 2, 1, 2))
	list := []api.Rec{begun(1, 2, 1, 2)}
	check := func() {
		t.Helper()
		first, second := of(s), of(s)
		one, _ := s.Entry(s.Last())
		two, _ := s.Entry(s.Last())
		spoil(first.conf.Members, first.entries)
		spoil(nil, []api.Entry{one})
		if second.String() != result(list).String() {
			t.Errorf("two results share memory: %v", second)
		}
		if last := second.entries[len(second.entries)-1]; text(two) != text(last) {
			t.Errorf("two results of Entry share memory: %s, want %s", text(two), text(last))
		}
		spoil(second.conf.Members, second.entries)
		spoil(nil, []api.Entry{two})
		checkStore(t, s, d, list...)
	}
	check()
	s.Log(put(3))
	list = append(list, logged(3))
	check()
	staged(s, staging(5, 7))
	list = append(list, staging(5, 7))
	check()
	s.Activate(5)
	list = []api.Rec{began(staging(5, 7))}
	check()
	s.Log(put(8))
	list = append(list, logged(8))
	check()
}

// The entries of one result share no memory.
func TestEntriesApart(t *testing.T) {
	s, _ := having(t, begun(1, 0), logged(1), logged(2, 3))
	list := s.Entries()
	for i := range list {
		frag := list[i].Frag
		if want := put(i + 1).Frag; !bytes.Equal(frag, want) {
			t.Errorf("entry %d has the fragment %x, want %x", i, frag, want)
		}
		frag = frag[:cap(frag)]
		for j := range frag {
			frag[j] = 0xee
		}
	}
}

// R5, R6: two stores of two disks have nothing in common, and each is itself.
func TestApart(t *testing.T) {
	a, first := having(t, begun(1, 0))
	b, second := having(t, begun(1, 0))
	same := a
	checkError(t, "Log", same.Log(put(1)), api.OK)
	checkError(t, "Seal", b.Seal(), api.OK)
	checkStore(t, a, first, begun(1, 0), logged(1))
	checkStore(t, b, second, begun(1, 0), sealing())
}

// All together

// rig is a store with its disk, and what both should hold.
type rig struct {
	t     testing.TB
	s     *Store
	d     *disk.Disk
	room  int
	known []api.Rec
	kept  []api.Rec
	off   bool
	tears bool
	limit int
}

// write returns what a call should that writes r, and does it to the model.
func (m *rig) write(r api.Rec, replace bool) api.Errno {
	if _, e := entry.Encode(r); e != api.OK {
		return e
	}
	if m.off {
		return api.ErrDown
	}
	list := append(slices.Clone(m.known), r)
	if replace {
		list = []api.Rec{r}
	}
	if len(contentOf(m.t, list...)) > m.room {
		return api.ErrFull
	}
	if m.tears {
		m.off = true
		if m.limit >= len(contentOf(m.t, r)) {
			m.kept = list
		}
		return api.ErrDown
	}
	m.known, m.kept = list, list
	return api.OK
}

func (m *rig) log(e api.Entry) api.Errno {
	now := result(m.known)
	switch {
	case now.conf.Epoch == 0 || now.sealed:
		return api.ErrEpoch
	case e.Seq-1 != now.last:
		return api.ErrRange
	}
	return m.write(api.Rec{Kind: 1, Entries: []api.Entry{e}}, false)
}

func (m *rig) seal() api.Errno {
	now := result(m.known)
	switch {
	case now.conf.Epoch == 0:
		return api.ErrEpoch
	case now.sealed:
		return api.OK
	}
	return m.write(api.Rec{Kind: 2}, false)
}

func (m *rig) stage(r api.Rec) api.Errno {
	if now := result(m.known); r.Conf.Epoch <= now.conf.Epoch || r.Conf.Epoch <= now.staged {
		return api.ErrEpoch
	}
	return m.write(r, false)
}

func (m *rig) activate(epoch int) api.Errno {
	r := stagedOf(m.known)
	if r.Conf.Epoch != epoch || epoch < 1 {
		return api.ErrEpoch
	}
	return m.write(began(r), true)
}

func (m *rig) begin(c api.Conf, pos int) api.Errno {
	if c.Epoch <= result(m.known).conf.Epoch {
		return api.ErrEpoch
	}
	return m.write(api.Rec{Kind: 4, Conf: c, Pos: pos}, true)
}

// restart turns the power on and opens the store.
func (m *rig) restart() {
	m.d.Start()
	m.s = opened(m.t, m.d)
	m.known, m.off, m.tears = m.kept, false, false
	checkStore(m.t, m.s, m.d, m.known...)
}

// step does one thing to a store and its model, and compares the results. Most
// numbers are near those for which something happens.
func (m *rig) step(kind byte, a, b int) {
	m.t.Helper()
	now := result(m.known)
	what := fmt.Sprintf("step %d of %d, %d", kind%12, a, b)
	switch kind % 12 {
	case 0, 1, 2, 3:
		e := put(now.last + 1 + a%8/7)
		e.Client, e.Frag = b%16/4, bytes.Repeat([]byte{byte(b)}, a)
		checkError(m.t, what, m.s.Log(e), m.log(e))
	case 4:
		checkError(m.t, what, m.s.Seal(), m.seal())
	case 5, 6:
		r := api.Rec{Kind: 3, Conf: conf(max(now.conf.Epoch, now.staged)+a%4, b%16, 7), Pos: a % 17, Last: b}
		for seq := range a / 16 {
			r.Entries = append(r.Entries, put(seq+b))
		}
		checkError(m.t, what, staged(m.s, r), m.stage(r))
	case 7:
		epoch := now.staged + a%8/7
		checkError(m.t, what, m.s.Activate(epoch), m.activate(epoch))
	case 8:
		c := conf(now.conf.Epoch+a%4, a, b%17)
		checkError(m.t, what, m.s.Begin(c, b%16), m.begin(c, b%16))
	case 9:
		m.d.Tear(a * 4)
		m.tears, m.limit = true, a*4
	case 10:
		m.d.Crash()
		m.off = true
	case 11:
		m.restart()
	}
	checkState(m.t, m.s, result(m.known))
	if m.off == m.d.Up() {
		m.t.Fatalf("%s: the power is on: %t", what, m.d.Up())
	}
	if m.off && b%2 == 0 {
		m.restart()
	}
}

// run does a step for each three bytes, with a disk whose room the first one
// tells.
func run(t *testing.T, script []byte) {
	t.Helper()
	if len(script) == 0 {
		return
	}
	m := &rig{t: t, room: 8 * int(script[0])}
	m.d = disk.New(m.room)
	m.restart()
	for script = script[1:]; len(script) >= 3; script = script[3:] {
		m.step(script[0], int(script[1]%64), int(script[2]%64))
	}
	m.restart()
}

func TestManySteps(t *testing.T) {
	random := rand.New(rand.NewSource(14))
	for range 1000 {
		script := make([]byte, 1+3*random.Intn(60))
		random.Read(script)
		run(t, script)
	}
}

func FuzzSteps(f *testing.F) {
	f.Add([]byte{255, 8, 1, 1, 0, 3, 4, 0, 2, 0, 4, 0, 0, 5, 17, 2, 7, 0, 0, 0, 5, 5, 9, 3, 0, 4, 0, 0, 11, 0, 0})
	f.Add([]byte{9, 8, 1, 1, 0, 20, 4, 9, 40, 1, 8, 1, 1, 0, 0, 0, 10, 0, 1, 4, 0, 0})
	f.Fuzz(run)
}
