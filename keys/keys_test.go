package keys

import (
	"bytes"
	"math"
	"reflect"
	"slices"
	"strconv"
	"testing"

	"deadeye/api"
)

// The model follows the promises word by word, without maps.

func writes(e api.Entry) bool { return e.Op == api.Put || e.Op == api.Del }

// upTo returns the entries whose Seq is at most last.
func upTo(list []api.Entry, last int) []api.Entry {
	var some []api.Entry
	for _, e := range list {
		if e.Seq <= last {
			some = append(some, e)
		}
	}
	return some
}

func modelFind(list []api.Entry, key string, last int) (api.Entry, bool) {
	found, ok := api.Entry{}, false
	for _, e := range upTo(list, last) {
		if e.Key == key && writes(e) {
			found, ok = e, true
		}
	}
	return found, ok
}

func modelNames(list []api.Entry, last int) []string {
	var names [][]byte
	for i, e := range list {
		earlier := slices.ContainsFunc(list[:i], func(x api.Entry) bool { return x.Key == e.Key })
		if found, ok := modelFind(list, e.Key, last); ok && found.Op == api.Put && !earlier {
			names = append(names, []byte(e.Key))
		}
	}
	slices.SortFunc(names, bytes.Compare)
	var texts []string
	for _, name := range names {
		texts = append(texts, string(name))
	}
	return texts
}

func modelNum(list []api.Entry, client int) (int, int) {
	greatest := 0
	for _, e := range list {
		if e.Client == client {
			greatest = max(greatest, e.Num)
		}
	}
	for _, e := range list {
		if greatest > 0 && e.Client == client && e.Num == greatest {
			return e.Num, e.Seq
		}
	}
	return 0, 0
}

// modelLive is for lists with strictly increasing Seqs.
func modelLive(list []api.Entry, last int) []api.Entry {
	some := upTo(list, last)
	var live []api.Entry
	for i, e := range some {
		later := some[i+1:]
		written := slices.ContainsFunc(later, func(x api.Entry) bool { return x.Key == e.Key && writes(x) })
		followed := slices.ContainsFunc(later, func(x api.Entry) bool { return x.Client == e.Client })
		switch {
		case e.Op == api.Put && !written:
			live = append(live, e)
		case !followed:
			live = append(live, api.Entry{Seq: e.Seq, Client: e.Client, Num: e.Num})
		}
	}
	return live
}

// same takes nil and empty fragments for equal.
func same(a, b api.Entry) bool {
	fragA, fragB := string(a.Frag), string(b.Frag)
	a.Frag, b.Frag = nil, nil
	return reflect.DeepEqual(a, b) && fragA == fragB
}

func sameList(a, b []api.Entry) bool { return slices.EqualFunc(a, b, same) }

func checkFind(t *testing.T, list []api.Entry, key string, last int) {
	t.Helper()
	got, ok := Find(list, key, last)
	want, there := modelFind(list, key, last)
	if ok != there || !same(got, want) {
		t.Errorf("Find(%v, %q, %d) = %v, %t, want %v, %t", list, key, last, got, ok, want, there)
	}
}

func checkNames(t *testing.T, list []api.Entry, last int) {
	t.Helper()
	if got, want := Names(list, last), modelNames(list, last); !slices.Equal(got, want) {
		t.Errorf("Names(%v, %d) = %q, want %q", list, last, got, want)
	}
}

func checkNum(t *testing.T, list []api.Entry, client int) {
	t.Helper()
	num, seq := Num(list, client)
	if wantNum, wantSeq := modelNum(list, client); num != wantNum || seq != wantSeq {
		t.Errorf("Num(%v, %d) = %d, %d, want %d, %d", list, client, num, seq, wantNum, wantSeq)
	}
}

func checkLive(t *testing.T, list []api.Entry, last int) {
	t.Helper()
	if got, want := Live(list, last), modelLive(list, last); !sameList(got, want) {
		t.Errorf("Live(%v, %d) = %v, want %v", list, last, got, want)
	}
}

// forLists calls do with each list of up to most of the kinds of entries. The
// list is only lent.
func forLists(kinds []api.Entry, most int, do func([]api.Entry)) {
	var grow func(list []api.Entry)
	grow = func(list []api.Entry) {
		do(list)
		if len(list) == most {
			return
		}
		for _, e := range kinds {
			grow(append(list, e))
		}
	}
	grow(make([]api.Entry, 0, most))
}

// kinds returns the entries with each combination of these fields.
func kinds(seqs, clients, nums, ops []int, names []string) []api.Entry {
	var list []api.Entry
	for _, seq := range seqs {
		for _, client := range clients {
			for _, num := range nums {
				for _, op := range ops {
					for _, name := range names {
						list = append(list, api.Entry{Seq: seq, Client: client, Num: num, Op: op, Key: name})
					}
				}
			}
		}
	}
	return list
}

// full returns an entry with a value in every field.
func full(seq, client, op int, key string) api.Entry {
	return api.Entry{Seq: seq, Client: client, Num: seq + 100, Op: op, Key: key, Size: seq + 200, Sum: uint32(seq + 300), Frag: []byte{byte(seq), 7, 0}}
}

func sample() []api.Entry {
	return []api.Entry{
		full(2, 0, api.Put, "a"), full(3, 1, api.Put, "b"), full(5, 0, api.Put, "a"), full(6, 2, api.Get, "b"),
		full(7, 1, api.Del, "b"), full(9, 3, api.Put, "c"), full(10, 3, api.List, ""), full(12, 0, api.Put, "b"),
	}
}

// P10.1: Find

func TestFindByHand(t *testing.T) {
	list := sample()
	for _, c := range []struct {
		key  string
		last int
		want int
	}{
		{"a", 1, -1}, {"a", 2, 0}, {"a", 4, 0}, {"a", 5, 2}, {"a", math.MaxInt, 2}, {"a", math.MinInt, -1}, {"a", 0, -1},
		// The Del counts, the Get and the List do not.
		{"b", 2, -1}, {"b", 3, 1}, {"b", 6, 1}, {"b", 7, 4}, {"b", 11, 4}, {"b", 12, 7}, {"", 99, -1},
		{"c", 9, 5}, {"c", 8, -1}, {"x", 99, -1}, {"A", 99, -1}, {"a\x00", 99, -1}, {"ab", 99, -1},
	} {
		want, there := api.Entry{}, c.want >= 0
		if there {
			want = list[c.want]
		}
		if got, ok := Find(list, c.key, c.last); ok != there || !same(got, want) {
			t.Errorf("Find(%q, %d) = %v, %t, want %v, %t", c.key, c.last, got, ok, want, there)
		}
	}
}

// It is the place in the list that counts, not the Seq.
func TestFindLastInList(t *testing.T) {
	list := []api.Entry{full(9, 0, api.Put, "a"), full(4, 1, api.Del, "a"), full(9, 2, api.Del, "a"), full(4, 3, api.Put, "a"), full(6, 0, api.Get, "a")}
	for last, want := range map[int]int{4: 3, 6: 3, 9: 3, 3: -1} {
		got, ok := Find(list, "a", last)
		if ok != (want >= 0) || ok && !same(got, list[want]) {
			t.Errorf("Find(.., %d) = %v, %t, want place %d", last, got, ok, want)
		}
	}
	if got, ok := Find(list[:3], "a", 8); !ok || !same(got, list[1]) {
		t.Errorf("Find of the last one that is small enough = %v, %t", got, ok)
	}
	if got, ok := Find(list[:3], "a", 9); !ok || !same(got, list[2]) {
		t.Errorf("Find of the last of one Seq = %v, %t", got, ok)
	}
}

func TestFindExtremes(t *testing.T) {
	for _, list := range [][]api.Entry{nil, {}, {{}}, {{Op: api.Put}}} {
		for _, last := range []int{math.MinInt, -1, 0, 1, math.MaxInt} {
			checkFind(t, list, "", last)
			checkFind(t, list, "a", last)
		}
	}
	list := kinds([]int{math.MinInt, math.MinInt + 1, -1, 0, 1, math.MaxInt - 1, math.MaxInt}, []int{math.MinInt}, []int{math.MaxInt}, []int{api.Put, api.Del}, []string{"k"})
	for range list {
		for _, last := range []int{math.MinInt, math.MinInt + 1, -2, -1, 0, 1, 2, math.MaxInt - 1, math.MaxInt} {
			checkFind(t, list, "k", last)
			checkNames(t, list, last)
		}
		list = append(list[1:], list[0])
	}
}

// Only two of all operations are found.
func TestFindOperations(t *testing.T) {
	for _, op := range []int{math.MinInt, -2, -1, 0, api.Put, api.Del, api.Get, api.Stat, api.List, 6, 257, 258, 1<<32 + 1, math.MaxInt} {
		list := []api.Entry{full(1, 0, op, "k")}
		_, ok := Find(list, "k", 1)
		if ok != (op == 1 || op == 2) {
			t.Errorf("Find of the operation %d = %t", op, ok)
		}
		if names := Names(list, 1); (len(names) == 1) != (op == 1) {
			t.Errorf("Names of the operation %d = %q", op, names)
		}
		if live := Live(list, 1); len(live) != 1 || (live[0].Key == "k") != (op == 1) {
			t.Errorf("Live of the operation %d = %v", op, live)
		}
	}
}

// An entry that is not sound is found as it is.
func TestFindUnsound(t *testing.T) {
	e := api.Entry{Seq: -5, Client: 77, Num: -9, Op: api.Put, Key: "much longer than a key may be\xff\x00", Size: math.MaxInt, Sum: math.MaxUint32, Frag: make([]byte, 5000)}
	list := []api.Entry{e, full(1, 0, api.Put, "k")}
	if got, ok := Find(list, e.Key, -5); !ok || !same(got, e) {
		t.Errorf("Find of an entry that is not sound = %v, %t", got, ok)
	}
	if got := Live(list, 0); len(got) != 1 || !same(got[0], e) {
		t.Errorf("Live of an entry that is not sound = %v", got)
	}
	if got := Names(list, -5); !slices.Equal(got, []string{e.Key}) {
		t.Errorf("Names of an entry that is not sound = %q", got)
	}
	if num, seq := Num(list, 77); num != 0 || seq != 0 {
		t.Errorf("Num of an entry that is not sound = %d, %d", num, seq)
	}
}

// P10.1: Find and Names, with Seqs in any order

func TestAllShortLists(t *testing.T) {
	forLists(kinds([]int{1, 2, 3}, []int{0}, []int{1}, []int{api.Put, api.Del}, []string{"a", "b"}), 4, func(list []api.Entry) {
		for last := range 5 {
			checkFind(t, list, "a", last)
			checkFind(t, list, "b", last)
			checkNames(t, list, last)
		}
	})
	forLists(kinds([]int{1, 2}, []int{0}, []int{1}, []int{0, api.Put, api.Del, api.Get}, []string{"a", ""}), 3, func(list []api.Entry) {
		for last := range 4 {
			checkFind(t, list, "a", last)
			checkFind(t, list, "", last)
			checkFind(t, list, "x", last)
			checkNames(t, list, last)
		}
	})
}

// P10.1: Names

func TestNamesByHand(t *testing.T) {
	for last, want := range map[int][]string{
		math.MinInt: nil, 0: nil, 1: nil, 2: {"a"}, 3: {"a", "b"}, 6: {"a", "b"}, 7: {"a"}, 8: {"a"}, 9: {"a", "c"}, 11: {"a", "c"},
		12: {"a", "b", "c"}, math.MaxInt: {"a", "b", "c"},
	} {
		if got := Names(sample(), last); !slices.Equal(got, want) {
			t.Errorf("Names(.., %d) = %q, want %q", last, got, want)
		}
	}
	for _, list := range [][]api.Entry{nil, {}, {{}}} {
		if got := Names(list, math.MaxInt); len(got) != 0 {
			t.Errorf("Names(%v) = %q", list, got)
		}
	}
}

// The keys are sorted as bytes, whatever characters they are.
func TestNamesSorted(t *testing.T) {
	want := []string{"", "\x00", "\x00\x00", "\x00a", "\x01", "A", "Z", "a", "a\x00", "aa", "ab", "b", "ba", "z", "\x7f", "\x80", "\xc3", "\xc3\xa9", "\xe2\x82\xac", "\xef\xbf\xbd", "\xf0\x9f\x98\x80", "\xff", "\xff\x00", "\xff\xff"}
	for shift := range want {
		var list []api.Entry
		for i := range want {
			list = append(list, full(i+1, 0, api.Put, want[(i*7+shift)%len(want)]))
		}
		if got := Names(list, len(want)); !slices.Equal(got, want) {
			t.Errorf("Names = %q, want %q", got, want)
		}
	}
}

func TestNamesOfManyKeys(t *testing.T) {
	var list []api.Entry
	for i := range 600 {
		op := api.Put
		if i%7 == 3 {
			op = api.Del
		}
		list = append(list, full(i+1, i%5, op, strconv.Itoa(i*i%509)))
	}
	for _, last := range []int{10, 300, 599, 600} {
		checkNames(t, list, last)
		checkLive(t, list, last)
		first, firstLive := Names(list, last), Live(list, last)
		for range 20 {
			if !slices.Equal(Names(list, last), first) || !sameList(Live(list, last), firstLive) {
				t.Fatalf("Names or Live up to %d differs from call to call", last)
			}
		}
	}
}

// P10.1: Num

func TestNumByHand(t *testing.T) {
	list := []api.Entry{
		{Seq: 4, Client: 1, Num: 3}, {Seq: 2, Client: 0, Num: 9, Op: api.Get}, {Seq: 7, Client: 1, Num: 8}, {Seq: 6, Client: 1, Num: 8},
		{Seq: 9, Client: 1, Num: 5}, {Seq: 8, Client: 2, Num: 0}, {Seq: 5, Client: 3, Num: -4}, {Seq: 0, Client: -1, Num: 1}, {Seq: -3, Client: 7, Num: 2},
	}
	for client, want := range map[int][2]int{
		// The first entry with the greatest Num, whatever its Seq and operation.
		0: {9, 2}, 1: {8, 7}, 2: {0, 0}, 3: {0, 0}, 4: {0, 0}, -1: {1, 0}, 7: {2, -3}, math.MinInt: {0, 0}, math.MaxInt: {0, 0},
	} {
		if num, seq := Num(list, client); num != want[0] || seq != want[1] {
			t.Errorf("Num(.., %d) = %d, %d, want %v", client, num, seq, want)
		}
	}
	for _, list := range [][]api.Entry{nil, {}} {
		if num, seq := Num(list, 0); num != 0 || seq != 0 {
			t.Errorf("Num(%v, 0) = %d, %d", list, num, seq)
		}
	}
}

func TestNumExtremes(t *testing.T) {
	numbers := []int{math.MinInt, math.MinInt + 1, -1, 0, 1, math.MaxInt - 1, math.MaxInt}
	forLists(kinds([]int{math.MinInt}, []int{math.MinInt, math.MaxInt}, numbers, []int{-1}, []string{""}), 3, func(list []api.Entry) {
		numbered := slices.Clone(list)
		for i := range numbered {
			numbered[i].Seq += i
		}
		for _, client := range []int{math.MinInt, 0, math.MaxInt} {
			checkNum(t, numbered, client)
		}
	})
}

func TestNumOfAllShortLists(t *testing.T) {
	forLists(kinds([]int{0}, []int{0, 1}, []int{-1, 0, 1, 2}, []int{api.Put}, []string{"a"}), 5, func(list []api.Entry) {
		numbered := slices.Clone(list)
		for i := range numbered {
			numbered[i].Seq = 10 - i
		}
		for client := -1; client <= 2; client++ {
			checkNum(t, numbered, client)
		}
	})
}

// P10.2: Live

func TestLiveByHand(t *testing.T) {
	list := sample()
	bare := func(i int) api.Entry {
		return api.Entry{Seq: list[i].Seq, Client: list[i].Client, Num: list[i].Num}
	}
	for last, want := range map[int][]api.Entry{
		math.MinInt: nil, 1: nil,
		2: {list[0]},
		3: {list[0], list[1]},
		5: {list[1], list[2]},
		6: {list[1], list[2], bare(3)},
		// The Put of b is gone, and its client's last entry is the Del.
		7: {list[2], bare(3), bare(4)},
		// A client may have a current Put and a later entry.
		10: {list[2], bare(3), bare(4), list[5], bare(6)},
		12: {list[2], bare(3), bare(4), list[5], bare(6), list[7]}, math.MaxInt: {list[2], bare(3), bare(4), list[5], bare(6), list[7]},
	} {
		if got := Live(list, last); !sameList(got, want) {
			t.Errorf("Live(.., %d) = %v, want %v", last, got, want)
		}
	}
	for _, list := range [][]api.Entry{nil, {}} {
		if got := Live(list, math.MaxInt); len(got) != 0 {
			t.Errorf("Live(%v) = %v", list, got)
		}
	}
}

// A Put that was replaced stays as its client's last entry, without contents;
// the entry at place 0 is no exception.
func TestLiveReplaced(t *testing.T) {
	list := []api.Entry{full(1, 0, api.Put, "a"), full(2, 1, api.Put, "a"), full(3, 2, api.Stat, "x"), full(4, 1, api.Get, "a")}
	want := []api.Entry{{Seq: 1, Client: 0, Num: 101}, list[1], {Seq: 3, Client: 2, Num: 103}, {Seq: 4, Client: 1, Num: 104}}
	if got := Live(list, 4); !sameList(got, want) {
		t.Errorf("Live = %v, want %v", got, want)
	}
	if got, want := Live(list[2:], 4), want[2:]; !sameList(got, want) {
		t.Errorf("Live = %v, want %v", got, want)
	}
}

// Clients and keys may be anything, and so may the entries' other fields.
func TestLiveExtremes(t *testing.T) {
	list := []api.Entry{
		{Seq: math.MinInt, Client: math.MinInt, Num: math.MinInt, Op: api.Put, Key: "\xff", Size: -1},
		{Seq: -1, Client: math.MaxInt, Num: -1, Op: math.MaxInt, Key: "\xff", Size: 3, Sum: 4, Frag: []byte{5}},
		{Seq: 0, Client: -1, Num: 0, Op: api.Del, Key: "absent", Size: 3, Sum: 4, Frag: []byte{5}},
		{Seq: 1, Client: math.MaxInt, Num: 0, Op: math.MinInt, Key: ""},
		{Seq: math.MaxInt - 1, Client: 0, Num: math.MaxInt, Op: api.Put, Key: ""},
		{Seq: math.MaxInt, Client: -1, Num: math.MaxInt, Op: api.Put, Key: string(make([]byte, 100))},
	}
	for _, last := range []int{math.MinInt, math.MinInt + 1, -2, -1, 0, 1, 2, math.MaxInt - 2, math.MaxInt - 1, math.MaxInt} {
		checkLive(t, list, last)
		checkNames(t, list, last)
	}
}

// No two clients are taken for one.
func TestLiveOfManyClients(t *testing.T) {
	var list []api.Entry
	for i, client := range []int{0, 1, 3, 4, 5, 16, 256, 1 << 32, 1 << 40, math.MaxInt, -1, -4, -256, math.MinInt} {
		list = append(list, full(2*i+1, client, api.Del, "a"), full(2*i+2, client, api.Get, "a"))
	}
	for last := range len(list) + 2 {
		checkLive(t, list, last)
	}
	if live := Live(list, len(list)); len(live) != len(list)/2 {
		t.Errorf("Live of %d clients = %v", len(list)/2, live)
	}
}

// The Seqs have gaps, and last lies on them, between them and beside them.
func TestLiveOfAllShortLists(t *testing.T) {
	seqs := []int{-2, 1, 3, 4, 7}
	check := func(list []api.Entry) {
		numbered := slices.Clone(list)
		for i := range numbered {
			e := &numbered[i]
			e.Seq, e.Num, e.Size, e.Sum, e.Frag = seqs[i], 50-i, i+1, uint32(i+2), []byte{byte(i)}
		}
		for _, last := range []int{-3, -2, 0, 1, 2, 3, 4, 6, 7, 9} {
			checkLive(t, numbered, last)
		}
	}
	forLists(kinds([]int{0}, []int{0, 1}, []int{0}, []int{0, api.Put, api.Del, api.Get}, []string{"a", "b"}), 3, check)
	forLists(kinds([]int{0}, []int{0, 1}, []int{0}, []int{api.Put, api.Del}, []string{"a", "b"}), 5, check)
	forLists(kinds([]int{0}, []int{0, 1, 2}, []int{0}, []int{api.Put, api.Stat}, []string{"a"}), 5, check)
}

// What Live returns comes to the same state.
func TestLiveKeepsTheState(t *testing.T) {
	forLists(kinds([]int{0}, []int{0, 1}, []int{0}, []int{api.Put, api.Del}, []string{"a", "b"}), 4, func(list []api.Entry) {
		numbered := slices.Clone(list)
		for i := range numbered {
			numbered[i].Seq, numbered[i].Num = 2*i+1, 3*i+1
		}
		for last := range 2*len(list) + 1 {
			live := Live(numbered, last)
			if again := Live(live, last); !sameList(again, live) {
				t.Errorf("Live(%v, %d) = %v, and of that %v", numbered, last, live, again)
			}
			if got, want := Names(live, last), Names(numbered, last); !slices.Equal(got, want) {
				t.Errorf("Names of Live(%v, %d) = %q, want %q", numbered, last, got, want)
			}
			for client := range 2 {
				num, seq := Num(live, client)
				if wantNum, wantSeq := Num(upTo(numbered, last), client); num != wantNum || seq != wantSeq {
					t.Errorf("Num of Live(%v, %d) = %d, %d, want %d, %d", numbered, last, num, seq, wantNum, wantSeq)
				}
			}
		}
	})
}

// R1: a list whose Seqs do not increase has some Live, the same each time.
func TestLiveOfOtherLists(t *testing.T) {
	forLists(kinds([]int{1, 2}, []int{0, 1}, []int{0}, []int{api.Put, api.Del}, []string{"a", "b"}), 3, func(list []api.Entry) {
		for last := range 3 {
			first := Live(list, last)
			for range 3 {
				if again := Live(list, last); !sameList(again, first) {
					t.Errorf("Live(%v, %d) = %v, then %v", list, last, first, again)
				}
			}
		}
	})
}

// R4: memory

// spoil overwrites a fragment, with its spare capacity.
func spoil(frag []byte) {
	for i := range frag[:cap(frag)] {
		frag[:cap(frag)][i] = 55
	}
}

func TestArgumentsUnchanged(t *testing.T) {
	list := append(sample(), full(20, 9, api.Put, "spare"), full(21, 9, api.Put, "spare"))
	for i := range list {
		list[i].Frag = append(list[i].Frag, 77, 77)[:3]
	}
	short := list[:len(sample())]
	for _, last := range []int{0, 7, 99} {
		Names(short, last)
		Num(short, 0)
		if e, ok := Find(short, "b", last); ok {
			spoil(e.Frag)
		}
		for _, e := range Live(short, last) {
			spoil(e.Frag)
		}
	}
	want := append(sample(), full(20, 9, api.Put, "spare"), full(21, 9, api.Put, "spare"))
	if !sameList(list, want) {
		t.Errorf("the list was changed: %v", list)
	}
	for i := range list {
		if frag := list[i].Frag[:5]; frag[3] != 77 || frag[4] != 77 {
			t.Errorf("the spare capacity of fragment %d was changed: %v", i, frag)
		}
	}
}

func TestResultsApart(t *testing.T) {
	list := sample()
	found, _ := Find(list, "a", 99)
	again, _ := Find(list, "a", 99)
	live, other := Live(list, 99), Live(list, 99)
	names, otherNames := Names(list, 99), Names(list, 99)
	for i := range list {
		spoil(list[i].Frag)
	}
	clear(list)
	if !same(found, sample()[2]) || !sameList(live, modelLive(sample(), 99)) || !slices.Equal(names, []string{"a", "b", "c"}) {
		t.Errorf("a result shares memory with the list: %v, %v, %q", found, live, names)
	}
	spoil(found.Frag)
	for _, e := range live {
		spoil(e.Frag)
	}
	clear(live[:cap(live)])
	clear(names[:cap(names)])
	if !same(again, sample()[2]) || !sameList(other, modelLive(sample(), 99)) || !slices.Equal(otherNames, []string{"a", "b", "c"}) {
		t.Errorf("two results share memory: %v, %v, %q", again, other, otherNames)
	}
}

// Entries of one list may share a fragment; those of a result do not.
func TestFragmentsApart(t *testing.T) {
	frag := []byte{1, 2, 3}
	list := []api.Entry{{Seq: 1, Op: api.Put, Key: "a", Frag: frag}, {Seq: 2, Op: api.Put, Key: "b", Frag: frag}, {Seq: 3, Op: api.Put, Key: "c", Frag: frag[:0]}}
	live := Live(list, 3)
	spoil(live[0].Frag)
	spoil(live[2].Frag)
	if !bytes.Equal(live[1].Frag, []byte{1, 2, 3}) || !bytes.Equal(frag, []byte{1, 2, 3}) {
		t.Errorf("fragments of a result share memory: %v, %v", live, frag)
	}
	found, ok := Find(list, "c", 3)
	spoil(found.Frag)
	if !ok || len(found.Frag) != 0 || !bytes.Equal(frag, []byte{1, 2, 3}) {
		t.Errorf("an empty fragment shares memory with the list: %v, %v", found, frag)
	}
}

// fuzzed makes a list of 4 bytes an entry, with Seqs that increase or not.
func fuzzed(b []byte, increasing bool) []api.Entry {
	var list []api.Entry
	seq := 0
	for chunk := range slices.Chunk(b, 4) {
		if len(chunk) < 4 {
			break
		}
		if seq += 1 + int(chunk[0]%4); !increasing {
			seq = int(chunk[0] % 8)
		}
		e := full(seq, int(chunk[1]%5)-1, int(chunk[1]/8%6), string(chunk[2:3]))
		e.Num = int(int8(chunk[3]))
		list = append(list, e)
	}
	return list
}

func FuzzKeys(f *testing.F) {
	f.Add([]byte("1234123512361237"), 3, true)
	f.Add([]byte("aaaabbbbccccaaaabbbbcccc"), 5, false)
	f.Fuzz(func(t *testing.T, b []byte, last int, increasing bool) {
		list := fuzzed(b[:min(len(b), 200)], increasing)
		for _, e := range list {
			checkFind(t, list, e.Key, last)
		}
		for client := -1; client < 5; client++ {
			checkNum(t, list, client)
		}
		checkNames(t, list, last)
		if increasing {
			checkLive(t, list, last)
		}
		Live(list, last)
	})
}
