package stage

import (
	"bytes"
	"fmt"
	"hash/crc32"
	"math"
	"math/rand"
	"slices"
	"strings"
	"testing"

	"deadeye/api"
	"deadeye/blob"
	"deadeye/keys"
)

// text tells all of an entry, with nil and empty fragments alike.
func text(e api.Entry) string {
	return fmt.Sprintf("%d %d %d %d %q %d %x %x", e.Seq, e.Client, e.Num, e.Op, e.Key, e.Size, e.Sum, e.Frag)
}

func told(list []api.Entry) string {
	var lines []string
	for _, e := range list {
		lines = append(lines, text(e))
	}
	return strings.Join(lines, "; ")
}

func toldParts(parts []Part) string {
	var lines []string
	for _, p := range parts {
		lines = append(lines, fmt.Sprintf("at %d: [%s]", p.Pos, told(p.Entries)))
	}
	return strings.Join(lines, ", ")
}

// check checks that Build returns want and no error, or a zero list and the
// error.
func check(t testing.TB, k, m, pos int, parts []Part, want []api.Entry, fault api.Errno) {
	t.Helper()
	got, e := Build(k, m, pos, parts)
	if e != fault || len(got) != len(want) || told(got) != told(want) {
		t.Fatalf("Build(%d, %d, %d, %s) = [%s], %d, want [%s], %d", k, m, pos, toldParts(parts), told(got), e, told(want), fault)
	}
}

func checkFault(t testing.TB, k, m, pos int, parts []Part, fault api.Errno) {
	t.Helper()
	check(t, k, m, pos, parts, nil, fault)
}

// put returns the entry of a write of data, without a fragment.
func put(seq int, key, data string) api.Entry {
	return api.Entry{Seq: seq, Client: seq % 4, Num: seq * 2, Op: api.Put, Key: key, Size: len(data), Sum: crc32.ChecksumIEEE([]byte(data))}
}

// with returns e with a fragment.
func with(e api.Entry, fragment string) api.Entry {
	e.Frag = []byte(fragment)
	return e
}

// at returns a part of the entries.
func at(pos int, list ...api.Entry) Part { return Part{Pos: pos, Entries: list} }

// members returns the parts of all positions, for entries whose Frag is their
// whole blob if they are Puts.
func members(t testing.TB, k, m int, whole []api.Entry) []Part {
	t.Helper()
	parts := make([]Part, k+m)
	for pos := range parts {
		parts[pos] = at(pos, slices.Clone(whole)...)
	}
	for i, e := range whole {
		if e.Op != api.Put {
			continue
		}
		all, fault := blob.Encode(k, m, e.Frag)
		if fault != api.OK {
			t.Fatalf("no fragments for k %d, m %d: error %d", k, m, fault)
		}
		for pos := range parts {
			parts[pos].Entries[i].Frag = all[pos]
		}
	}
	return parts
}

// sample returns n bytes that look irregular.
func sample(n int) string {
	data := make([]byte, n)
	x := uint32(n)
	for i := range data {
		x = x*1664525 + 1013904223
		data[i] = byte(x >> 24)
	}
	return string(data)
}

// history returns entries of all operations, with their whole blobs.
func history() []api.Entry {
	var list []api.Entry
	for i, size := range []int{0, 1, 2, 5, 12, 13, 255, 256} {
		data := sample(size)
		list = append(list,
			with(put(len(list)+1, "key", data), data),
			api.Entry{Seq: len(list) + 2, Client: 3, Num: i, Op: api.Del, Key: "key"},
			api.Entry{Seq: len(list) + 3, Client: i % 4, Num: 1 << 40})
	}
	return list
}

// choices calls use with each sequence of k different numbers below n.
func choices(n, k int, use func([]int)) {
	var extend func(chosen []int)
	extend = func(chosen []int) {
		if len(chosen) == k {
			use(chosen)
			return
		}
		for i := range n {
			if !slices.Contains(chosen, i) {
				extend(append(slices.Clone(chosen), i))
			}
		}
	}
	extend(nil)
}

func selected(parts []Part, places []int) []Part {
	var list []Part
	for _, place := range places {
		list = append(list, parts[place])
	}
	return list
}

// The model tells all that does not have to be equal in one line of text, and
// asks chapter 6 for the rest.

func countOf(parts []Part) int {
	var places []int
	for _, p := range parts {
		places = append(places, p.Pos)
	}
	slices.Sort(places)
	return len(slices.Compact(places))
}

func shape(p Part) string {
	var list []api.Entry
	for _, e := range p.Entries {
		e.Frag = nil
		list = append(list, e)
	}
	return fmt.Sprintf("%d: %s", len(list), told(list))
}

func differ(parts []Part) bool {
	for _, a := range parts {
		for _, b := range parts {
			if shape(a) != shape(b) {
				return true
			}
		}
	}
	return false
}

// expected returns what Build has to.
func expected(k, m, pos int, parts []Part) ([]api.Entry, api.Errno) {
	if k < 1 || m < 0 || k > 255 || m > 255 || k+m > 255 || pos < 0 || pos >= k+m {
		return nil, api.ErrRange
	}
	if countOf(parts) < k {
		return nil, api.ErrFew
	}
	if differ(parts) {
		return nil, api.ErrForm
	}
	var list []api.Entry
	for i, e := range parts[0].Entries {
		var found []api.Frag
		for _, p := range parts {
			found = append(found, api.Frag{Pos: p.Pos, Data: p.Entries[i].Frag})
		}
		e.Frag = nil
		if e.Op == api.Put {
			data, fault := blob.Decode(k, m, e.Size, e.Sum, found)
			if fault != api.OK {
				return nil, fault
			}
			all, fault := blob.Encode(k, m, data)
			if fault != api.OK {
				return nil, fault
			}
			e.Frag = all[pos]
		}
		list = append(list, e)
	}
	return list, api.OK
}

func checkModel(t testing.TB, k, m, pos int, parts []Part) api.Errno {
	t.Helper()
	want, fault := expected(k, m, pos, parts)
	check(t, k, m, pos, parts, want, fault)
	return fault
}

// P15.1

func TestByHand(t *testing.T) {
	e := put(1, "k", "\x01\x00\x00\x01")
	fragments := []string{"\x01\x00", "\x00\x01", "\x03\x02"}
	choices(3, 2, func(chosen []int) {
		var parts []Part
		for _, pos := range chosen {
			parts = append(parts, at(pos, with(e, fragments[pos])))
		}
		for pos, fragment := range fragments {
			check(t, 2, 1, pos, parts, []api.Entry{with(e, fragment)}, api.OK)
		}
	})
}

func TestByHandOtherCodes(t *testing.T) {
	// With one shard, each fragment is the blob.
	e := put(1, "k", "abc")
	for pos := range 4 {
		for from := range 4 {
			check(t, 1, 3, pos, []Part{at(from, with(e, "abc"))}, []api.Entry{with(e, "abc")}, api.OK)
		}
	}
	// Without fragments beyond the shards, these are the parts of the blob.
	parts := []Part{at(2, with(e, "\x00")), at(0, with(e, "a")), at(1, with(e, "b"))}
	e = put(1, "k", "ab")
	for i := range parts {
		parts[i].Entries[0].Size, parts[i].Entries[0].Sum = e.Size, e.Sum
	}
	for pos, fragment := range []string{"a", "b", "\x00"} {
		check(t, 3, 0, pos, parts, []api.Entry{with(e, fragment)}, api.OK)
	}
}

func TestEmptyBlob(t *testing.T) {
	e := put(5, "", "")
	for pos := range 3 {
		check(t, 2, 1, pos, []Part{at(2, e), at(0, with(e, ""))}, []api.Entry{e}, api.OK)
	}
	// It has no bytes, so it has no fragments with bytes.
	checkFault(t, 2, 1, 0, []Part{at(2, with(e, "\x00")), at(0, with(e, "\x00"))}, api.ErrForm)
}

// Whatever is no Put has no fragment in the result, even where the parts have
// some that determine no blob, and keeps all else.
func TestOtherEntries(t *testing.T) {
	for _, op := range []int{0, 2, 3, 4, 5, 6, -1, 257, math.MinInt, math.MaxInt} {
		e := api.Entry{Seq: -4, Client: 77, Num: math.MaxInt, Op: op, Key: strings.Repeat("\xff", 40), Size: math.MinInt, Sum: math.MaxUint32}
		for pos := range 3 {
			check(t, 2, 1, pos, []Part{at(1, with(e, "abc")), at(0, with(e, "wxyz"))}, []api.Entry{e}, api.OK)
			check(t, 2, 1, pos, []Part{at(1, e), at(0, with(e, "a")), at(2, e)}, []api.Entry{e}, api.OK)
		}
	}
}

// A Put keeps all else, sound or not.
func TestFieldsOfPuts(t *testing.T) {
	for _, seq := range []int{math.MinInt, -1, 0, 7, math.MaxInt} {
		e := put(0, strings.Repeat("\x00\xff", 30), "xy")
		e.Seq, e.Client, e.Num = seq, seq, seq
		check(t, 2, 0, 1, []Part{at(0, with(e, "x")), at(1, with(e, "y"))}, []api.Entry{with(e, "y")}, api.OK)
	}
}

func TestNoEntries(t *testing.T) {
	for _, list := range [][]api.Entry{nil, {}} {
		check(t, 2, 1, 2, []Part{at(0), {Pos: 1, Entries: list}}, nil, api.OK)
		check(t, 1, 0, 0, []Part{{Pos: 0, Entries: list}}, nil, api.OK)
	}
}

func TestAnyParts(t *testing.T) {
	for _, c := range [][2]int{{1, 0}, {1, 1}, {2, 0}, {2, 1}, {2, 2}, {3, 1}, {3, 2}} {
		k, m := c[0], c[1]
		all := members(t, k, m, history())
		want := make([][]api.Entry, k+m)
		for pos := range want {
			want[pos] = slices.Clone(all[pos].Entries)
			for i, e := range want[pos] {
				if e.Op != api.Put {
					want[pos][i].Frag = nil
				}
			}
		}
		// Of k parts, or more, the order is any.
		for count := k; count <= k+m; count++ {
			choices(k+m, count, func(chosen []int) {
				for pos := range want {
					check(t, k, m, pos, selected(all, chosen), want[pos], api.OK)
				}
			})
		}
	}
}

func TestLargeCodes(t *testing.T) {
	data := sample(256)
	whole := []api.Entry{with(put(1, "k", data), data), {Seq: 2}}
	for _, c := range [][2]int{{1, 254}, {16, 239}, {128, 127}, {254, 1}, {255, 0}} {
		k, m := c[0], c[1]
		all := members(t, k, m, whole)
		last := slices.Clone(all[m:])
		slices.Reverse(last)
		for _, pos := range []int{0, k - 1, k + m - 1} {
			check(t, k, m, pos, last, all[pos].Entries, api.OK)
		}
	}
}

// What the parts of one epoch have determines the parts of the next one, and
// those the same blobs.
func TestOverEpochs(t *testing.T) {
	whole := history()
	live := keys.Live(whole, len(whole))
	now := members(t, 3, 2, live)
	first := told(now[4].Entries)
	for round := range 6 {
		var next []Part
		from := []Part{now[(round+3)%5], now[round%5], now[(round+1)%5]}
		for pos := range 5 {
			list, e := Build(3, 2, pos, from)
			if e != api.OK {
				t.Fatalf("round %d, position %d: error %d", round, pos, e)
			}
			next = append(next, at(pos, list...))
		}
		now = next
	}
	if got := told(now[4].Entries); got != first {
		t.Errorf("after six rounds: [%s], want [%s]", got, first)
	}
}

// The first part of a position counts, as in chapter 3.
func TestRepeatedPositions(t *testing.T) {
	e := put(1, "k", "abcd")
	good := []Part{at(0, with(e, "ab")), at(1, with(e, "cd"))}
	wrong := at(0, with(e, "xx"))
	check(t, 2, 1, 1, []Part{good[0], wrong, good[1]}, good[1].Entries, api.OK)
	check(t, 2, 1, 0, []Part{good[1], good[0], wrong, wrong}, good[0].Entries, api.OK)
	checkFault(t, 2, 1, 1, []Part{wrong, good[0], good[1]}, api.ErrForm)
	checkFault(t, 2, 1, 1, []Part{good[1], wrong, good[0]}, api.ErrForm)
}

// What is behind the first k positions determines nothing, but has to be of the
// form of the rest.
func TestMoreParts(t *testing.T) {
	e := put(1, "k", "abcd")
	good := []Part{at(0, with(e, "ab")), at(1, with(e, "cd"))}
	check(t, 2, 1, 1, append(good[:2:2], at(2, with(e, "??"))), good[1].Entries, api.OK)
	checkFault(t, 2, 1, 1, append(good[:2:2], at(2, with(e, "?"))), api.ErrForm)
	checkFault(t, 2, 1, 1, append(good[:2:2], at(2, e)), api.ErrForm)
	checkFault(t, 2, 1, 1, append(good[:2:2], at(3, with(e, "??"))), api.ErrForm)
	checkFault(t, 2, 1, 1, append(good[:2:2], at(-1, with(e, "??"))), api.ErrForm)
	checkFault(t, 2, 1, 1, append(good[:2:2], at(0, with(e, "???"))), api.ErrForm)
	checkFault(t, 2, 1, 1, append(good[:2:2], at(2)), api.ErrForm)
	checkFault(t, 2, 1, 1, append(good[:2:2], at(0)), api.ErrForm)
}

// Behind the blob, the shards may hold anything, as its checksum does not
// reach there; the new fragment is that of the blob.
func TestPadding(t *testing.T) {
	e := put(1, "k", "abc")
	want := members(t, 2, 1, []api.Entry{with(e, "abc")})
	for _, behind := range []string{"\x00", "\x01", "z", "\xff"} {
		parts := []Part{at(1, with(e, "c"+behind)), at(0, with(e, "ab"))}
		for pos := range 3 {
			check(t, 2, 1, pos, parts, want[pos].Entries, api.OK)
		}
	}
}

func TestRange(t *testing.T) {
	e := put(1, "k", "")
	var parts []Part
	for pos := range 300 {
		parts = append(parts, at(pos, e))
	}
	differing := []Part{at(0, e), at(1), at(-1, e)}
	for _, c := range [][3]int{
		{0, 0, 0}, {0, 1, 0}, {0, 255, 0}, {-1, 0, 0}, {-1, 5, 0}, {-1, 2, 0}, {math.MinInt, 0, 0}, {math.MinInt, math.MaxInt, 0}, {math.MinInt, math.MinInt, 0},
		{1, -1, 0}, {5, -1, 0}, {5, -4, 0}, {5, -5, 0}, {1, math.MinInt, 0}, {255, math.MinInt, 0}, {math.MaxInt, math.MinInt, 0}, {256, -1, 0}, {257, -2, 5},
		{1, 255, 0}, {255, 1, 0}, {256, 0, 0}, {128, 128, 7}, {200, 56, 0}, {1, math.MaxInt, 0}, {255, math.MaxInt, 0}, {math.MaxInt, 0, 0}, {math.MaxInt, 1, 0}, {math.MaxInt, math.MaxInt, 0},
		{1, 0, 1}, {1, 0, -1}, {2, 1, 3}, {2, 1, 4}, {2, 1, -1}, {2, 1, math.MinInt}, {2, 1, math.MaxInt}, {255, 0, 255}, {1, 254, 255}, {255, 0, 256}, {3, 0, -3},
	} {
		// Neither k different positions nor equal entries are asked for first.
		for _, list := range [][]Part{nil, {}, parts, parts[:1], differing} {
			checkFault(t, c[0], c[1], c[2], list, api.ErrRange)
		}
	}
	for _, c := range [][3]int{{1, 0, 0}, {1, 254, 0}, {1, 254, 254}, {2, 1, 2}, {128, 127, 254}, {255, 0, 0}, {255, 0, 254}} {
		check(t, c[0], c[1], c[2], parts[:c[0]+c[1]], []api.Entry{e}, api.OK)
	}
}

func TestFew(t *testing.T) {
	e := put(1, "k", "abcd")
	for _, c := range []struct {
		k     int
		parts []Part
	}{
		{1, nil}, {1, []Part{}}, {255, nil},
		{2, []Part{at(0, e)}}, {2, []Part{at(0, e), at(0, e)}}, {2, []Part{at(1, e), at(1), at(1, api.Entry{})}},
		{3, []Part{at(0, e), at(1, e)}}, {3, []Part{at(0, e), at(1, e), at(0, e), at(1, e), at(1, e)}},
		{3, []Part{at(0), at(1, e)}}, {2, []Part{at(-1, e), at(-1)}}, {2, []Part{at(math.MinInt), at(math.MinInt, e)}},
		{4, []Part{at(math.MaxInt), at(math.MinInt), at(0), at(math.MaxInt), at(0, e)}},
	} {
		checkFault(t, c.k, 0, 0, c.parts, api.ErrFew)
		checkFault(t, c.k, 255-c.k, 0, c.parts, api.ErrFew)
	}
}

// Positions that are none of the code count; only a Put's fragments must not
// have them.
func TestPositionsOfNoCode(t *testing.T) {
	list := []api.Entry{{Seq: 1, Op: api.Del}, {Seq: 2}}
	for _, pair := range [][2]int{{0, 3}, {3, 4}, {-1, 0}, {-1, -2}, {math.MinInt, math.MaxInt}, {0, 1 << 32}, {1, 1<<32 + 1}, {255, 256}, {0, 256}} {
		parts := []Part{at(pair[0], list...), at(pair[1], list...)}
		check(t, 2, 1, 2, parts, list, api.OK)
		check(t, 2, 0, 0, []Part{at(pair[0]), at(pair[1])}, nil, api.OK)
		for i := range parts {
			parts[i].Entries = append(list[:2:2], with(put(3, "k", "ab"), "a"))
		}
		checkFault(t, 2, 1, 2, parts, api.ErrForm)
	}
}

// Each field but the fragment has to be equal, in each entry of each part.
func TestForm(t *testing.T) {
	changes := []func(*api.Entry){
		func(e *api.Entry) { e.Seq++ }, func(e *api.Entry) { e.Client++ }, func(e *api.Entry) { e.Num++ },
		func(e *api.Entry) { e.Op = api.Put + api.Del - e.Op }, func(e *api.Entry) { e.Key = "K" }, func(e *api.Entry) { e.Key += "k" },
		func(e *api.Entry) { e.Size++ }, func(e *api.Entry) { e.Sum++ }, func(e *api.Entry) { e.Sum ^= 1 << 31 },
		func(e *api.Entry) { e.Seq += 1 << 40 }, func(e *api.Entry) { e.Num -= 1 << 62 },
	}
	for place := range 3 {
		for i := range 3 {
			for j, change := range changes {
				parts := members(t, 2, 1, []api.Entry{with(put(1, "k", "abcd"), "abcd"), {Seq: 2, Op: api.Del, Key: "k"}, with(put(3, "k", ""), "")})
				change(&parts[place].Entries[i])
				if e := checkModel(t, 2, 1, 0, parts); e != api.ErrForm {
					t.Errorf("change %d of entry %d at %d: error %d", j, i, place, e)
				}
			}
		}
	}
}

func TestFormOfLists(t *testing.T) {
	a, b, c := put(1, "a", ""), api.Entry{Seq: 2}, put(3, "c", "")
	for _, other := range [][]api.Entry{nil, {a}, {a, b}, {b, c}, {a, c}, {a, c, b}, {c, b, a}, {a, b, c, {}}, {a, b, c, c}, {a, b, b}, {{}, {}, {}}} {
		for _, pos := range []int{2, 0, 1, 5} {
			checkFault(t, 2, 1, 0, []Part{at(0, a, b, c), at(1, a, b, c), at(pos, other...)}, api.ErrForm)
			checkFault(t, 2, 1, 0, []Part{at(pos, other...), at(0, a, b, c), at(1, a, b, c)}, api.ErrForm)
			checkFault(t, 2, 1, 0, []Part{at(0, a, b, c), at(pos, other...), at(1, a, b, c)}, api.ErrForm)
		}
	}
	// What stands behind a list is not of it.
	long := []api.Entry{a, b, c}
	check(t, 2, 1, 0, []Part{{Pos: 0, Entries: long[:2]}, at(1, a, b)}, []api.Entry{a, b}, api.OK)
}

// The errors of chapter 6's Decode.
func TestBlobs(t *testing.T) {
	e := put(1, "k", "abcd")
	sized := func(size int) []Part {
		e := e
		e.Size = size
		return []Part{at(0, with(e, "ab")), at(1, with(e, "cd"))}
	}
	check(t, 2, 0, 0, sized(4), sized(4)[0].Entries, api.OK)
	for _, size := range []int{-1, 257, 1 << 32, math.MinInt, math.MaxInt} {
		checkFault(t, 2, 0, 0, sized(size), api.ErrLarge)
	}
	for _, size := range []int{0, 1, 2, 3, 5, 6, 256} {
		checkFault(t, 2, 0, 0, sized(size), api.ErrForm)
	}
	for _, pair := range [][2]string{{"ab", "cx"}, {"xb", "cd"}, {"cd", "ab"}, {"ab", ""}, {"", ""}, {"ab", "c"}, {"abc", "d"}, {"abc", "def"}} {
		checkFault(t, 2, 0, 0, []Part{at(0, with(e, pair[0])), at(1, with(e, pair[1]))}, api.ErrForm)
	}
	e.Sum++
	checkFault(t, 2, 0, 0, []Part{at(0, with(e, "ab")), at(1, with(e, "cd"))}, api.ErrForm)
}

// The error is that of the first entry that has one, and there is no part of
// the result beside it.
func TestFirstError(t *testing.T) {
	good, mark := with(put(1, "a", "x"), "x"), api.Entry{Seq: 9}
	torn, large := with(put(2, "b", "x"), "y"), with(put(3, "c", "x"), "x")
	large.Size = 257
	for _, c := range []struct {
		list  []api.Entry
		fault api.Errno
	}{
		{[]api.Entry{good, torn, large}, api.ErrForm}, {[]api.Entry{good, large, torn}, api.ErrLarge},
		{[]api.Entry{torn, good}, api.ErrForm}, {[]api.Entry{large, good, mark}, api.ErrLarge},
		{[]api.Entry{mark, good, mark, good, torn}, api.ErrForm}, {[]api.Entry{mark, good, good, large}, api.ErrLarge},
	} {
		checkFault(t, 1, 1, 1, []Part{at(0, c.list...)}, c.fault)
		checkFault(t, 1, 1, 0, []Part{at(1, c.list...), at(0, c.list...)}, c.fault)
	}
}

// pool returns parts that fit together for k 2 and m 1, and some that do not.
func pool(t testing.TB) []Part {
	t.Helper()
	e, mark := put(1, "k", "abcd"), api.Entry{Seq: 2, Client: 1, Num: 1}
	return append(members(t, 2, 1, []api.Entry{with(e, "abcd"), with(mark, "z")}),
		at(0, with(e, "ab")), at(1, with(e, "xd"), mark), at(2, with(e, "x"), mark),
		at(3, with(e, "ab"), mark), at(-1, with(e, "ab"), mark), at(0), at(1), at(0, with(e, "abcd"), mark), at(1, mark, mark),
	)
}

// All lists of up to three of these parts, with all small k, m and pos, and all
// lists of four.
func TestAllShortLists(t *testing.T) {
	from := pool(t)
	faults := map[api.Errno]int{}
	lists := [][]Part{nil}
	for range 4 {
		for _, list := range lists {
			for k := range 4 {
				for m := -1; m < 3; m++ {
					faults[checkModel(t, k, m, 1, list)]++
				}
			}
			for pos := -1; pos < 4; pos++ {
				faults[checkModel(t, 2, 1, pos, list)]++
			}
		}
		var longer [][]Part
		for _, list := range lists {
			for _, p := range from {
				longer = append(longer, append(slices.Clone(list), p))
			}
		}
		lists = longer
	}
	for _, list := range lists {
		faults[checkModel(t, 2, 1, 2, list)]++
	}
	for _, e := range []api.Errno{api.OK, api.ErrRange, api.ErrFew, api.ErrForm} {
		if faults[e] < 100 {
			t.Errorf("error %d only %d times", e, faults[e])
		}
	}
}

func TestArgumentsStay(t *testing.T) {
	data := sample(7)
	whole := []api.Entry{with(put(1, "k", data), data), with(api.Entry{Seq: 2}, "mark"), with(put(3, "k", data), data)}
	roomy := func() []Part {
		parts := members(t, 2, 2, whole)
		for i := range parts {
			for j, e := range parts[i].Entries {
				parts[i].Entries[j].Frag = append(slices.Clone(e.Frag), 7, 7, 7)[:len(e.Frag)]
			}
			parts[i].Entries = append(parts[i].Entries, put(77, "behind", ""), put(78, "behind", ""))[:3]
		}
		return append(parts, at(77, put(77, "behind", "")), at(78))[:4]
	}
	everything := func(parts []Part) string {
		var lines []string
		for _, p := range parts[:cap(parts)] {
			for _, e := range p.Entries[:cap(p.Entries)] {
				e.Frag = e.Frag[:cap(e.Frag)]
				lines = append(lines, fmt.Sprint(p.Pos, " ", text(e)))
			}
		}
		return strings.Join(lines, "\n")
	}
	parts := roomy()
	before := everything(parts)
	for pos := range 4 {
		if _, e := Build(2, 2, pos, parts); e != api.OK || everything(parts) != before {
			t.Errorf("Build at %d changed its arguments, or error %d:\n%s", pos, e, everything(parts))
		}
	}
	parts[3].Entries[2].Seq++
	before = everything(parts)
	if _, e := Build(2, 2, 0, parts); e != api.ErrForm || everything(parts) != before {
		t.Errorf("Build changed its arguments, or error %d:\n%s", e, everything(parts))
	}
}

// overwrite writes all over a list, with its capacity and its fragments'.
func overwrite(list []api.Entry) {
	list = list[:cap(list)]
	for i := range list {
		fragment := list[i].Frag[:cap(list[i].Frag)]
		for j := range fragment {
			fragment[j] = 99
		}
	}
	clear(list)
}

func TestResultsApart(t *testing.T) {
	data := sample(7)
	whole := []api.Entry{with(put(1, "k", data), data), with(api.Entry{Seq: 2}, "mark"), with(put(3, "k", data), data), put(4, "e", "")}
	for _, k := range []int{1, 2, 3} {
		parts := members(t, k, 1, whole)
		before := toldParts(parts)
		for pos := range k + 1 {
			first, _ := Build(k, 1, pos, parts)
			second, _ := Build(k, 1, pos, parts)
			want := told(second)
			// Of one result, no fragment has memory of another one's.
			fragment := first[0].Frag[:cap(first[0].Frag)]
			for i := range fragment {
				fragment[i] ^= 0x55
			}
			if !bytes.Equal(first[2].Frag, second[2].Frag) {
				t.Errorf("k %d, position %d: the fragments of a result share memory", k, pos)
			}
			overwrite(first)
			if told(second) != want || toldParts(parts) != before {
				t.Errorf("k %d, position %d: results share memory", k, pos)
			}
		}
	}
}

// arguments reads a call from bytes: many of them are nearly right.
type arguments struct{ rest []byte }

func (a *arguments) next(n int) int {
	if len(a.rest) == 0 {
		return 0
	}
	x := int(a.rest[0])
	a.rest = a.rest[1:]
	return x % n
}

func (a *arguments) entries() []api.Entry {
	var list []api.Entry
	for range a.next(4) {
		e := api.Entry{Seq: a.next(3), Client: a.next(5) - 1, Num: a.next(4), Op: []int{1, 1, 1, 0, 2, 5, -1}[a.next(7)], Key: []string{"", "a", "bc"}[a.next(3)]}
		if e.Op == api.Put {
			data := sample(a.next(12))
			e = with(e, data)
			e.Size, e.Sum = len(data), crc32.ChecksumIEEE([]byte(data))
		}
		list = append(list, e)
	}
	return list
}

// spoil changes something of one part.
func (a *arguments) spoil(p *Part) {
	if len(p.Entries) == 0 {
		p.Pos += a.next(3) - 1
		return
	}
	e := &p.Entries[a.next(len(p.Entries))]
	switch a.next(8) {
	case 0:
		p.Pos = a.next(7) - 1
	case 1:
		p.Entries = p.Entries[:len(p.Entries)-1]
	case 2:
		e.Seq++
	case 3:
		e.Frag = append(bytes.Clone(e.Frag), 1)
	case 4:
		e.Frag = e.Frag[:len(e.Frag)/2]
	case 5:
		e.Size = []int{-1, 257, e.Size + 1, 0}[a.next(4)]
	case 6:
		e.Sum++
	case 7:
		e.Frag = bytes.Repeat([]byte{byte(a.next(256))}, len(e.Frag))
	}
}

func (a *arguments) check(t testing.TB) api.Errno {
	k, m := a.next(4)+1, a.next(3)
	all := members(t, k, m, a.entries())
	var parts []Part
	for range a.next(7) {
		p := all[a.next(k+m)]
		parts = append(parts, at(p.Pos, slices.Clone(p.Entries)...))
	}
	for range a.next(3) {
		if len(parts) > 0 {
			a.spoil(&parts[a.next(len(parts))])
		}
	}
	// What is wrong with all parts is no difference.
	if len(parts) > 0 && a.next(5) == 4 {
		for i := range parts {
			for j := range parts[i].Entries {
				parts[i].Entries[j].Size += a.next(2)
			}
		}
	}
	return checkModel(t, k, m, a.next(k+m+1), parts)
}

func TestRandom(t *testing.T) {
	source := rand.New(rand.NewSource(15))
	faults := map[api.Errno]int{}
	for range 30000 {
		b := make([]byte, 60)
		source.Read(b)
		faults[(&arguments{b}).check(t)]++
	}
	for _, e := range []api.Errno{api.OK, api.ErrRange, api.ErrFew, api.ErrForm} {
		if faults[e] < 300 {
			t.Errorf("error %d only %d times", e, faults[e])
		}
	}
}

func FuzzBuild(f *testing.F) {
	for _, seed := range []string{"", "\x01\x01\x02\x01\x01\x01\x00\x01\x05", "\x02\x02\x03abcdefghijklmnopqrstuvwxyz0123456789"} {
		f.Add([]byte(seed))
	}
	f.Fuzz(func(t *testing.T, b []byte) { (&arguments{b}).check(t) })
}

// FuzzSizes has one member's entry of any fields and one shard.
func FuzzSizes(f *testing.F) {
	f.Add(3, uint32(0), 1, 0, 0, 0, "abc")
	f.Add(257, uint32(0), 1, 2, 1, 1, "")
	f.Fuzz(func(t *testing.T, size int, sum uint32, op, m, pos, place int, data string) {
		e := api.Entry{Op: op, Size: size, Sum: sum, Frag: []byte(data)}
		checkModel(t, 1, m, pos, []Part{at(place, e)})
		e.Size, e.Sum = len(data), crc32.ChecksumIEEE([]byte(data))
		checkModel(t, 1, m, pos, []Part{at(place, e)})
	})
}
