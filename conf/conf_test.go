package conf

import (
	"math"
	"math/big"
	"reflect"
	"slices"
	"testing"

	"deadeye/api"
)

// The model follows the promise word by word: sums cannot overflow, and members
// are found from both ends one by one.

func sum(k, m int) *big.Int { return new(big.Int).Add(big.NewInt(int64(k)), big.NewInt(int64(m))) }

func modelSound(c api.Conf, k, m int) bool {
	different := map[int]struct{}{}
	for _, node := range c.Members {
		if 0 <= node && node <= 15 {
			different[node] = struct{}{}
		}
	}
	count := big.NewInt(int64(len(c.Members)))
	return 1 <= c.Epoch && c.Epoch <= 1<<40 && 1 <= k && 0 <= m && m <= 16 &&
		sum(k, m).Cmp(count) == 0 && len(different) == len(c.Members)
}

// modelPos returns -1 if node is not a member.
func modelPos(members []int, node int) int {
	pos := -1
	for i := len(members) - 1; i >= 0; i-- {
		if members[i] == node {
			pos = i
		}
	}
	return pos
}

// answer is a node or a position, or that there is none.
type answer struct {
	value int
	ok    bool
}

func got(value int, ok bool) answer { return answer{value, ok} }

// modelAt returns the member at a position, if there is one.
func modelAt(members []int, pos int) answer {
	for i, node := range members {
		if i == pos {
			return answer{node, true}
		}
	}
	return answer{}
}

// check compares all functions that search a configuration for one node.
func check(t *testing.T, members []int, epoch, node int) {
	t.Helper()
	c := api.Conf{Epoch: epoch, Members: members}
	pos, next, prev := answer{}, answer{}, answer{}
	if place := modelPos(members, node); place >= 0 {
		pos = answer{place, true}
		next, prev = modelAt(members, place+1), modelAt(members, place-1)
	}
	for _, x := range []struct {
		name      string
		got, want answer
	}{
		{"Pos", got(Pos(c, node)), pos},
		{"Next", got(Next(c, node)), next},
		{"Prev", got(Prev(c, node)), prev},
		{"Head", got(Head(c)), modelAt(members, 0)},
		{"Tail", got(Tail(c)), modelAt(members, len(members)-1)},
	} {
		if x.got != x.want {
			t.Errorf("%s of %d in %v = %v, want %v", x.name, node, c, x.got, x.want)
		}
	}
}

// forMembers calls do with each list of up to most of the nodes. The list is
// only lent.
func forMembers(nodes []int, most int, do func([]int)) {
	var grow func(list []int)
	grow = func(list []int) {
		do(list)
		if len(list) == most {
			return
		}
		for _, node := range nodes {
			grow(append(list, node))
		}
	}
	grow(make([]int, 0, most))
}

// upward returns the numbers from 0 to count - 1.
func upward(count int) []int {
	list := []int{}
	for i := range count {
		list = append(list, i)
	}
	return list
}

var extremes = []int{math.MinInt, math.MinInt + 1, math.MinInt + 16, -17, -16, -2, -1, 0, 1, 2, 14, 15, 16, 17, 1 << 32, 1<<32 + 1, math.MaxInt - 16, math.MaxInt - 15, math.MaxInt - 1, math.MaxInt}

// P11.1: Sound

func TestSoundByHand(t *testing.T) {
	three := []int{7, 2, 9}
	for _, x := range []struct {
		epoch   int
		members []int
		k, m    int
		want    bool
	}{
		{4, three, 2, 1, true}, {4, three, 1, 2, true}, {4, three, 3, 0, true},
		{1, three, 2, 1, true}, {api.MaxNum, three, 2, 1, true},
		{0, three, 2, 1, false}, {-1, three, 2, 1, false}, {api.MaxNum + 1, three, 2, 1, false},
		{math.MinInt, three, 2, 1, false}, {math.MaxInt, three, 2, 1, false},
		// Three members, but the numbers do not fit.
		{4, three, 0, 3, false}, {4, three, -1, 4, false}, {4, three, 4, -1, false}, {4, three, 2, 2, false}, {4, three, 1, 1, false},
		{4, three, 3, 1, false}, {4, three, 2, 0, false}, {4, three, -13, 16, false}, {4, three, -14, 17, false},
		// One member.
		{1, []int{0}, 1, 0, true}, {1, []int{15}, 1, 0, true}, {1, []int{16}, 1, 0, false}, {1, []int{-1}, 1, 0, false},
		{1, []int{math.MinInt}, 1, 0, false}, {1, []int{math.MaxInt}, 1, 0, false}, {1, []int{0}, 0, 1, false}, {1, []int{1 << 32}, 1, 0, false},
		{1, nil, 0, 0, false}, {1, []int{}, 1, 0, false}, {1, nil, 1, -1, false}, {1, nil, -1, 1, false},
		// Some members that are the same.
		{1, []int{1, 1}, 1, 1, false}, {1, []int{1, 2, 1}, 2, 1, false}, {1, []int{1, 2, 2}, 2, 1, false}, {1, []int{2, 2, 1}, 2, 1, false},
		{1, []int{0, 0}, 2, 0, false}, {1, []int{0, 1, 2, 3, 0}, 3, 2, false}, {1, []int{0, 1, 2, 3, 3}, 3, 2, false},
		// One of several members that is no node.
		{1, []int{0, 16, 1}, 2, 1, false}, {1, []int{16, 0, 1}, 2, 1, false}, {1, []int{0, 1, 16}, 2, 1, false}, {1, []int{0, 1, -1}, 2, 1, false},
	} {
		if got := Sound(api.Conf{Epoch: x.epoch, Members: x.members}, x.k, x.m); got != x.want {
			t.Errorf("Sound(%d %v, %d, %d) = %t, want %t", x.epoch, x.members, x.k, x.m, got, x.want)
		}
	}
}

func TestSoundOfAllShortLists(t *testing.T) {
	forMembers([]int{-1, 0, 1, 14, 15, 16}, 4, func(members []int) {
		for _, epoch := range []int{-1, 0, 1, api.MaxNum, api.MaxNum + 1} {
			c := api.Conf{Epoch: epoch, Members: members}
			for k := -2; k <= 5; k++ {
				for m := -2; m <= 5; m++ {
					if got, want := Sound(c, k, m), modelSound(c, k, m); got != want {
						t.Fatalf("Sound(%v, %d, %d) = %t, want %t", c, k, m, got, want)
					}
				}
			}
		}
	})
}

// All nodes can be members, and no more than them.
func TestSoundOfManyMembers(t *testing.T) {
	for count := range 20 {
		c := api.Conf{Epoch: 1, Members: upward(count)}
		for k := -2; k <= 20; k++ {
			m := count - k
			want := count <= 16 && 1 <= k && 0 <= m
			if got := Sound(c, k, m); got != want {
				t.Errorf("Sound of %d members, %d, %d = %t, want %t", count, k, m, got, want)
			}
		}
	}
	down := upward(16)
	slices.Reverse(down)
	if !Sound(api.Conf{Epoch: 1, Members: down}, 9, 7) {
		t.Error("Sound of the nodes in another order")
	}
	for twice := range 16 {
		c := api.Conf{Epoch: 1, Members: upward(16)}
		c.Members[twice] = (twice + 5) % 16
		if Sound(c, 9, 7) {
			t.Errorf("Sound of %v", c)
		}
	}
	if long := make([]int, 1<<20); Sound(api.Conf{Epoch: 1, Members: long}, len(long)-1, 1) {
		t.Error("Sound of a great many members")
	}
}

// The sum of k and m does not wrap round.
func TestSoundExtremes(t *testing.T) {
	for count := range 18 {
		for _, epoch := range extremes {
			c := api.Conf{Epoch: epoch, Members: upward(count)}
			for _, k := range extremes {
				for _, m := range extremes {
					if got, want := Sound(c, k, m), modelSound(c, k, m); got != want {
						t.Fatalf("Sound(%v, %d, %d) = %t, want %t", c, k, m, got, want)
					}
				}
			}
		}
	}
}

// P11.1: Pos, Head, Tail, Next, Prev

func TestSearchByHand(t *testing.T) {
	c := api.Conf{Epoch: 4, Members: []int{7, 2, 9}}
	none := answer{}
	for _, x := range []struct {
		node            int
		pos, next, prev answer
	}{
		{7, answer{0, true}, answer{2, true}, none},
		{2, answer{1, true}, answer{9, true}, answer{7, true}},
		{9, answer{2, true}, none, answer{2, true}},
		{0, none, none, none}, {1, none, none, none}, {5, none, none, none}, {8, none, none, none}, {-1, none, none, none},
		{16, none, none, none}, {math.MinInt, none, none, none}, {math.MaxInt, none, none, none}, {1<<32 + 2, none, none, none},
	} {
		if pos := got(Pos(c, x.node)); pos != x.pos {
			t.Errorf("Pos(%d) = %v, want %v", x.node, pos, x.pos)
		}
		if next := got(Next(c, x.node)); next != x.next {
			t.Errorf("Next(%d) = %v, want %v", x.node, next, x.next)
		}
		if prev := got(Prev(c, x.node)); prev != x.prev {
			t.Errorf("Prev(%d) = %v, want %v", x.node, prev, x.prev)
		}
	}
	if head := got(Head(c)); head != (answer{7, true}) {
		t.Errorf("Head = %v", head)
	}
	if tail := got(Tail(c)); tail != (answer{9, true}) {
		t.Errorf("Tail = %v", tail)
	}
}

// Node 0 as an answer differs from no answer.
func TestSearchNodeZero(t *testing.T) {
	zero := answer{0, true}
	for _, x := range []struct {
		name string
		got  answer
	}{
		{"Head", got(Head(api.Conf{Members: []int{0, 1}}))},
		{"Tail", got(Tail(api.Conf{Members: []int{1, 0}}))},
		{"Next", got(Next(api.Conf{Members: []int{1, 0}}, 1))},
		{"Prev", got(Prev(api.Conf{Members: []int{0, 1}}, 1))},
		{"Pos", got(Pos(api.Conf{Members: []int{0, 1}}, 0))},
	} {
		if x.got != zero {
			t.Errorf("%s = %v, want %v", x.name, x.got, zero)
		}
	}
}

func TestSearchOneMember(t *testing.T) {
	for _, node := range extremes {
		c := api.Conf{Epoch: 1, Members: []int{node}}
		for name, x := range map[string]struct{ got, want answer }{
			"Head": {got(Head(c)), answer{node, true}}, "Tail": {got(Tail(c)), answer{node, true}}, "Pos": {got(Pos(c, node)), answer{0, true}},
			"Next": {got(Next(c, node)), answer{}}, "Prev": {got(Prev(c, node)), answer{}},
		} {
			if x.got != x.want {
				t.Errorf("%s of the only member %d = %v, want %v", name, node, x.got, x.want)
			}
		}
	}
}

func TestSearchNoMembers(t *testing.T) {
	for _, members := range [][]int{nil, {}, make([]int, 0, 5)} {
		for _, node := range extremes {
			check(t, members, 3, node)
			if x := got(Pos(api.Conf{Members: members}, node)); x != (answer{}) {
				t.Errorf("Pos(%d) of no members = %v", node, x)
			}
		}
		for _, x := range []answer{got(Head(api.Conf{Members: members})), got(Tail(api.Conf{Members: members}))} {
			if x != (answer{}) {
				t.Errorf("Head or Tail of no members = %v", x)
			}
		}
	}
}

// Configurations that are not sound are searched as well; a node that stands in
// them twice is at its first position.
func TestSearchAllShortLists(t *testing.T) {
	forMembers([]int{0, 1, 2, 5}, 6, func(members []int) {
		for node := -1; node <= 6; node++ {
			check(t, members, len(members), node)
		}
	})
	forMembers([]int{math.MinInt, -1, 0, math.MaxInt}, 4, func(members []int) {
		for _, node := range extremes {
			check(t, members, -1, node)
		}
	})
}

func TestSearchTwice(t *testing.T) {
	c := api.Conf{Members: []int{3, 4, 5, 4, 6}}
	if x := got(Pos(c, 4)); x != (answer{1, true}) {
		t.Errorf("Pos = %v", x)
	}
	if x := got(Next(c, 4)); x != (answer{5, true}) {
		t.Errorf("Next = %v", x)
	}
	if x := got(Prev(c, 4)); x != (answer{3, true}) {
		t.Errorf("Prev = %v", x)
	}
}

// The epoch does not matter, nor how many members there are.
func TestSearchManyMembers(t *testing.T) {
	long := upward(300)
	for i := range long {
		long[i] = i * 37 % 311
	}
	for _, epoch := range extremes {
		for node := range 320 {
			check(t, long, epoch, node)
		}
	}
}

// What lies behind the members in their slice is none of them.
func TestSearchSpareCapacity(t *testing.T) {
	all := []int{1, 2, 3, 4, 5}
	some := all[1:3]
	for node := range 7 {
		check(t, some, 1, node)
		check(t, slices.Clone(some), 1, node)
	}
	if !Sound(api.Conf{Epoch: 1, Members: some}, 1, 1) || Sound(api.Conf{Epoch: 1, Members: some}, 2, 1) {
		t.Error("Sound with spare capacity")
	}
}

// P11.1: First

func modelFirst(k, m int) api.Conf {
	if k < 1 || m < 0 || sum(k, m).Cmp(big.NewInt(16)) > 0 {
		return api.Conf{}
	}
	return api.Conf{Epoch: 1, Members: upward(k + m)}
}

func checkFirst(t *testing.T, k, m int) {
	t.Helper()
	c, want := First(k, m), modelFirst(k, m)
	if c.Epoch != want.Epoch || !slices.Equal(c.Members, want.Members) {
		t.Errorf("First(%d, %d) = %v, want %v", k, m, c, want)
	}
	if sound := Sound(c, k, m); sound != (want.Epoch == 1) {
		t.Errorf("First(%d, %d) = %v, and Sound is %t", k, m, c, sound)
	}
}

func TestFirstByHand(t *testing.T) {
	for _, x := range []struct {
		k, m int
		want []int
	}{
		{1, 0, []int{0}}, {1, 1, []int{0, 1}}, {2, 0, []int{0, 1}}, {3, 1, []int{0, 1, 2, 3}},
		{16, 0, upward(16)}, {1, 15, upward(16)}, {10, 6, upward(16)},
	} {
		if c := First(x.k, x.m); c.Epoch != 1 || !slices.Equal(c.Members, x.want) {
			t.Errorf("First(%d, %d) = %v", x.k, x.m, c)
		}
	}
	for _, x := range [][2]int{
		{0, 0}, {0, 1}, {-1, 2}, {-1, -1}, {1, -1}, {2, -1}, {16, 1}, {1, 16}, {17, 0}, {10, 7}, {17, -1}, {0, 16}, {-1, 17},
		{math.MaxInt, 1}, {1, math.MaxInt}, {math.MaxInt, math.MaxInt}, {math.MinInt, 0}, {1, math.MinInt}, {math.MinInt, math.MinInt},
		{math.MaxInt, math.MinInt}, {math.MinInt, math.MaxInt}, {1 << 62, 1 << 62},
	} {
		if c := First(x[0], x[1]); c.Epoch != 0 || c.Members != nil {
			t.Errorf("First(%d, %d) = %v, want a zero one", x[0], x[1], c)
		}
	}
}

func TestFirstModel(t *testing.T) {
	for k := -3; k <= 40; k++ {
		for m := -3; m <= 40; m++ {
			checkFirst(t, k, m)
		}
	}
	for _, k := range extremes {
		for _, m := range extremes {
			checkFirst(t, k, m)
		}
	}
}

// R4 and R5

func TestArgumentsStay(t *testing.T) {
	all := []int{9, 4, 0, 7, 12, 3}
	before := slices.Clone(all)
	c := api.Conf{Epoch: 5, Members: all[:3]}
	for node := -1; node <= 16; node++ {
		Pos(c, node)
		Next(c, node)
		Prev(c, node)
		Sound(c, node, 3-node)
	}
	Head(c)
	Tail(c)
	if !slices.Equal(all, before) || c.Epoch != 5 || len(c.Members) != 3 {
		t.Errorf("a search changed its configuration to %v", all)
	}
}

// What is done to one result does not reach another one.
func TestFirstApart(t *testing.T) {
	for count := 1; count <= 16; count++ {
		one, other := First(count, 0), First(count, 0)
		whole := one.Members[:cap(one.Members)]
		for i := range whole {
			whole[i] = -7
		}
		_ = append(one.Members, 99, 98)
		if !slices.Equal(other.Members, upward(count)) {
			t.Errorf("First(%d, 0) shares its members: %v", count, other)
		}
		if again := First(count, 0); !reflect.DeepEqual(again.Members, upward(count)) {
			t.Errorf("First(%d, 0) is %v the next time", count, again)
		}
		if spare := other.Members[:cap(other.Members)]; slices.Contains(spare, -7) || slices.Contains(spare, 99) {
			t.Errorf("First(%d, 0) shares its spare capacity: %v", count, spare)
		}
	}
}

// A configuration that is changed between two calls is searched anew.
func TestNothingIsKept(t *testing.T) {
	c := api.Conf{Epoch: 1, Members: []int{1, 2, 3}}
	if x := got(Next(c, 2)); x != (answer{3, true}) || !Sound(c, 2, 1) {
		t.Errorf("Next = %v", x)
	}
	c.Members[2] = 2
	if x := got(Next(c, 2)); x != (answer{2, true}) || Sound(c, 2, 1) {
		t.Errorf("Next after a change = %v", x)
	}
	c.Members[1] = 8
	if x := got(Pos(c, 2)); x != (answer{2, true}) {
		t.Errorf("Pos after a change = %v", x)
	}
}

func FuzzConf(f *testing.F) {
	f.Add([]byte{7, 2, 9}, 4, 2, 1, 2)
	f.Add([]byte{}, 0, 0, 0, 0)
	f.Add([]byte{1, 1}, 1, 1, 1, 1)
	f.Add([]byte{255, 16, 15}, api.MaxNum, math.MaxInt, math.MinInt, -1)
	f.Fuzz(func(t *testing.T, b []byte, epoch, k, m, node int) {
		members := make([]int, len(b))
		for i, x := range b {
			members[i] = int(int8(x))
		}
		c := api.Conf{Epoch: epoch, Members: members}
		if got, want := Sound(c, k, m), modelSound(c, k, m); got != want {
			t.Errorf("Sound(%v, %d, %d) = %t, want %t", c, k, m, got, want)
		}
		if got, want := Sound(c, len(b)-1, 1), modelSound(c, len(b)-1, 1); got != want {
			t.Errorf("Sound(%v, %d, 1) = %t, want %t", c, len(b)-1, got, want)
		}
		check(t, members, epoch, node)
		for _, x := range members {
			check(t, members, epoch, x)
		}
		checkFirst(t, k, m)
		checkFirst(t, k%20, m%20)
	})
}
