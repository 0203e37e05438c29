package disk

import (
	"bytes"
	"math"
	"slices"
	"strings"
	"testing"

	"deadeye/api"
)

// check checks the power of d and what can be read from it.
func check(t *testing.T, d *Disk, want string) {
	t.Helper()
	if b, e := d.Read(); e != api.OK || string(b) != want || !d.Up() {
		t.Errorf("Read() = %q, %d, Up() = %t, want %q", b, e, d.Up(), want)
	}
}

// checkOff checks that the power of d is off, and that this refuses all.
func checkOff(t *testing.T, d *Disk) {
	t.Helper()
	if b, e := d.Read(); e != api.ErrDown || len(b) != 0 || d.Up() {
		t.Errorf("Read() = %q, %d, Up() = %t, want ErrDown", b, e, d.Up())
	}
	for _, b := range []string{"", "x", strings.Repeat("x", 100)} {
		checkError(t, d.Append([]byte(b)), api.ErrDown)
		checkError(t, d.Replace([]byte(b)), api.ErrDown)
	}
}

func checkError(t *testing.T, got, want api.Errno) {
	t.Helper()
	if got != want {
		t.Errorf("the error is %d, want %d", got, want)
	}
}

// filled returns a disk of room bytes with a content.
func filled(t *testing.T, room int, content string) *Disk {
	t.Helper()
	d := New(room)
	checkError(t, d.Replace([]byte(content)), api.OK)
	return d
}

// extremes are the integers around which something may change.
func extremes() []int {
	return []int{math.MinInt, math.MinInt + 1, -1 << 32, -1 << 31, -2, -1, 1 << 31, 1 << 32, 1<<32 + 1, math.MaxInt - 1, math.MaxInt}
}

// P8.1

func TestNew(t *testing.T) {
	for _, room := range append(extremes(), 0, 1, 2, 1000, api.MaxRoom) {
		check(t, New(room), "")
	}
	if a, b := New(5), New(5); a == b || a.Append([]byte("a")) != api.OK {
		t.Error("two disks are one")
	} else {
		check(t, a, "a")
		check(t, b, "")
	}
}

func TestCapacity(t *testing.T) {
	for _, c := range []struct{ room, want int }{
		{0, 0}, {1, 1}, {2, 2}, {255, 255}, {256, 256}, {257, 257}, {65536, 65536},
		{-1, 0}, {-2, 0}, {-1 << 24, 0}, {-1 << 32, 0}, {math.MinInt, 0}, {math.MinInt + 1, 0},
		{1<<24 - 1, 1<<24 - 1}, {1 << 24, 1 << 24}, {1<<24 + 1, 1 << 24}, {1 << 25, 1 << 24}, {1 << 32, 1 << 24}, {1<<32 + 1, 1 << 24}, {math.MaxInt, 1 << 24},
	} {
		full := make([]byte, c.want)
		over := make([]byte, c.want+1)
		for _, write := range []func(*Disk, []byte) api.Errno{(*Disk).Append, (*Disk).Replace} {
			d := New(c.room)
			checkError(t, write(d, over), api.ErrFull)
			check(t, d, "")
			checkError(t, write(d, full), api.OK)
			if b, e := d.Read(); e != api.OK || !bytes.Equal(b, full) {
				t.Errorf("New(%d): %d bytes, %d", c.room, len(b), e)
			}
			checkError(t, d.Append([]byte{1}), api.ErrFull)
			checkError(t, d.Append(nil), api.OK)
			checkError(t, d.Replace(over), api.ErrFull)
			if b, e := d.Read(); e != api.OK || !bytes.Equal(b, full) {
				t.Errorf("New(%d), full: %d bytes, %d", c.room, len(b), e)
			}
		}
	}
}

func TestAppend(t *testing.T) {
	d := New(6)
	for _, c := range []struct {
		b    string
		e    api.Errno
		want string
	}{
		{"", api.OK, ""}, {"abcdefg", api.ErrFull, ""}, {"ab", api.OK, "ab"}, {"", api.OK, "ab"},
		{"cdefg", api.ErrFull, "ab"}, {"\x00", api.OK, "ab\x00"}, {"\xff\x80", api.OK, "ab\x00\xff\x80"},
		{"xy", api.ErrFull, "ab\x00\xff\x80"}, {"x", api.OK, "ab\x00\xff\x80x"}, {"y", api.ErrFull, "ab\x00\xff\x80x"},
		{"", api.OK, "ab\x00\xff\x80x"},
	} {
		checkError(t, d.Append([]byte(c.b)), c.e)
		check(t, d, c.want)
	}
	checkError(t, d.Append(nil), api.OK)
	check(t, d, "ab\x00\xff\x80x")
}

func TestReplace(t *testing.T) {
	d := New(6)
	for _, c := range []struct {
		b    string
		e    api.Errno
		want string
	}{
		{"", api.OK, ""}, {"abcdefg", api.ErrFull, ""}, {"abcdef", api.OK, "abcdef"}, {"ghijkl", api.OK, "ghijkl"},
		{"mn", api.OK, "mn"}, {"opqrstu", api.ErrFull, "mn"}, {"\x00\xff\x80", api.OK, "\x00\xff\x80"}, {"", api.OK, ""},
	} {
		checkError(t, d.Replace([]byte(c.b)), c.e)
		check(t, d, c.want)
	}
	checkError(t, d.Replace([]byte("abcdef")), api.OK)
	checkError(t, d.Replace(nil), api.OK)
	check(t, d, "")
}

// What is replaced takes no room any more, and is not read behind what is
// shorter.
func TestReplaceThenAppend(t *testing.T) {
	d := filled(t, 6, "abcdef")
	checkError(t, d.Append([]byte("x")), api.ErrFull)
	checkError(t, d.Replace([]byte("gh")), api.OK)
	checkError(t, d.Append([]byte("ijklm")), api.ErrFull)
	checkError(t, d.Append([]byte("i")), api.OK)
	check(t, d, "ghi")
	checkError(t, d.Append([]byte("jkl")), api.OK)
	check(t, d, "ghijkl")
}

func TestPower(t *testing.T) {
	d := filled(t, 6, "abc")
	d.Start()
	check(t, d, "abc")
	d.Crash()
	checkOff(t, d)
	d.Crash()
	checkOff(t, d)
	d.Start()
	check(t, d, "abc")
	d.Start()
	checkError(t, d.Append([]byte("de")), api.OK)
	check(t, d, "abcde")
	empty := New(0)
	empty.Crash()
	checkOff(t, empty)
	empty.Start()
	check(t, empty, "")
}

// ErrDown is named ahead of ErrFull.
func TestErrorsInOrder(t *testing.T) {
	d := filled(t, 2, "ab")
	d.Crash()
	checkError(t, d.Append([]byte("c")), api.ErrDown)
	checkError(t, d.Replace([]byte("cde")), api.ErrDown)
	d.Tear(1)
	checkError(t, d.Append([]byte("c")), api.ErrDown)
	checkError(t, d.Replace([]byte("cde")), api.ErrDown)
	d.Start()
	check(t, d, "ab")
}

func TestNilDisk(t *testing.T) {
	var d *Disk
	for range 2 {
		for _, b := range [][]byte{nil, {}, {1}, make([]byte, 1000)} {
			checkError(t, d.Append(b), api.ErrArg)
			checkError(t, d.Replace(b), api.ErrArg)
		}
		if b, e := d.Read(); b != nil || e != api.ErrArg {
			t.Errorf("Read() = %v, %d", b, e)
		}
		if d.Up() {
			t.Error("Up() = true")
		}
		for _, n := range append(extremes(), 0, 1) {
			d.Tear(n)
		}
		d.Crash()
		d.Start()
	}
}

func TestZeroDisk(t *testing.T) {
	d := new(Disk)
	check(t, d, "")
	checkError(t, d.Append([]byte("a")), api.ErrFull)
	checkError(t, d.Replace([]byte("a")), api.ErrFull)
	checkError(t, d.Append(nil), api.OK)
	check(t, d, "")
}

// R4: what was written and what was read may be changed without the disk.

func TestArgumentsApart(t *testing.T) {
	whole := []byte("abcdef")
	for _, tear := range []int{-1, 1, 3, 5} {
		for _, write := range []func(*Disk, []byte) api.Errno{(*Disk).Append, (*Disk).Replace} {
			d := New(100)
			if tear >= 0 {
				d.Tear(tear)
			}
			b := slices.Clone(whole)
			write(d, b[:3])
			d.Start()
			first, _ := d.Read()
			want := string(first)
			if string(b) != "abcdef" {
				t.Errorf("an argument was changed: %q", b)
			}
			clear(b)
			check(t, d, want)
			checkError(t, d.Append([]byte("xyz")), api.OK)
			if !bytes.Equal(b, make([]byte, 6)) {
				t.Errorf("the disk writes into an argument: %q", b)
			}
			check(t, d, want+"xyz")
		}
	}
}

func TestResultsApart(t *testing.T) {
	d := New(1000)
	want := ""
	for range 50 {
		checkError(t, d.Append([]byte("abcde")), api.OK)
		want += "abcde"
		first, _ := d.Read()
		second, _ := d.Read()
		for i := range first[:cap(first)] {
			first[:cap(first)][i] = '!'
		}
		check(t, d, want)
		if string(second) != want {
			t.Fatalf("two results share memory: %q", second)
		}
		spare := slices.Clone(second[:cap(second)])
		checkError(t, d.Append([]byte("f")), api.OK)
		if string(second[:cap(second)]) != string(spare) {
			t.Fatalf("a result shares memory with the disk: %q", second[:cap(second)])
		}
		want += "f"
		check(t, d, want)
	}
	kept, _ := d.Read()
	checkError(t, d.Replace([]byte("zzz")), api.OK)
	if string(kept) != want {
		t.Errorf("Replace changed a result: %q", kept)
	}
}

// What a torn Append left out does not appear later.
func TestNothingComesBack(t *testing.T) {
	d := filled(t, 100, "ab")
	d.Tear(1)
	checkError(t, d.Append([]byte("cdefgh")), api.ErrDown)
	d.Start()
	check(t, d, "abc")
	checkError(t, d.Append([]byte("X")), api.OK)
	check(t, d, "abcX")
}

// P8.2

func TestTearAppend(t *testing.T) {
	for n := -3; n <= 8; n++ {
		for length := 0; length <= 5; length++ {
			d := filled(t, 7, "ab")
			d.Tear(n)
			check(t, d, "ab")
			checkError(t, d.Append([]byte("cdefg")[:length]), api.ErrDown)
			checkOff(t, d)
			d.Start()
			want := "ab" + "cdefg"[:min(max(n, 0), length)]
			check(t, d, want)
			checkError(t, d.Replace([]byte("next")), api.OK)
			checkError(t, d.Append([]byte("one")), api.OK)
			check(t, d, "nextone")
		}
	}
}

func TestTearReplace(t *testing.T) {
	for n := -3; n <= 8; n++ {
		for length := 0; length <= 5; length++ {
			d := filled(t, 7, "abcdefg")
			d.Tear(n)
			check(t, d, "abcdefg")
			checkError(t, d.Replace([]byte("vwxyz")[:length]), api.ErrDown)
			checkOff(t, d)
			d.Start()
			if max(n, 0) >= length {
				check(t, d, "vwxyz"[:length])
			} else {
				check(t, d, "abcdefg")
			}
			checkError(t, d.Replace([]byte("next")), api.OK)
			checkError(t, d.Append([]byte("one")), api.OK)
			check(t, d, "nextone")
		}
	}
}

func TestTearExtremes(t *testing.T) {
	for _, n := range extremes() {
		d := filled(t, 7, "ab")
		d.Tear(n)
		checkError(t, d.Append([]byte("cde")), api.ErrDown)
		d.Start()
		want := "ab"
		if n > 0 {
			want = "abcde"
		}
		check(t, d, want)
		d.Tear(n)
		checkError(t, d.Replace([]byte("xyz")), api.ErrDown)
		d.Start()
		if n > 0 {
			want = "xyz"
		}
		check(t, d, want)
		d.Tear(n)
		checkError(t, d.Replace(nil), api.ErrDown)
		d.Start()
		check(t, d, "")
	}
}

// A write that has no room is not the one that is torn.
func TestTearWithoutRoom(t *testing.T) {
	d := filled(t, 4, "ab")
	d.Tear(1)
	for range 3 {
		checkError(t, d.Append([]byte("cde")), api.ErrFull)
		checkError(t, d.Replace([]byte("vwxyz")), api.ErrFull)
		check(t, d, "ab")
	}
	checkError(t, d.Append([]byte("cd")), api.ErrDown)
	checkOff(t, d)
	d.Start()
	check(t, d, "abc")
	// What a Tear would leave out counts for the room too.
	d.Tear(0)
	checkError(t, d.Append([]byte("de")), api.ErrFull)
	check(t, d, "abc")
	checkError(t, d.Replace([]byte("vwxyz")), api.ErrFull)
	checkError(t, d.Replace([]byte("wxyz")), api.ErrDown)
	d.Start()
	check(t, d, "abc")
}

func TestTearAgain(t *testing.T) {
	for _, c := range []struct {
		list []int
		want string
	}{
		{[]int{3, 1}, "abc"}, {[]int{1, 3}, "abcde"}, {[]int{2, 0}, "ab"}, {[]int{0, 2}, "abcd"}, {[]int{2, -1}, "ab"}, {[]int{-1, 2}, "abcd"}, {[]int{5, 4, 1}, "abc"}, {[]int{1, 1}, "abc"},
	} {
		d := filled(t, 9, "ab")
		for _, n := range c.list {
			d.Tear(n)
		}
		checkError(t, d.Append([]byte("cde")), api.ErrDown)
		checkOff(t, d)
		d.Start()
		check(t, d, c.want)
		checkError(t, d.Append([]byte("!")), api.OK)
		check(t, d, c.want+"!")
	}
}

func TestStartCancelsTear(t *testing.T) {
	prepare := []func(*Disk){
		func(d *Disk) { d.Tear(0) },
		func(d *Disk) { d.Tear(2) },
		func(d *Disk) { d.Tear(100) },
		func(d *Disk) { d.Tear(0); d.Tear(1) },
		func(d *Disk) { d.Tear(1); d.Crash() },
		func(d *Disk) { d.Crash(); d.Tear(1) },
		func(d *Disk) { d.Tear(1); d.Append([]byte("")); d.Tear(1) },
	}
	for i, ready := range prepare {
		for _, write := range []func(*Disk, []byte) api.Errno{(*Disk).Append, (*Disk).Replace} {
			d := New(9)
			ready(d)
			d.Start()
			if e := write(d, []byte("abc")); e != api.OK {
				t.Errorf("case %d: %d", i, e)
			}
			check(t, d, "abc")
		}
	}
}

// Neither Crash nor a read is the write that is torn, and Tear does not turn
// the power on or off.
func TestTearStays(t *testing.T) {
	d := filled(t, 9, "ab")
	d.Crash()
	d.Tear(1)
	checkOff(t, d)
	d.Start()
	check(t, d, "ab")
	d.Tear(1)
	check(t, d, "ab")
	check(t, d, "ab")
	checkError(t, d.Append([]byte("cd")), api.ErrDown)
	checkOff(t, d)
	d.Crash()
	d.Start()
	check(t, d, "abc")
}

// P8.1 and P8.2: all short sequences of calls, against a model.

// model is what a disk should hold, as a value: each call makes another one.
type model struct {
	content string
	power   bool
	tear    int // -1 for none
}

const modelRoom = 3

// wrote returns the model after a write of b behind before, and its error.
func (m model) wrote(before, b string, whole bool) (model, api.Errno) {
	switch after := before + b; {
	case !m.power:
		return m, api.ErrDown
	case len(after) > modelRoom:
		return m, api.ErrFull
	case m.tear < 0:
		return model{after, true, -1}, api.OK
	case m.tear >= len(b):
		return model{after, false, -1}, api.ErrDown
	case whole:
		return model{m.content, false, -1}, api.ErrDown
	default:
		return model{after[:len(before)+m.tear], false, -1}, api.ErrDown
	}
}

// call is a call of a disk, and of its model; mark makes the bytes of each
// write different ones.
type call struct {
	name string
	real func(d *Disk, mark string) api.Errno
	want func(m model, mark string) (model, api.Errno)
}

func calls() []call {
	list := []call{
		{"Crash", func(d *Disk, _ string) api.Errno { d.Crash(); return api.OK },
			func(m model, _ string) (model, api.Errno) { return model{m.content, false, m.tear}, api.OK }},
		{"Start", func(d *Disk, _ string) api.Errno { d.Start(); return api.OK },
			func(m model, _ string) (model, api.Errno) { return model{m.content, true, -1}, api.OK }},
	}
	for _, n := range []int{-1, 0, 1, 2, math.MaxInt} {
		list = append(list, call{"Tear", func(d *Disk, _ string) api.Errno { d.Tear(n); return api.OK },
			func(m model, _ string) (model, api.Errno) { return model{m.content, m.power, max(n, 0)}, api.OK }})
	}
	for _, n := range []int{0, 1, 2, 4} {
		list = append(list,
			call{"Append", func(d *Disk, mark string) api.Errno { return d.Append([]byte(mark[:n])) },
				func(m model, mark string) (model, api.Errno) { return m.wrote(m.content, mark[:n], false) }},
			call{"Replace", func(d *Disk, mark string) api.Errno { return d.Replace([]byte(mark[:n])) },
				func(m model, mark string) (model, api.Errno) { return m.wrote("", mark[:n], true) }})
	}
	return list
}

// agrees reports whether all that d shows is what m holds.
func agrees(d *Disk, m model) bool {
	b, e := d.Read()
	if !m.power {
		return !d.Up() && len(b) == 0 && e == api.ErrDown
	}
	return d.Up() && string(b) == m.content && e == api.OK
}

func TestAllSequences(t *testing.T) {
	list := calls()
	marks := []string{"abcd", "efgh", "ijkl", "mnop", "qrst"}
	var follow func(m model, made []int)
	follow = func(m model, made []int) {
		if t.Failed() || len(made) == len(marks) {
			return
		}
		for c := range list {
			next, want := list[c].want(m, marks[len(made)])
			d := New(modelRoom)
			for i, earlier := range made {
				list[earlier].real(d, marks[i])
			}
			got := list[c].real(d, marks[len(made)])
			same := agrees(d, next)
			d.Start()
			if got != want || !same || !agrees(d, model{next.content, true, -1}) {
				t.Errorf("%v, then %s (%d): %d, want %d, %#v", made, list[c].name, c, got, want, next)
				return
			}
			follow(next, append(slices.Clone(made), c))
		}
	}
	follow(model{"", true, -1}, nil)
}

func FuzzSequence(f *testing.F) {
	f.Add([]byte{7, 9, 3, 11, 1, 4, 12, 1})
	list := calls()
	f.Fuzz(func(t *testing.T, script []byte) {
		d, m := New(modelRoom), model{"", true, -1}
		for i, x := range script {
			c := list[int(x)%len(list)]
			mark := strings.Repeat(string(rune('a'+i%26)), 4)
			var want api.Errno
			m, want = c.want(m, mark)
			if got := c.real(d, mark); got != want || !agrees(d, m) {
				t.Fatalf("call %d of %v: %d, want %d, %#v", i, script, got, want, m)
			}
		}
	})
}

// R5: one disk's state is not another's.
func TestDisksApart(t *testing.T) {
	a, b := New(4), New(2)
	a.Tear(1)
	checkError(t, b.Append([]byte("xy")), api.OK)
	checkError(t, a.Append([]byte("ab")), api.ErrDown)
	check(t, b, "xy")
	b.Crash()
	a.Start()
	checkOff(t, b)
	check(t, a, "a")
	checkError(t, a.Append([]byte("bcd")), api.OK)
	b.Start()
	check(t, b, "xy")
	check(t, a, "abcd")
}

// Many short writes fill the largest disk.
func TestManyWrites(t *testing.T) {
	d := New(math.MaxInt)
	piece := make([]byte, 1<<10)
	for i := range 1 << 14 {
		piece[0] = byte(i)
		if e := d.Append(piece); e != api.OK {
			t.Fatalf("write %d: %d", i, e)
		}
	}
	checkError(t, d.Append([]byte{1}), api.ErrFull)
	b, e := d.Read()
	if e != api.OK || len(b) != 1<<24 {
		t.Fatalf("%d bytes, %d", len(b), e)
	}
	for i := range 1 << 14 {
		if b[i<<10] != byte(i) {
			t.Fatalf("piece %d begins with %d", i, b[i<<10])
		}
	}
}
