package pack

import (
	"bytes"
	"encoding/binary"
	"math"
	"slices"
	"strings"
	"testing"
)

// numbers are those around which the length of the encoding changes, on both
// sides of 0, and the extreme ones.
func numbers() []int {
	list := []int{0, math.MaxInt, math.MaxInt - 1, math.MinInt, math.MinInt + 1}
	for bit := range 63 {
		for near := -2; near <= 2; near++ {
			list = append(list, 1<<bit+near, -(1<<bit)+near)
		}
	}
	return list
}

// oneNumber returns the number whose encoding b begins with, and its length;
// the length 0 if there is none. It takes the library's varints, which are the
// same but may be longer than necessary.
func oneNumber(b []byte) (int, int) {
	n, length := binary.Varint(b)
	if length <= 0 || len(binary.AppendVarint(nil, n)) != length {
		return 0, 0
	}
	return int(n), length
}

// dead reports whether r is invalid: nothing is left, whatever is read.
func dead(r *Reader) bool {
	return !r.End() && r.Num() == 0 && len(r.Text()) == 0 && r.Count(math.MaxInt) == 0 && r.Count(-1) == 0 && !r.End()
}

// unfinished are the beginnings of encodings of numbers.
func unfinished() []string {
	return []string{"", "\x80", "\xff", "\x81\x80", strings.Repeat("\xff", 9), strings.Repeat("\x80", 9)}
}

// wrongNumbers are no encodings of numbers, whatever follows: the ones are
// longer than necessary, the others have more than 64 bits.
func wrongNumbers() []string {
	ones, zeros := strings.Repeat("\xff", 9), strings.Repeat("\x80", 9)
	return []string{
		"\x80\x00", "\x81\x00", "\xff\x00", "\x80\x80\x00", "\xff\xff\x00", ones + "\x00", zeros + "\x00",
		ones + "\x02", zeros + "\x02", zeros + "\x03", ones + "\x7f", zeros + "\x40",
		ones + "\x80", zeros + "\x80", ones + "\xff", zeros + "\x80\x00", zeros + "\x81\x00", ones + "\x81\x01", ones + "\xff\x00", ones + "\xff\x01",
		strings.Repeat("\x80", 1000), strings.Repeat("\xff", 1000) + "\x01", strings.Repeat("\x80", 20) + "\x00",
	}
}

// P5.1

func TestNumKnown(t *testing.T) {
	for _, c := range []struct {
		n    int
		want string
	}{
		{0, "\x00"}, {-1, "\x01"}, {1, "\x02"}, {-2, "\x03"}, {2, "\x04"},
		{63, "\x7e"}, {-64, "\x7f"}, {64, "\x80\x01"}, {-65, "\x81\x01"}, {65, "\x82\x01"},
		{150, "\xac\x02"}, {8191, "\xfe\x7f"}, {-8192, "\xff\x7f"}, {8192, "\x80\x80\x01"}, {-8193, "\x81\x80\x01"},
		{1 << 40, "\x80\x80\x80\x80\x80\x40"},
		{1 << 62, "\x80\x80\x80\x80\x80\x80\x80\x80\x80\x01"}, {1<<62 - 1, "\xfe\xff\xff\xff\xff\xff\xff\xff\x7f"},
		{math.MaxInt, "\xfe\xff\xff\xff\xff\xff\xff\xff\xff\x01"},
		{math.MinInt, "\xff\xff\xff\xff\xff\xff\xff\xff\xff\x01"},
	} {
		if got := Num(nil, c.n); string(got) != c.want {
			t.Errorf("Num(nil, %d) = %x, want %x", c.n, got, c.want)
		}
	}
}

func TestNumBehindBytes(t *testing.T) {
	for _, before := range []string{"", "x", "\x80", strings.Repeat("\xff\x00", 500)} {
		for _, n := range numbers() {
			want := binary.AppendVarint([]byte(before), int64(n))
			if got := Num([]byte(before), n); !bytes.Equal(got, want) {
				t.Errorf("Num(%x, %d) = %x, want %x", before, n, got, want)
			}
		}
	}
}

func TestTextKnown(t *testing.T) {
	for _, c := range []struct{ before, text, want string }{
		{"", "", "\x00"}, {"x", "", "x\x00"}, {"", "a", "\x02a"}, {"", "hello", "\x0ahello"},
		{"\x80", "\x00\xff", "\x80\x04\x00\xff"}, {"", "\x80", "\x02\x80"},
		{"ab", strings.Repeat("c", 63), "ab\x7e" + strings.Repeat("c", 63)},
		{"ab", strings.Repeat("c", 64), "ab\x80\x01" + strings.Repeat("c", 64)},
		{"", strings.Repeat("d", 8192), "\x80\x80\x01" + strings.Repeat("d", 8192)},
	} {
		if got := Text([]byte(c.before), []byte(c.text)); string(got) != c.want {
			t.Errorf("Text(%q, %q) = %q, want %q", c.before, c.text, got, c.want)
		}
	}
	if got := Text(nil, nil); string(got) != "\x00" {
		t.Errorf("Text(nil, nil) = %x", got)
	}
}

func TestWritersLeaveArguments(t *testing.T) {
	base := append([]byte("base"), bytes.Repeat([]byte{77}, 40)...)
	text := append([]byte("text"), bytes.Repeat([]byte{78}, 40)...)
	first := Num(base[:4], 1<<30)
	second := Text(base[:4], text[:4])
	if !bytes.Equal(base[4:], bytes.Repeat([]byte{77}, 40)) || !bytes.Equal(text[4:], bytes.Repeat([]byte{78}, 40)) {
		t.Errorf("the capacity behind an argument was changed: %v, %v", base, text)
	}
	base[0], text[0] = 'X', 'X'
	if string(first[:4]) != "base" || string(second) != "base\x08text" {
		t.Errorf("a result shares memory with an argument: %q, %q", first, second)
	}
	for _, got := range [][]byte{first, second} {
		clear(got[:cap(got)])
	}
	if string(base[:4]) != "Xase" || string(text[:4]) != "Xext" || bytes.Contains(base, []byte{0}) || bytes.Contains(text, []byte{0}) {
		t.Errorf("a result shares memory with an argument: %q, %q", base, text)
	}
}

func TestWritersResultsApart(t *testing.T) {
	base := Num(nil, 5)
	first, second := Num(base, 1), Num(base, 2)
	third, fourth := Text(base, []byte("a")), Text(base, []byte("b"))
	if string(first) != "\x0a\x02" || string(second) != "\x0a\x04" || string(third) != "\x0a\x02a" || string(fourth) != "\x0a\x02b" {
		t.Errorf("results share memory: %q, %q, %q, %q", first, second, third, fourth)
	}
	clear(first[:cap(first)])
	if string(base) != "\x0a" || string(second) != "\x0a\x04" {
		t.Errorf("results share memory: %q, %q", base, second)
	}
}

// P5.2

func TestReadNumbers(t *testing.T) {
	list := numbers()
	var all []byte
	for _, n := range list {
		b := Num(nil, n)
		all = append(all, b...)
		r := New(b)
		if got := r.Num(); got != n || !r.End() {
			t.Errorf("%x: Num() = %d, End() = %t, want %d", b, got, r.End(), n)
		}
		for cut := range b {
			if r := New(b[:cut]); r.Num() != 0 || !dead(r) {
				t.Errorf("%x, the beginning of %d's encoding, was read", b[:cut], n)
			}
		}
	}
	r := New(all)
	for i, n := range list {
		if r.End() {
			t.Fatalf("End() before number %d", i)
		}
		if got := r.Num(); got != n {
			t.Fatalf("number %d = %d, want %d", i, got, n)
		}
	}
	if !r.End() {
		t.Error("End() = false behind all numbers")
	}
	if r.Num() != 0 || !dead(r) {
		t.Error("a number was read behind all numbers")
	}
}

func TestReadEveryShortString(t *testing.T) {
	var list [][]byte
	for i := range 256 {
		list = append(list, []byte{byte(i)})
		for j := range 256 {
			list = append(list, []byte{byte(i), byte(j)})
			for _, k := range []byte{0, 1, 2, 127, 128, 255} {
				list = append(list, []byte{byte(i), byte(j), k}, []byte{128, byte(i), byte(j), k})
			}
		}
	}
	for _, b := range list {
		checkNum(t, b)
		checkText(t, b)
	}
}

func TestReadLastByte(t *testing.T) {
	for _, filler := range []byte{128, 129, 255} {
		for length := range 12 {
			for last := range 256 {
				b := append(bytes.Repeat([]byte{filler}, length), byte(last))
				checkNum(t, b)
				checkNum(t, append(b, 0))
				checkNum(t, append(b, 1, 1))
			}
		}
	}
}

// checkNum reads a number from b, and checks what is left behind it.
func checkNum(t *testing.T, b []byte) {
	t.Helper()
	n, length := oneNumber(b)
	r := New(b)
	if got := r.Num(); got != n {
		t.Fatalf("%x: Num() = %d, want %d", b, got, n)
	}
	if length == 0 {
		if !dead(r) {
			t.Fatalf("%x: valid behind a wrong number", b)
		}
		return
	}
	checkRest(t, b, b[length:], r)
}

// checkText reads a string from b, and checks what is left behind it.
func checkText(t *testing.T, b []byte) {
	t.Helper()
	n, length := oneNumber(b)
	r := New(b)
	got := r.Text()
	if length == 0 || n < 0 || n > len(b)-length {
		if len(got) != 0 || !dead(r) {
			t.Fatalf("%x: Text() = %x, or valid behind it", b, got)
		}
		return
	}
	if want := b[length : length+n]; !bytes.Equal(got, want) {
		t.Fatalf("%x: Text() = %x, want %x", b, got, want)
	}
	checkRest(t, b, b[length+n:], r)
}

// checkRest reads the next number of what is left of b.
func checkRest(t *testing.T, b, rest []byte, r *Reader) {
	t.Helper()
	if r.End() != (len(rest) == 0) {
		t.Fatalf("%x: End() = %t before %x", b, r.End(), rest)
	}
	n, length := oneNumber(rest)
	if got := r.Num(); got != n || r.End() != (length > 0 && length == len(rest)) {
		t.Fatalf("%x: Num() = %d and End() = %t before %x", b, got, r.End(), rest)
	}
}

func TestWrongNumbers(t *testing.T) {
	for _, s := range unfinished() {
		checkDead(t, s)
	}
	for _, s := range wrongNumbers() {
		for _, behind := range []string{"", "\x00", "\x02\x02\x02"} {
			checkDead(t, s+behind)
		}
	}
}

// checkDead checks that nothing can be read from s.
func checkDead(t *testing.T, s string) {
	t.Helper()
	if r := New([]byte(s)); r.Num() != 0 || !dead(r) {
		t.Errorf("%x: Num() read it", s)
	}
	if r := New([]byte(s)); len(r.Text()) != 0 || !dead(r) {
		t.Errorf("%x: Text() read it", s)
	}
	if r := New([]byte(s)); r.Count(math.MaxInt) != 0 || !dead(r) {
		t.Errorf("%x: Count() read it", s)
	}
}

func TestReadTexts(t *testing.T) {
	var all []byte
	var list [][]byte
	for _, length := range []int{0, 1, 2, 63, 64, 65, 0, 255, 256, 8191, 8192, 100000, 0} {
		text := bytes.Repeat([]byte{byte(length), 128, 0}, length)[:length]
		list = append(list, text)
		all = append(all, Text(nil, text)...)
	}
	r := New(all)
	for i, want := range list {
		if r.End() {
			t.Fatalf("End() before string %d", i)
		}
		if got := r.Text(); !bytes.Equal(got, want) {
			t.Fatalf("string %d has %d bytes, or others, want %d", i, len(got), len(want))
		}
	}
	if !r.End() {
		t.Error("End() = false behind all strings")
	}
	if len(r.Text()) != 0 || !dead(r) {
		t.Error("a string was read behind all strings")
	}
}

func TestWrongTexts(t *testing.T) {
	for _, length := range []int{-1, -2, -64, -65, math.MinInt, math.MinInt + 1, 4, 5, 64, 1 << 31, 1 << 32, 1 << 62, math.MaxInt} {
		b := Num(nil, length)
		for _, text := range []string{"", "a", "\x00\x00", "\x02\x02\x02"} {
			if r := New(append(slices.Clone(b), text...)); len(r.Text()) != 0 || !dead(r) {
				t.Errorf("a string of length %d was read from %d bytes", length, len(text))
			}
		}
	}
	whole := Text(nil, bytes.Repeat([]byte{2}, 200))
	for cut := range whole {
		if r := New(whole[:cut]); len(r.Text()) != 0 || !dead(r) {
			t.Errorf("a string of 200 bytes was read from %d bytes with its length", cut)
		}
	}
	// The bytes of the length do not count as remaining.
	if r := New([]byte("\x06ab")); len(r.Text()) != 0 || !dead(r) {
		t.Error("a string of 3 bytes was read from 2")
	}
	// A length that is longer than necessary, with enough bytes behind it.
	if r := New([]byte("\x82\x00ab")); len(r.Text()) != 0 || !dead(r) {
		t.Error("a string was read whose length is not as short as possible")
	}
}

func TestCount(t *testing.T) {
	for _, n := range append(numbers(), 3, 4, 5) {
		for _, most := range []int{0, 1, 3, 4, 255, 4096, 1 << 40, math.MaxInt, math.MaxInt - 1, -1, -2, -4096, math.MinInt} {
			r := New(append(Num(nil, n), 6))
			got := r.Count(most)
			if n < 0 || n > most {
				if got != 0 || !dead(r) {
					t.Errorf("Count(%d) of %d = %d, or valid behind it", most, n, got)
				}
				continue
			}
			if got != n || r.End() || r.Num() != 3 || !r.End() {
				t.Errorf("Count(%d) of %d = %d, or invalid behind it", most, n, got)
			}
		}
	}
	for _, most := range []int{0, 5, -1, math.MaxInt, math.MinInt} {
		if r := New(nil); r.Count(most) != 0 || !dead(r) {
			t.Errorf("Count(%d) of nothing was read", most)
		}
	}
}

func TestReadMixed(t *testing.T) {
	b := Num(Text(Num(Text(Num(nil, -7), []byte("key")), 3), nil), math.MinInt)
	r := New(b)
	if n, s := r.Num(), r.Text(); n != -7 || string(s) != "key" {
		t.Errorf("read %d and %q", n, s)
	}
	if n, s := r.Count(3), r.Text(); n != 3 || len(s) != 0 || r.End() {
		t.Errorf("read %d and %q, End() = %t", n, s, r.End())
	}
	if n := r.Num(); n != math.MinInt || !r.End() || !r.End() {
		t.Errorf("read %d, End() = %t", n, r.End())
	}
}

func TestEnd(t *testing.T) {
	for _, b := range [][]byte{nil, {}} {
		if !New(b).End() {
			t.Errorf("New(%#v).End() = false", b)
		}
	}
	for _, s := range []string{"\x00", "\x80", "\x02\x04"} {
		r := New([]byte(s))
		if r.End() || r.End() {
			t.Errorf("New(%x).End() = true", s)
		}
		// End reads nothing.
		if got := New([]byte(s)).Num(); r.Num() != got {
			t.Errorf("End() moved a Reader of %x", s)
		}
	}
	// What was right before the fault does not make up for it.
	r := New([]byte("\x02\x04\x80"))
	if r.Num() != 1 || r.Num() != 2 || r.Num() != 0 || !dead(r) {
		t.Error("a Reader is valid behind a fault")
	}
}

func TestNilReader(t *testing.T) {
	var r *Reader
	if r.Num() != 0 || len(r.Text()) != 0 || r.End() {
		t.Error("a nil Reader returns more than 0, nil and false")
	}
	for _, most := range []int{0, 1, -1, math.MaxInt, math.MinInt} {
		if r.Count(most) != 0 || r.End() {
			t.Errorf("a nil Reader counts up to %d", most)
		}
	}
}

func TestReaderMemory(t *testing.T) {
	whole := Num(Text(Text(nil, []byte("first")), []byte("second")), 9)
	b := append(slices.Clone(whole), 77, 77, 77)
	r := New(b[:len(whole)])
	clear(b)
	first := r.Text()
	if string(first) != "first" {
		t.Fatalf("a Reader keeps its argument: %q", first)
	}
	clear(first[:cap(first)])
	second := r.Text()
	if string(second) != "second" {
		t.Fatalf("a string shares memory with the Reader: %q", second)
	}
	first = append(first, "more than fits"...)
	if n := r.Num(); n != 9 || !r.End() || string(second) != "second" {
		t.Errorf("a string shares memory with others: %q, %d", second, n)
	}
}

func TestReaderLeavesArgument(t *testing.T) {
	whole := Num(Text(nil, []byte("text")), 9)
	b := append(slices.Clone(whole), 77, 77, 77)
	r := New(b[:len(whole)])
	text := r.Text()
	clear(text[:cap(text)])
	if r.Num() != 9 || r.Num() != 0 {
		t.Error("the capacity behind the argument was read")
	}
	if !bytes.Equal(b, append(slices.Clone(whole), 77, 77, 77)) {
		t.Errorf("the argument was changed: %x", b)
	}
}

func TestReadersApart(t *testing.T) {
	b := Num(Num(nil, 1), 2)
	one, other := New(b), New(b)
	if one.Num() != 1 || one.Count(1) != 0 || one.End() {
		t.Error("the first Reader is not at its fault")
	}
	if other.Num() != 1 || other.Num() != 2 || !other.End() {
		t.Error("a Reader was moved by another one")
	}
}

func FuzzReader(f *testing.F) {
	f.Add([]byte("\x0ahello\x00"), 5)
	f.Add([]byte("\xff\xff\xff\xff\xff\xff\xff\xff\xff\x01"), 0)
	f.Add([]byte("\x80\x00"), -1)
	f.Fuzz(func(t *testing.T, b []byte, n int) {
		checkNum(t, b)
		checkText(t, b)
		r := New(Text(Num(nil, n), b))
		if got := r.Num(); got != n {
			t.Errorf("Num() = %d, want %d", got, n)
		}
		if got := r.Text(); !bytes.Equal(got, b) || !r.End() {
			t.Errorf("Text() = %x, want %x", got, b)
		}
	})
}
