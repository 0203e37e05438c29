// Package fields is what records and messages consist of: the limits of their
// fields, the fields as bytes, and copies of them.
package fields

import (
	"bytes"
	"math"
	"slices"

	"deadeye/api"
	"deadeye/pack"
)

// Within reports whether n is from least to most.
func Within(n, least, most int) bool { return n >= least && n <= most }

// All reports whether list has at most most items, all of them sound.
func All[T any](list []T, most int, sound func(T) bool) bool {
	unsound := func(item T) bool { return !sound(item) }
	return len(list) <= most && !slices.ContainsFunc(list, unsound)
}

// SoundPlace reports whether n may be a node, or a position.
func SoundPlace(n int) bool { return Within(n, 0, api.MaxNodes-1) }

// SoundParty reports whether n may be a node, the master or a client.
func SoundParty(n int) bool {
	return Within(n, api.Master-api.MaxClients, api.MaxNodes-1)
}

// SoundConf reports whether c may stand in a record or a message. It need not
// be the configuration of a cluster.
func SoundConf(c api.Conf) bool {
	return Within(c.Epoch, 0, api.MaxNum) && All(c.Members, api.MaxNodes, SoundPlace)
}

// Word returns n as four bytes, the most significant one first.
func Word(n uint32) []byte {
	return []byte{byte(n >> 24), byte(n >> 16), byte(n >> 8), byte(n)}
}

// Numbers returns the encodings of the numbers of list.
func Numbers(list ...int) []byte {
	var b []byte
	for _, n := range list {
		b = pack.Num(b, n)
	}
	return b
}

// Entry returns the encoding of e.
func Entry(e api.Entry) []byte {
	b := Numbers(e.Seq, e.Client, e.Num, e.Op, e.Size, int(e.Sum))
	b = pack.Text(b, []byte(e.Key))
	return pack.Text(b, e.Frag)
}

// List returns the number of items, followed by what encode makes of each by
// itself: pack copies what is ahead of a value, which would be all of a long
// list.
func List[T any](list []T, encode func(T) []byte) []byte {
	b := Numbers(len(list))
	for _, item := range list {
		b = append(b, encode(item)...)
	}
	return b
}

// ReadEntry returns what is next as an entry, which need not be sound. Sum is
// the one number that has to be bounded ahead of its conversion.
func ReadEntry(from *pack.Reader) api.Entry {
	number := (*pack.Reader).Num
	var e api.Entry
	e.Seq = number(from)
	e.Client = number(from)
	e.Num = number(from)
	e.Op = number(from)
	e.Size = number(from)
	e.Sum = uint32(from.Count(math.MaxUint32))
	e.Key = string(from.Text())
	e.Frag = from.Text()
	return e
}

// ReadList returns the next items, each taken by read. Their number is ahead of
// them, and is bounded here, as so many are made.
func ReadList[T any](from *pack.Reader, most int, read func(*pack.Reader) T) []T {
	var list []T
	for range from.Count(most) {
		list = append(list, read(from))
	}
	return list
}

// CopyConf returns c with members of its own.
func CopyConf(c api.Conf) api.Conf {
	c.Members = slices.Clone(c.Members)
	return c
}

// CopyEntry returns e with a fragment of its own.
func CopyEntry(e api.Entry) api.Entry {
	e.Frag = bytes.Clone(e.Frag)
	return e
}

// CopyEntries returns copies of the entries of list.
func CopyEntries(list []api.Entry) []api.Entry {
	list = slices.Clone(list)
	for i, e := range list {
		list[i] = CopyEntry(e)
	}
	return list
}
