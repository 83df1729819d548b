package frame

import (
	"bytes"
	"encoding/binary"
	"hash/crc32"
	"math"
	"math/rand"
	"testing"

	"turnkey/api"
)

const mostData = 4194304

// framed: the frame of chapter 5, by the library's sum, apart from how the program makes it.
func framed(kind byte, data []byte) []byte {
	out := []byte{kind}
	out = binary.LittleEndian.AppendUint32(out, uint32(len(data)))
	out = append(out, data...)
	return binary.LittleEndian.AppendUint32(out, crc32.ChecksumIEEE(out))
}

// beginning: Get as chapter 5 says it: whether a beginning is the frame of some kind and data, each beginning being tried.
func beginning(b []byte) (byte, []byte, int) {
	for n := 9; n <= len(b); n++ {
		data := b[5 : n-4]
		if bytes.Equal(b[:n], framed(b[0], data)) {
			return b[0], data, n
		}
	}
	return 0, nil, 0
}

// declaring: bytes whose sum is right, of so many bytes of data, but which say another length.
func declaring(length uint32, data []byte) []byte {
	out := []byte{1}
	out = binary.LittleEndian.AppendUint32(out, length)
	out = append(out, data...)
	return binary.LittleEndian.AppendUint32(out, crc32.ChecksumIEEE(out))
}

func noise(r *rand.Rand, n int) []byte {
	b := make([]byte, n)
	r.Read(b)
	return b
}

// gives fails if Get of some bytes is not this.
func gives(t *testing.T, what string, b []byte, kind byte, data []byte, n int) {
	t.Helper()
	k, d, m := Get(b)
	if k != kind || !bytes.Equal(d, data) || m != n {
		t.Fatalf("Get of %s: %d, %d bytes of data, %d; want %d, %d bytes of data, %d", what, k, len(d), m, kind, len(data), n)
	}
	if m == 0 && d != nil {
		t.Fatalf("Get of %s: there is no frame, but data that is not nil", what)
	}
}

func TestSize(t *testing.T) {
	for n, want := range map[int]int{
		0: 9, 1: 10, 2: 11, 255: 264, 65536: 65545, mostData - 1: mostData + 8, mostData: mostData + 9,
		mostData + 1: 0, 1 << 32: 0, 1<<32 + 2: 0, math.MaxInt: 0, math.MaxInt - 8: 0, -1: 0, -9: 0, -10: 0, math.MinInt: 0,
	} {
		if got := Size(n); got != want {
			t.Errorf("Size(%d): %d, want %d", n, got, want)
		}
	}
}

func TestExamples(t *testing.T) {
	b, e := Put(nil, 7, []byte("ab"))
	if e != api.OK || !bytes.Equal(b[:7], []byte{7, 2, 0, 0, 0, 'a', 'b'}) || len(b) != Size(2) {
		t.Fatalf("Put: %x, %d", b, e)
	}
	if of := crc32.ChecksumIEEE(b[:7]); binary.LittleEndian.Uint32(b[7:]) != of {
		t.Fatalf("Put: %x, want the sum %x, the lowest byte first", b, of)
	}
	gives(t, "the first 10 bytes", b[:10], 0, nil, 0)
	gives(t, "all 11 bytes", b, 7, []byte("ab"), 11)
	gives(t, "them and others", append(bytes.Clone(b), 7, 2, 0), 7, []byte("ab"), 11)
	gives(t, "noughts", make([]byte, 99), 0, nil, 0)
	gives(t, "nothing", nil, 0, nil, 0)
	if b, e := Put(nil, 0, nil); e != api.OK || len(b) != 9 {
		t.Fatalf("Put of no data: %x, %d", b, e)
	}
}

func TestPutOfAllKindsAndManyLengths(t *testing.T) {
	r := rand.New(rand.NewSource(1))
	lengths := []int{0, 1, 2, 3, 4, 5, 127, 128, 255, 256, 257, 65535, 65536, 65537}
	for kind := range 256 {
		lengths = append(lengths, r.Intn(300))
		data, ahead := noise(r, lengths[kind%len(lengths)]), noise(r, r.Intn(20))
		frame := framed(byte(kind), data)
		got, e := Put(ahead, byte(kind), data)
		if e != api.OK || !bytes.Equal(got, append(bytes.Clone(ahead), frame...)) {
			t.Fatalf("Put of the kind %d and %d bytes: %d", kind, len(data), e)
		}
		gives(t, "a frame and whatever stands behind", append(got[len(ahead):], noise(r, r.Intn(20))...), byte(kind), data, Size(len(data)))
	}
}

func TestMostData(t *testing.T) {
	data := noise(rand.New(rand.NewSource(2)), mostData+1)
	for _, n := range []int{mostData - 1, mostData} {
		b, e := Put([]byte{9}, 5, data[:n])
		if e != api.OK || !bytes.Equal(b, append([]byte{9}, framed(5, data[:n])...)) {
			t.Fatalf("Put of %d bytes: %d bytes, %d", n, len(b), e)
		}
		gives(t, "the greatest", b[1:], 5, data[:n], n+9)
		gives(t, "the greatest, cut off", b[1:len(b)-1], 0, nil, 0)
	}
	for _, ahead := range [][]byte{nil, {}, {1, 2}} {
		if b, e := Put(ahead, 5, data); b != nil || e != api.ErrFrame {
			t.Fatalf("Put of a byte too many: %d bytes, %d", len(b), e)
		}
	}
	// The sum is right, and all bytes are there: only the length is above what a frame has.
	gives(t, "a frame that is too long", framed(5, data), 0, nil, 0)
}

func TestLengthsThatAreNotThere(t *testing.T) {
	r := rand.New(rand.NewSource(3))
	for _, length := range []uint32{0, 1, 3, 4, 5, 8, 9, 20, 256, 65536, 1 << 24, mostData, mostData + 1, 1<<31 - 9, 1<<31 - 1, 1 << 31, math.MaxUint32 - 8, math.MaxUint32} {
		for n := range 12 {
			data := noise(r, n)
			if int(length) == n {
				continue
			}
			b := declaring(length, data)
			kind, want, size := beginning(b)
			gives(t, "a length that is not there", b, kind, want, size)
		}
	}
}

func TestBeginningsAndTurnedBytes(t *testing.T) {
	r := rand.New(rand.NewSource(4))
	for _, n := range []int{0, 1, 2, 9, 40} {
		b := framed(byte(n), noise(r, n))
		for i := range b {
			gives(t, "a beginning", b[:i], 0, nil, 0)
			for bit := 1; bit < 256; bit++ {
				c := append(bytes.Clone(b), noise(r, 30)...)
				c[i] ^= byte(bit)
				if _, _, m := Get(c); m == len(b) {
					t.Fatalf("the byte %d of %d is turned by %x: taken", i, len(b), bit)
				}
			}
		}
	}
}

// A cut-off frame whose sum happens to be right for what is left of it is none, as its length says.
func TestCutOffWithARightSum(t *testing.T) {
	whole := framed(2, []byte("abcdefgh"))
	for n := 5; n < len(whole); n++ {
		cut := binary.LittleEndian.AppendUint32(bytes.Clone(whole[:n]), crc32.ChecksumIEEE(whole[:n]))
		kind, data, size := beginning(cut)
		gives(t, "a frame that is cut off, with a sum", cut, kind, data, size)
	}
}

func TestGetOfNoise(t *testing.T) {
	r := rand.New(rand.NewSource(5))
	for range 20000 {
		b := noise(r, r.Intn(24))
		if len(b) > 4 && r.Intn(2) == 0 {
			b[1], b[2], b[3], b[4] = byte(r.Intn(24)), 0, 0, 0
		}
		if r.Intn(3) == 0 {
			b = append(framed(byte(r.Intn(4)), noise(r, r.Intn(5))), b...)
			b[r.Intn(len(b))] ^= byte(r.Intn(3))
		}
		kind, data, n := beginning(b)
		gives(t, "noise", b, kind, data, n)
	}
}

func TestNothingHandedInIsWritten(t *testing.T) {
	room := bytes.Repeat([]byte{'r'}, 64)
	ahead, data := room[:3:40], room[40:43:64]
	for range 2 {
		one, _ := Put(ahead, 1, data)
		two, _ := Put(ahead, 2, data)
		if one[3] != 1 || two[3] != 2 {
			t.Fatalf("two answers share memory: %x, %x", one, two)
		}
		scribble(one)
		scribble(two)
		_, got, _ := Get(framed(1, data))
		scribble(got)
	}
	if !bytes.Equal(room, bytes.Repeat([]byte{'r'}, 64)) {
		t.Fatalf("what was handed in was written into: %q", room)
	}
}

func TestDataIsTheCallers(t *testing.T) {
	b := append(framed(1, []byte("abc")), framed(2, []byte("d"))...)
	was := bytes.Clone(b)
	_, one, _ := Get(b)
	_, two, _ := Get(b)
	scribble(one)
	if string(two) != "abc" || !bytes.Equal(b, was) {
		t.Fatalf("behind writing into data: %q, %x", two, b)
	}
	scribble(b)
	if string(two) != "abc" {
		t.Fatalf("data is the bytes' own: %q", two)
	}
}

// scribble writes over a list and its spare room, as its owner may.
func scribble(b []byte) {
	b = b[:cap(b)]
	for i := range b {
		b[i] = 'x'
	}
}
