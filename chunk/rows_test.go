package chunk

import (
	"encoding/binary"
	"fmt"
	"math/big"
	"math/rand"
	"strconv"
	"strings"
	"testing"

	"turnkey/api"
)

// lowBits: the lowest n bits of a number as text, the highest of them first.
func lowBits(v uint64, n int) string {
	return fmt.Sprintf("%064b", v)[64-n:]
}

// wrapped: a number modulo 2^64, read as an int64.
func wrapped(n *big.Int) *big.Int {
	half, whole := new(big.Int).Lsh(big.NewInt(1), 63), new(big.Int).Lsh(big.NewInt(1), 64)
	out := new(big.Int).Mod(new(big.Int).Add(n, half), whole)
	return out.Sub(out, half)
}

// stepByTheWords: how far one time is from the one ahead.
func stepByTheWords(from, to int64) *big.Int {
	return wrapped(new(big.Int).Sub(big.NewInt(to), big.NewInt(from)))
}

// timeByTheWords: chapter 10's table.
func timeByTheWords(d int64) string {
	switch {
	case d == 0:
		return "0"
	case d >= -64 && d <= 63:
		return "10" + lowBits(uint64(d), 7)
	case d >= -256 && d <= 255:
		return "110" + lowBits(uint64(d), 9)
	case d >= -2048 && d <= 2047:
		return "1110" + lowBits(uint64(d), 12)
	}
	return "1111" + lowBits(uint64(d), 64)
}

func valueByTheWords(x uint64) string {
	if x == 0 {
		return "0"
	}
	fromFirst := strconv.FormatUint(x, 2)
	toLast := strings.TrimRight(fromFirst, "0")
	return "1" + lowBits(uint64(64-len(fromFirst)), 6) + lowBits(uint64(len(toLast)-1), 6) + toLast
}

// rowByTheWords: the bits of some samples as text.
func rowByTheWords(l []api.Sample) string {
	var out strings.Builder
	before := new(big.Int)
	for i, s := range l {
		if i == 0 {
			out.WriteString(lowBits(uint64(s.T), 64) + lowBits(s.V, 64))
			continue
		}
		step := stepByTheWords(l[i-1].T, s.T)
		out.WriteString(timeByTheWords(wrapped(new(big.Int).Sub(step, before)).Int64()))
		out.WriteString(valueByTheWords(s.V ^ l[i-1].V))
		before = step
	}
	return out.String()
}

// bytesOf: so many samples, and a row, as bytes, with noughts up to a whole byte.
func bytesOf(count uint64, row string) []byte {
	out := binary.AppendUvarint(nil, count)
	for len(row) > 0 {
		piece := (row + "0000000")[:8]
		n, err := strconv.ParseUint(piece, 2, 8)
		if err != nil {
			panic(err)
		}
		out = append(out, byte(n))
		row = row[min(8, len(row)):]
	}
	return out
}

func bytesByTheWords(l []api.Sample) []byte {
	if len(l) == 0 {
		return nil
	}
	return bytesOf(uint64(len(l)), rowByTheWords(l))
}

func sizeByTheWords(l []api.Sample) int {
	if len(l) == 0 {
		return 0
	}
	return len(binary.AppendUvarint(nil, uint64(len(l)))) + (len(rowByTheWords(l))+7)/8
}

// chunkOf: one that takes all of them.
func chunkOf(t *testing.T, l []api.Sample) *Chunk {
	t.Helper()
	c := New(1 << 30)
	for i, s := range l {
		if !c.Append(s.T, s.V) {
			t.Fatalf("J1: sample %d did not go in", i)
		}
	}
	return c
}

// edges: differences at which the table's lines end, and those of the numbers themselves.
func edges() []int64 {
	return []int64{
		0, 1, -1, 2, 62, 63, 64, 65, -63, -64, -65, -66, 127, 128, -128, -129, 254, 255, 256, 257, -255, -256, -257, -258,
		511, 512, -512, 2046, 2047, 2048, 2049, -2047, -2048, -2049, -2050, 4095, 4096, 1 << 31, -1 << 31, 1 << 32,
		1 << 62, -1 << 62, 1<<63 - 1, 1<<63 - 2, -1 << 63, -1<<63 + 1,
	}
}

// someRun: samples of all the kinds that the form tells apart.
func someRun(r *rand.Rand, n int) []api.Sample {
	var out []api.Sample
	all := edges()
	at, step, v := int64(r.Uint64()), int64(0), r.Uint64()
	for range n {
		out = append(out, api.Sample{T: at, V: v})
		switch r.Intn(4) {
		case 0:
			step += all[r.Intn(len(all))]
		case 1:
			step += int64(r.Intn(6000) - 3000)
		}
		switch r.Intn(4) {
		case 0:
			v ^= 1 << r.Intn(64)
		case 1:
			v ^= r.Uint64() >> r.Intn(64) << r.Intn(64)
		case 2:
			v ^= r.Uint64()
		}
		at += step
	}
	return out
}
