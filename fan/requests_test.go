package fan

import (
	"bytes"
	"fmt"
	"math"
	"math/rand"
	"slices"
	"testing"

	"turnkey/api"
	"turnkey/disk"
	"turnkey/stack"
	"turnkey/wire"
)

// Each number of workers that the chapter tells apart, and those about the edges.
var crews = []int{math.MinInt, -1, 0, 1, 2, 3, 5, 15, 16, 17, 1 << 40, math.MaxInt}

func encoded(t *testing.T, q api.Request) []byte {
	t.Helper()
	b, e := wire.Encode(q)
	if e != api.OK {
		t.Fatalf("no request: %v: %d", q, e)
	}
	return b
}

func by(token string, kind int, name string) api.Request {
	return api.Request{Kind: kind, Tenant: name, Token: []byte(token)}
}

func makes(t *testing.T, name string) []byte {
	q := by("op", api.KindMake, name)
	q.Series, q.Samples = 50, 1000
	return encoded(t, q)
}

func grants(t *testing.T, name, token string, rights int) []byte {
	q := by("op", api.KindGrant, name)
	q.Bears, q.Rights = []byte(token), rights
	return encoded(t, q)
}

func writes(t *testing.T, name, value string, times ...int64) []byte {
	q := by("k", api.KindWrite, name)
	s := api.Series{Labels: []api.Label{{Name: "a", Value: value}}}
	for _, time := range times {
		s.Samples = append(s.Samples, api.Sample{T: time, V: uint64(time)})
	}
	q.Writes = []api.Series{s}
	return encoded(t, q)
}

func counts(t *testing.T, name string) []byte { return encoded(t, by("k", api.KindCount, name)) }

func queries(t *testing.T, name string) []byte {
	q := by("k", api.KindQuery, name)
	q.From, q.To = math.MinInt64, math.MaxInt64
	return encoded(t, q)
}

func asks(t *testing.T, name, question string) []byte {
	q := by("k", api.KindAsk, name)
	q.Question = question
	return encoded(t, q)
}

func answerOf(t *testing.T, r api.Response) []byte {
	t.Helper()
	b, e := wire.Answer(r)
	if e != api.OK {
		t.Fatalf("no answer: %v: %d", r, e)
	}
	return b
}

func done(t *testing.T) []byte { return answerOf(t, api.Response{}) }

func refused(t *testing.T, e api.Errno) []byte { return answerOf(t, api.Response{Err: e}) }

func opened(t *testing.T, d *disk.Disk) *stack.Stack {
	t.Helper()
	s, e := stack.Open(d, []byte("op"), 0)
	if e != api.OK {
		t.Fatalf("U1: Open: %d", e)
	}
	return s
}

// begun is a disk with the tenants t and u, for which k may all, and a stack on it.
func begun(t *testing.T, cap, slots int) (*disk.Disk, *stack.Stack) {
	t.Helper()
	d, _ := disk.New(2)
	if e := stack.Format(d, cap, slots); e != api.OK {
		t.Fatalf("U1: Format: %d", e)
	}
	s := opened(t, d)
	for _, name := range []string{"t", "u"} {
		for _, raw := range [][]byte{makes(t, name), grants(t, name, "k", 15)} {
			if b := s.Do(raw); !bytes.Equal(b, done(t)) {
				t.Fatalf("U2: Do: %x", b)
			}
		}
	}
	return d, s
}

// twin is the same, apart from then on.
func twin(t *testing.T, d *disk.Disk) (*disk.Disk, *stack.Stack) {
	t.Helper()
	d = d.Copy()
	return d, opened(t, d)
}

func pick[T any](r *rand.Rand, l ...T) T { return l[r.Intn(len(l))] }

// wrong is bytes that are no request.
func wrong(t *testing.T, r *rand.Rand) []byte {
	good := writes(t, "t", "x", 1<<50)
	switch r.Intn(6) {
	case 0:
		return nil
	case 1:
		return []byte{}
	case 2:
		return good[:r.Intn(len(good))]
	case 3:
		return append(good, byte(r.Intn(256)))
	case 4:
		return append(good, make([]byte, api.MaxRequest)...)
	}
	b := make([]byte, 1+r.Intn(40))
	r.Read(b)
	b[0] = pick[byte](r, 0, 8, 15, 20, 255)
	return b
}

// some is a request to a tenant, or what is none. Times are about a clock: some rise, others do not, as it comes.
func some(t *testing.T, r *rand.Rand, name string, clock int) []byte {
	switch r.Intn(16) {
	case 0:
		return makes(t, name)
	case 1:
		if r.Intn(5) == 0 {
			return encoded(t, pick(r, by("op", api.KindDrop, name), by("k", api.KindRemove, name)))
		}
		return grants(t, name, "k", 15)
	case 2, 3:
		return grants(t, name, pick(r, "k", "e", fmt.Sprint("g", r.Intn(30))), pick(r, 1, 6, 15))
	case 4:
		q := by("op", api.KindRevoke, name)
		q.Bears = []byte(pick(r, "e", fmt.Sprint("g", r.Intn(30))))
		return encoded(t, q)
	case 5:
		return counts(t, name)
	case 6:
		return queries(t, name)
	case 7:
		return asks(t, name, pick(r, "most by (a) {}", "count {}", "sum {}"))
	case 8:
		return encoded(t, by(pick(r, "z", "e"), api.KindNames, name))
	case 9, 10:
		return wrong(t, r)
	}
	from := int64(clock - r.Intn(5))
	return writes(t, name, pick(r, "x", "y", "z", fmt.Sprint(r.Intn(50))), from, from+1)
}

func someList(t *testing.T, r *rand.Rand, most int) [][]byte {
	var out [][]byte
	for clock := range r.Intn(most + 1) {
		out = append(out, some(t, r, pick(r, "t", "t", "u", "v"), clock))
	}
	return out
}

func someClients(t *testing.T, r *rand.Rand) [][][]byte {
	var out [][][]byte
	for range r.Intn(7) {
		out = append(out, someList(t, r, pick(r, 0, 1, 4, 20)))
	}
	return out
}

func deepClone(clients [][][]byte) [][][]byte {
	var out [][][]byte
	for _, l := range clients {
		var copied [][]byte
		for _, raw := range l {
			copied = append(copied, slices.Clone(raw))
		}
		out = append(out, copied)
	}
	return out
}
