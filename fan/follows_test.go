package fan

import (
	"fmt"
	"math/rand"
	"slices"
	"testing"
)

// All of a list, and then All of another one, is All of both.
func TestAllBehindAll(t *testing.T) {
	for seed := range int64(20) {
		r := rand.New(rand.NewSource(seed))
		first, _ := begun(t, 4096, 10)
		one, other := someList(t, r, 40), someList(t, r, 40)
		plain, s := twin(t, first)
		want := All(s, slices.Concat(one, other), pick(r, crews...))
		d, s := twin(t, first)
		got := slices.Concat(All(s, one, pick(r, crews...)), All(s, other, pick(r, crews...)))
		holds(t, fmt.Sprintf("V1: seed %d", seed), [][][]byte{got}, [][][]byte{want}, d, plain)
	}
}

// Round of one client is All; Serve that never stops is Round.
func TestOneClientAndNoStop(t *testing.T) {
	for seed := range int64(20) {
		r := rand.New(rand.NewSource(seed))
		first, _ := begun(t, 4096, 10)
		l := someList(t, r, 40)
		plain, s := twin(t, first)
		want := All(s, l, pick(r, crews...))
		d, s := twin(t, first)
		holds(t, fmt.Sprintf("V2: seed %d", seed), Round(s, [][][]byte{l}, pick(r, crews...)), [][][]byte{want}, d, plain)

		clients := someClients(t, r)
		plain, s = twin(t, first)
		rounds := Round(s, clients, pick(r, crews...))
		d, s = twin(t, first)
		holds(t, fmt.Sprintf("V3: seed %d", seed), Serve(s, clients, pick(r, -1, -9, 1<<30)), rounds, d, plain)
	}
}

// A tenant whose requests stand in the same order is answered the same, whoever asks between; the pool and the log have room for all.
func TestApart(t *testing.T) {
	unlike := 0
	for seed := range int64(20) {
		r := rand.New(rand.NewSource(seed))
		first, _ := begun(t, 1<<20, 1000)
		var mine [][]byte
		for clock := range 60 {
			mine = append(mine, some(t, r, "t", clock))
		}
		var told [2][][]byte
		var others [2][][][]byte
		for i := range told {
			clients := [][][]byte{}
			for range r.Intn(5) {
				var l [][]byte
				for clock := range r.Intn(80) {
					l = append(l, some(t, r, pick(r, "u", "v"), clock))
				}
				clients = append(clients, l)
			}
			at := r.Intn(len(clients) + 1)
			_, s := twin(t, first)
			got := Round(s, slices.Insert(clients, at, mine), pick(r, crews...))
			told[i] = got[at]
			others[i] = slices.Delete(got, at, at+1)
		}
		if !sameAnswers(told[0], told[1]) {
			t.Errorf("P7: seed %d: t is answered %x and %x", seed, told[0], told[1])
		}
		if !sameRounds(others[0], others[1]) {
			unlike++
		}
	}
	if unlike < 15 {
		t.Errorf("only %d times others asked otherwise", unlike)
	}
}
