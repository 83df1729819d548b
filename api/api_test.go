package api

import (
	"errors"
	"testing"
)

func TestErrnoIsAnError(t *testing.T) {
	var err error = ErrToken
	if err.Error() != "turnkey: error 160" || !errors.Is(err, ErrToken) || errors.Is(err, ErrRight) {
		t.Errorf("P5: ErrToken is %v", err)
	}
}

func TestFaultWrapsItsNumber(t *testing.T) {
	var err error = &Fault{At: 7, Err: ErrMatch}
	var number Errno
	var fault *Fault
	if !errors.Is(err, ErrMatch) || errors.Is(err, ErrAsk) || !errors.As(err, &number) || number != ErrMatch {
		t.Errorf("P5: a fault wraps %v", number)
	}
	if !errors.As(err, &fault) || fault.At != 7 || err.Error() != "turnkey: error 90 at 7" {
		t.Errorf("P5: a fault is %v", err)
	}
}

func TestErrorsAreAsGiven(t *testing.T) {
	given := map[Errno]int{
		OK: 0, ErrArg: 1, ErrState: 2, ErrDead: 40, ErrFull: 41, ErrFrame: 50, ErrLog: 60, ErrFormat: 61, ErrBroken: 62,
		ErrLabels: 70, ErrPattern: 80, ErrMatch: 90, ErrChunk: 100, ErrPool: 110, ErrSlot: 111, ErrStale: 140,
		ErrSeries: 150, ErrQuota: 151, ErrLimit: 152, ErrToken: 160, ErrRight: 161, ErrMany: 162, ErrKnown: 163, ErrSave: 164,
		ErrName: 170, ErrTenant: 171, ErrWire: 180, ErrBig: 181, ErrAsk: 190, ErrLine: 230,
	}
	for err, number := range given {
		if int(err) != number {
			t.Errorf("P5: %v is not %d", err, number)
		}
	}
}

func TestLimitsAreAsGiven(t *testing.T) {
	given := [][2]int{
		{MaxTenant, 16}, {MaxText, 64}, {MaxLabels, 8}, {MaxLabel, 32}, {MaxValue, 64}, {MaxMatchers, 8}, {MaxPattern, 64},
		{MaxToken, 64}, {MaxTokens, 16}, {MaxWrites, 64}, {MaxSamples, 256}, {MaxQuestion, 4096}, {MaxRows, 1000},
		{MaxRequest, 65536}, {MaxAnswer, 1048576}, {MinLog, 1024}, {MaxLog, 4194304}, {MaxSlots, 65536}, {SlotBytes, 128},
		{MaxFiles, 8}, {MaxFile, 16777216}, {MaxLimit, 1000000}, {MaxNow, 1125899906842624}, {WindowSize, 60000},
	}
	for i, pair := range given {
		if pair[0] != pair[1] {
			t.Errorf("P5: limit %d is %d, not %d", i, pair[0], pair[1])
		}
	}
}

func TestKindsAreAsGiven(t *testing.T) {
	given := [][2]int{
		{MayWrite, 1}, {MayAsk, 2}, {MayCount, 4}, {MayRemove, 8},
		{OpIs, 1}, {OpNot, 2}, {OpLike, 3}, {OpUnlike, 4},
		{KindWrite, 1}, {KindQuery, 2}, {KindAsk, 3}, {KindCount, 4}, {KindNames, 5}, {KindValues, 6}, {KindRemove, 7},
		{KindMake, 16}, {KindDrop, 17}, {KindGrant, 18}, {KindRevoke, 19},
		{AnswerDone, 0}, {AnswerSeries, 1}, {AnswerRows, 2}, {AnswerNumber, 3}, {AnswerTexts, 4},
		{ChangeMake, 1}, {ChangeRemove, 2}, {ChangeGrant, 3}, {ChangeRevoke, 4}, {ChangeWrite, 5},
	}
	for i, pair := range given {
		if pair[0] != pair[1] {
			t.Errorf("P5: kind %d is %d, not %d", i, pair[0], pair[1])
		}
	}
}

// Literals without names stop to build when a field is added, taken, moved, or made another type.
func TestPlainTypesAreAsGiven(t *testing.T) {
	labels := []Label{{"a", "x"}}
	matchers := []Matcher{{"a", OpIs, "x"}}
	series := []Series{{labels, []Sample{{int64(1), uint64(2)}}}}
	grant := Grant{[32]byte{1}, MayAsk, matchers}
	_ = Account{1, 2, 3, 4, int64(5)}
	_ = Change{ChangeMake, "t", 1, 2, grant, [32]byte{2}, int64(3), series}
	_ = Request{KindWrite, "t", []byte("k"), series, matchers, int64(1), int64(2), "q", "n", 3, 4, 5, []byte("b")}
	_ = Response{OK, AnswerRows, series, []Row{{labels, uint64(1)}}, 2, []string{"a"}}
	account := Account{MaxSeries: 1, MaxSamples: 2, Series: 3, Written: 4, Window: 5}
	if account != (Account{1, 2, 3, 4, 5}) {
		t.Errorf("P5: an account is %+v", account)
	}
	request := Request{From: 1, To: 2, Question: "q", Name: "n", Series: 3, Samples: 4, Rights: 5}
	if request.From != 1 || request.To != 2 || request.Question != "q" || request.Name != "n" || request.Series != 3 || request.Samples != 4 || request.Rights != 5 {
		t.Errorf("P5: a request is %+v", request)
	}
}
