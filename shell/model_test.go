package shell

import (
	"fmt"
	"math/rand"
	"strings"
	"testing"

	"turnkey/api"
)

// begun is a shell, and a plain one, to both of which the same lines came.
func begun(t *testing.T, cap, slots int, lines ...string) (*Shell, *plain) {
	t.Helper()
	p := newPlain(t, "op", cap, slots)
	s := fresh(t, cap, slots)
	allAlike(t, s, p, lines)
	return s, p
}

// alike does a line at both, and tells the answer.
func alike(t *testing.T, s *Shell, p *plain, line string) string {
	t.Helper()
	want := p.do(line)
	got := s.Do(line)
	if got != want {
		t.Fatalf("W2: %s: %s; want %s", short(line), short(got), short(want))
	}
	if !sameDisks(s.disk, p.disk) {
		t.Fatalf("W2: behind %s something else lies on the disk than should", short(line))
	}
	return got
}

// kindOf is what sort of answer it is: most errors by their numbers.
func kindOf(answer string) string {
	switch {
	case strings.Contains(answer, " | "):
		return "some"
	case answer == "ok", answer == "-", answer == "dead", strings.HasPrefix(answer, "error"):
		return answer
	case strings.HasPrefix(answer, "bytes"):
		return "state"
	case strings.HasPrefix(answer, `"`):
		return "texts"
	case strings.Contains(answer, "=>"):
		return "rows"
	case strings.HasPrefix(answer, "{"):
		return "series"
	}
	return "digits"
}

// begins are lines by which there are two tenants, and tokens of theirs, and now and then a log that is nearly full.
func begins(r *rand.Rand) []string {
	l := []string{pick(r, "make t 20 500", "make t 4 20"), "grant t k 15 {}", `grant t e 7 {a!="y"}`, "make u 9 99", "grant u k 15 {}", "grant u e 6 {}"}
	for i := range pick(r, 0, 0, 0, 25) {
		l = append(l, fmt.Sprintf("make %016d 1 1", i))
	}
	return l
}

func allAlike(t *testing.T, s *Shell, p *plain, lines []string) {
	t.Helper()
	for _, line := range lines {
		alike(t, s, p, line)
	}
}

// W2, P1, P15: whatever lines come, the shell does what the layers do, in what it answers and on its disk.
func TestAgainstThePlainShell(t *testing.T) {
	kinds := map[string]int{}
	for seed := range int64(120) {
		r := rand.New(rand.NewSource(seed))
		s, p := begun(t, pick(r, 1024, 2048, 1<<14), pick(r, 2, 8, 100), begins(r)...)
		for clock := range int64(250) {
			kinds[kindOf(alike(t, s, p, someLine(r, 3*clock)))]++
			if s.Do("state") == "bytes 0 free 0 tenants 0" && r.Intn(3) > 0 {
				alike(t, s, p, "open")
			}
			if r.Intn(30) == 0 {
				allAlike(t, s, p, begins(r))
			}
		}
	}
	for _, kind := range []string{"ok", "-", "dead", "some", "state", "texts", "rows", "series", "digits"} {
		if kinds[kind] < 100 {
			t.Errorf("only %d answers were %s", kinds[kind], kind)
		}
	}
	for _, e := range []api.Errno{api.ErrArg, api.ErrDead, api.ErrLog, api.ErrPool, api.ErrStale, api.ErrSeries, api.ErrQuota, api.ErrLimit, api.ErrToken, api.ErrRight, api.ErrKnown, api.ErrName, api.ErrTenant, api.ErrAsk, api.ErrMatch, api.ErrLine} {
		if kinds[fmt.Sprintf("error %d", int(e))] == 0 {
			t.Errorf("no answer was the error %d", e)
		}
	}
}

// W3: Run is Do of each line, in order; a line of lines has none of the bytes 10 in it.
func TestRunIsDo(t *testing.T) {
	for seed := range int64(30) {
		r := rand.New(rand.NewSource(seed))
		s, other := fresh(t, 4096, 10), fresh(t, 4096, 10)
		for range 5 {
			var lines []string
			want := ""
			for clock := range int64(r.Intn(30)) {
				line := strings.ReplaceAll(someLine(r, clock), "\n", "")
				lines = append(lines, line)
				want += other.Do(line) + "\n"
			}
			text := strings.Join(lines, "\n")
			if len(lines) > 0 && (lines[len(lines)-1] == "" || r.Intn(2) == 0) {
				text += "\n"
			}
			if got := s.Run(text); got != want {
				t.Fatalf("W3: of %s: %s; want %s", short(text), short(got), short(want))
			}
		}
		if !sameDisks(s.disk, other.disk) {
			t.Fatal("W3: on the disk lies something else than Do writes")
		}
	}
}

// Some lines that wait, and go, is these lines, one by one.
func TestGoIsOneByOne(t *testing.T) {
	for seed := range int64(60) {
		r := rand.New(rand.NewSource(seed))
		begin := []string{"make t 20 500", "grant t k 15 {}"}
		s, _ := begun(t, 4096, 10, begin...)
		other, _ := begun(t, 4096, 10, begin...)
		if r.Intn(2) == 0 {
			fuse := fmt.Sprintf("fuse %d %d", r.Intn(12), r.Intn(80))
			s.Do(fuse)
			other.Do(fuse)
		}
		var want []string
		for clock := range int64(r.Intn(12)) {
			line := someRequest(r, clock)
			if a := s.Do("wait " + line); a != "ok" {
				t.Fatalf("W2: wait %s: %s", short(line), a)
			}
			if a := other.Do(line); a != "error 230" {
				want = append(want, a)
			}
		}
		if got := s.Do("go " + fmt.Sprint(pick(r, -1, 0, 1, 2, 3, 16, 17))); got != orNone(want, " | ") {
			t.Fatalf("W2: go: %s; want %s", short(got), short(orNone(want, " | ")))
		}
		if !sameDisks(s.disk, other.disk) {
			t.Fatal("W2: go: on the disk lies something else than the lines write")
		}
		if got := s.Do("go 2"); got != "-" {
			t.Fatalf("W2: behind go still wait: %s", short(got))
		}
	}
}

// questions is what one can ask of a shell without changing it.
func questions(s *Shell) string {
	return s.Run(`query t k -9 900 {}
query t e -9 900 {}
ask t k most {}
ask t k count by (a) {}
ask t e sum {}
count t k {}
count t e {b!=""}
names t k {}
values t k a {}
slots t
slots u
state
count u k {}
query t k
query t k 9 1 {}
`)
}

// What asks changes nothing.
func TestQuestionsChangeNothing(t *testing.T) {
	for seed := range int64(40) {
		r := rand.New(rand.NewSource(seed))
		begin := []string{"make t 20 500", "grant t k 15 {}", `grant t e 7 {a!="y"}`}
		s, p := begun(t, 4096, 10, begin...)
		for clock := range int64(80) {
			was := questions(s)
			if again := questions(s); again != was {
				t.Fatalf("W2: asked again: %s; then %s", short(was), short(again))
			}
			alike(t, s, p, someLine(r, 3*clock))
		}
	}
}

// Behind `crash 0` and `open` all that was answered `ok` is there.
func TestWhatWasAnsweredLasts(t *testing.T) {
	for seed := range int64(40) {
		r := rand.New(rand.NewSource(seed))
		s, _ := begun(t, pick(r, 1024, 4096), 30, "make t 20 500", "grant t k 15 {}", `grant t e 7 {a!="y"}`)
		for clock := range int64(60) {
			s.Do(someRequest(r, clock))
			was := strings.Split(questions(s), "\n")
			for _, line := range []string{"crash 0", "open"} {
				if a := s.Do(line); a != "ok" {
					t.Fatalf("W2: %s: %s", line, a)
				}
			}
			if got := strings.Split(questions(s), "\n"); fmt.Sprint(got) != fmt.Sprint(was) {
				t.Fatalf("P8: behind a fall %q; ahead of it %q", got, was)
			}
		}
	}
}

// P4: what comes to one shell is nothing to another one.
func TestShellsAreApart(t *testing.T) {
	r := rand.New(rand.NewSource(5))
	var shells []*Shell
	var plains []*plain
	for range 4 {
		s, p := begun(t, 2048, 10, "make t 20 500", "grant t k 15 {}")
		shells, plains = append(shells, s), append(plains, p)
	}
	for clock := range int64(800) {
		i := r.Intn(len(shells))
		alike(t, shells[i], plains[i], someLine(r, 3*clock))
		if r.Intn(9) == 0 {
			alike(t, shells[i], plains[i], "open")
		}
	}
	for i := range shells {
		alike(t, shells[i], plains[i], "open")
		if got, want := questions(shells[i]), plainQuestions(plains[i]); got != want {
			t.Errorf("P4: the shell %d: %s; want %s", i, short(got), short(want))
		}
	}
}

func plainQuestions(p *plain) string {
	s := &Shell{operator: []byte("op"), disk: p.disk.Copy()}
	s.Do("open")
	return questions(s)
}
