package shell

import (
	"bytes"
	"encoding/hex"
	"fmt"
	"math/big"
	"regexp"
	"strconv"
	"strings"
	"testing"

	"turnkey/api"
	"turnkey/disk"
	"turnkey/label"
	"turnkey/match"
	"turnkey/stack"
	"turnkey/wire"
)

// plain is a shell by the chapter's words, over the same layers: lines are cut by expressions, and answers are told by fmt.
type plain struct {
	operator string
	disk     *disk.Disk
	stack    *stack.Stack // nil: there is none
	now      int64
	waiting  []string
}

func newPlain(t *testing.T, operator string, cap, slots int) *plain {
	t.Helper()
	d, _ := disk.New(2)
	if e := stack.Format(d, cap, slots); e != api.OK {
		t.Fatal(e)
	}
	p := &plain{operator: operator, disk: d}
	if a := p.do("open"); a != "ok" {
		t.Fatal(a)
	}
	return p
}

// shapes are the words of each command: w any word, n a number, b bits, x bytes in digits; and of the rest: M matchers, L labels, R whatever it is.
var shapes = map[string]string{
	"make": "wnn", "drop": "w", "grant": "wwnM", "revoke": "ww", "query": "wwnnM", "ask": "wwR", "count": "wwM", "names": "wwM", "values": "wwwM", "remove": "ww",
	"raw": "x", "tick": "n", "fuse": "nn", "crash": "n", "open": "", "state": "", "slots": "w", "wait": "R", "go": "n",
}

var (
	numberForm = regexp.MustCompile(`^(0|-?[1-9][0-9]*)$`)
	bitsForm   = regexp.MustCompile(`^[0-9a-f]{16}$`)
	bytesForm  = regexp.MustCompile(`^([0-9a-f]{2})+$`)
)

// cut is a line by its words.
type cut struct {
	command  string
	words    []string
	numbers  []int64
	bits     []uint64
	bytes    []byte
	rest     string
	matchers []api.Matcher
	labels   []api.Label
}

// cutOf is false of a line that is none.
func cutOf(line string) (cut, bool) {
	l := strings.FieldsFunc(line, func(r rune) bool { return r == ' ' })
	if len(l) == 0 {
		return cut{}, false
	}
	c := cut{command: l[0]}
	shape, known := shapes[c.command]
	if c.command == "write" {
		shape, known = shapeOfWrite(l), true
	}
	wanted := strings.TrimRight(shape, "MLR")
	hasRest := wanted != shape
	if !known || len(l) < 1+len(wanted) || !hasRest && len(l) > 1+len(wanted) {
		return cut{}, false
	}
	for i, form := range wanted {
		if !c.takes(form, l[i+1]) {
			return cut{}, false
		}
	}
	return c, !hasRest || c.takesRest(shape[len(wanted)], restBehind(line, 1+len(wanted)))
}

func shapeOfWrite(l []string) string {
	if len(l) < 4 || !numberForm.MatchString(l[3]) {
		return "wwn"
	}
	n, err := strconv.Atoi(l[3])
	if err != nil || n < 1 || n > len(l) {
		return "wwnx-" // which no words hold
	}
	return "wwn" + strings.Repeat("nb", n) + "L"
}

func restBehind(line string, count int) string {
	form := regexp.MustCompile(`(?s)^ *[^ ]+` + strings.Repeat(` +[^ ]+`, count-1) + `(?: (.*))?$`)
	return form.FindStringSubmatch(line)[1]
}

func (c *cut) takes(form rune, word string) bool {
	switch form {
	case 'w':
		c.words = append(c.words, word)
		return true
	case 'n':
		n, ok := new(big.Int).SetString(word, 10)
		if !numberForm.MatchString(word) || !ok || !n.IsInt64() {
			return false
		}
		c.numbers = append(c.numbers, n.Int64())
		return true
	case 'b':
		n, _ := new(big.Int).SetString(word, 16)
		if !bitsForm.MatchString(word) {
			return false
		}
		c.bits = append(c.bits, n.Uint64())
		return true
	case 'x':
		c.bytes, _ = hex.DecodeString(word)
		return bytesForm.MatchString(word)
	}
	return false
}

func (c *cut) takesRest(form byte, rest string) bool {
	var err error
	switch form {
	case 'M':
		c.matchers, err = match.Parse(rest)
	case 'L':
		c.labels, err = label.Parse(rest)
	default:
		c.rest = rest
	}
	return err == nil
}

// request is false of a line that is none by the table.
func (p *plain) request(line string) ([]byte, bool) {
	c, ok := cutOf(line)
	kinds := map[string]int{"make": 16, "drop": 17, "grant": 18, "revoke": 19, "write": 1, "query": 2, "ask": 3, "count": 4, "names": 5, "values": 6, "remove": 7}
	kind, asks := kinds[c.command]
	if !ok || !asks {
		return nil, false
	}
	q := api.Request{Kind: kind, Tenant: c.words[0], Token: []byte(p.operator), Matchers: c.matchers, Question: c.rest}
	if kind < 16 {
		q.Token = []byte(c.words[1])
	}
	switch c.command {
	case "make":
		q.Series, q.Samples = int(c.numbers[0]), int(c.numbers[1])
	case "grant":
		q.Bears, q.Rights = []byte(c.words[1]), int(c.numbers[0])
	case "revoke":
		q.Bears = []byte(c.words[1])
	case "query":
		q.From, q.To = c.numbers[0], c.numbers[1]
	case "values":
		q.Name = c.words[2]
	case "write":
		s := api.Series{Labels: c.labels}
		for i, v := range c.bits {
			s.Samples = append(s.Samples, api.Sample{T: c.numbers[1+i], V: v})
		}
		q.Writes = []api.Series{s}
	}
	raw, e := wire.Encode(q)
	return raw, e == api.OK
}

func (p *plain) asked(raw []byte) []byte {
	if p.stack == nil {
		return nil
	}
	return p.stack.Do(raw)
}

func (p *plain) do(line string) string {
	if raw, ok := p.request(line); ok {
		return plainlyTold(p.asked(raw))
	}
	c, ok := cutOf(line)
	if _, other := shapes[c.command]; !ok || !other || c.isRequest() {
		return "error 230"
	}
	switch c.command {
	case "raw":
		if b := p.asked(c.bytes); b != nil {
			return fmt.Sprintf("%x", b)
		}
		return "dead"
	case "tick":
		return p.ticks(c.numbers[0])
	case "fuse":
		return plainlyEnded(p.disk.Fuse(int(c.numbers[0]), []int{int(c.numbers[1]), int(c.numbers[1])}))
	case "crash":
		p.disk.Crash([]int{int(c.numbers[0]), int(c.numbers[0])})
	case "open":
		p.disk.Restart()
		s, e := stack.Open(p.disk, []byte(p.operator), p.now)
		p.stack = s
		return plainlyEnded(e)
	case "state":
		if p.stack == nil {
			return "bytes 0 free 0 tenants 0"
		}
		return fmt.Sprintf("bytes %d free %d tenants %d", p.stack.Bytes(), p.stack.Free(), len(p.stack.Tenants()))
	case "slots":
		if p.stack == nil {
			return "0"
		}
		return fmt.Sprint(p.stack.Slots(c.words[0]))
	case "wait":
		p.waiting = append(p.waiting, c.rest)
	case "go":
		return p.goes()
	}
	return "ok"
}

// isRequest: one that wire does not take is nothing else, either.
func (c *cut) isRequest() bool {
	return c.command == "write" || strings.HasPrefix(shapes[c.command], "w") && c.command != "slots"
}

func (p *plain) ticks(now int64) string {
	e := api.ErrDead
	if p.stack != nil {
		e = p.stack.Tick(now)
	}
	if e == api.OK {
		p.now = now
	}
	return plainlyEnded(e)
}

// goes does them one by one, by no workers.
func (p *plain) goes() string {
	var out []string
	for _, line := range p.waiting {
		if raw, ok := p.request(line); ok {
			out = append(out, plainlyTold(p.asked(raw)))
		}
	}
	p.waiting = nil
	return orNone(out, " | ")
}

func plainlyEnded(e api.Errno) string {
	if e == api.OK {
		return "ok"
	}
	return fmt.Sprintf("error %d", int(e))
}

func plainlyTold(answer []byte) string {
	if answer == nil {
		return "dead"
	}
	r, e := wire.Read(answer)
	if e != api.OK {
		return "no answer"
	}
	var out []string
	switch {
	case r.Err != api.OK || r.Kind == 0:
		return plainlyEnded(r.Err)
	case r.Kind == 3:
		return fmt.Sprint(r.Number)
	case r.Kind == 4:
		for _, text := range r.Texts {
			out = append(out, `"`+strings.NewReplacer(`\`, `\\`, `"`, `\"`, "\n", `\n`).Replace(text)+`"`)
		}
		return orNone(out, " ")
	}
	for _, one := range r.Rows {
		out = append(out, fmt.Sprintf("%s=>%d", label.Print(one.Labels), one.N))
	}
	for _, one := range r.Series {
		text := label.Print(one.Labels) + ":"
		for _, x := range one.Samples {
			text += fmt.Sprintf(" %d/%016x", x.T, x.V)
		}
		out = append(out, text)
	}
	return orNone(out, "; ")
}

func orNone(l []string, between string) string {
	if len(l) == 0 {
		return "-"
	}
	return strings.Join(l, between)
}

// sameDisks holds what lies there against each other, and how the power does.
func sameDisks(one, other *disk.Disk) bool {
	if one.Falls() != other.Falls() || one.Alive() != other.Alive() {
		return false
	}
	for f := range 2 {
		b, lasts := contents(one, f)
		c, alike := contents(other, f)
		if !bytes.Equal(b, c) || lasts != alike {
			return false
		}
	}
	return true
}

func contents(d *disk.Disk, f int) ([]byte, int) {
	d = d.Copy()
	d.Restart()
	b, _ := d.Read(f, 0, d.Size(f))
	return b, d.Lasts(f)
}
