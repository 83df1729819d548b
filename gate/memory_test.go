package gate

import (
	"bytes"
	"reflect"
	"slices"
	"testing"

	"turnkey/api"
)

// guarded: some bytes with spare room behind them, all of which must stay as it is.
func guarded(b []byte) []byte {
	room := slices.Concat(b, bytes.Repeat([]byte{0xee}, 64))
	return room[:len(b)]
}

func untouched(b, was []byte) bool {
	whole := b[:cap(b)]
	return bytes.Equal(whole[:len(was)], was) && bytes.Count(whole[len(was):len(was)+64], []byte{0xee}) == 64
}

func scribble(b []byte) {
	b = b[:cap(b)]
	for i := range b {
		b[i] = 0x55
	}
}

func manyRequests() []api.Request {
	return []api.Request{
		writes("k", "t", a("x", 10), with(labels("a", "x", "b", "1"), 8)), queries("k", "t", 0, 9, is("a", "x")), asks("e", "t", "most by (a) {}"), counts("e", "t", isNot("a", "")), by("e", api.KindNames, "t"), valuesOf("e", "t", "a"), by("k", api.KindRemove, "t"),
		makes("n", 5, 5), by("op", api.KindDrop, "t"), grants("t", "l", 7, is("a", "x")), revokes("t", "e"), counts("z", "t"), by("z", api.KindDrop, "t"), grants("t", "", 1),
	}
}

func TestDoSharesNothing(t *testing.T) {
	g := filled(t)
	was := g.Save()
	for _, r := range manyRequests() {
		bare := encoded(t, r)
		raw := guarded(bare)
		answer, change := g.Do(raw, 3)
		wantAnswer, wantChange := bytes.Clone(answer), bytes.Clone(change)
		if !untouched(raw, bare) {
			t.Errorf("P3: Do writes into %v", r)
		}
		scribble(raw)
		if !bytes.Equal(answer, wantAnswer) || !bytes.Equal(change, wantChange) {
			t.Errorf("P3: what is answered to %v shares memory with it", r)
		}
		scribble(answer)
		if !bytes.Equal(change, wantChange) {
			t.Errorf("P3: the answer to %v and its change share memory", r)
		}
		scribble(change)
		again, same := g.Do(bare, 3)
		if !bytes.Equal(again, wantAnswer) || !bytes.Equal(same, wantChange) || !bytes.Equal(g.Save(), was) {
			t.Errorf("P3, P4: %v is answered otherwise the second time", r)
		}
	}
}

func TestApplyKeepsNothing(t *testing.T) {
	for _, r := range manyRequests() {
		g, o := filled(t), filled(t)
		_, bare := g.Do(encoded(t, r), 3)
		if bare == nil {
			continue
		}
		change := guarded(bare)
		if n := g.After(change); n != o.After(bare) || !untouched(change, bare) {
			t.Errorf("P3: After of %x writes into it", bare)
		}
		e, f := g.Apply(change), o.Apply(bare)
		if e != api.OK || f != api.OK || !untouched(change, bare) {
			t.Errorf("P3: Apply of %x: %d", bare, e)
		}
		scribble(change)
		for _, r := range manyRequests() {
			one, _ := g.Do(encoded(t, r), 3)
			other, _ := o.Do(encoded(t, r), 3)
			if !bytes.Equal(one, other) || !bytes.Equal(g.Save(), o.Save()) {
				t.Errorf("P3: Apply keeps %x", bare)
			}
		}
	}
}

func TestNewAndLoadKeepNothing(t *testing.T) {
	saved := filled(t).Save()
	operator, other, b := guarded([]byte("op")), guarded([]byte("op")), guarded(saved)
	g, _ := New(operator, 8)
	o, _ := Load(other, b, 8)
	if !untouched(operator, []byte("op")) || !untouched(other, []byte("op")) || !untouched(b, saved) {
		t.Error("P3: New or Load writes into what it is given")
	}
	scribble(operator)
	scribble(other)
	scribble(b)
	answers(t, g, makes("n", 1, 1), api.OK)
	if !bytes.Equal(o.Save(), saved) {
		t.Error("P3: Load keeps what it is given")
	}
	answers(t, o, makes("n", 1, 1), api.OK)
	scribble(o.Save())
	names := o.Tenants()
	names[0] = "?"
	if !slices.Equal(o.Tenants(), []string{"n", "t", "u"}) || o.Save()[0] != 3 {
		t.Error("P3: what Save or Tenants tell is the door's own")
	}
}

func TestPackAndUnpackShareNothing(t *testing.T) {
	for _, c := range someChanges() {
		b := changeBytes(c)
		in := guarded(b)
		d, _ := Unpack(in)
		if !untouched(in, b) {
			t.Errorf("P3: Unpack writes into %x", b)
		}
		scribble(in)
		if !reflect.DeepEqual(reduced(d), reduced(c)) {
			t.Errorf("P3: Unpack of %x shares memory with it", b)
		}
		out, _ := Pack(d)
		for i := range d.Writes {
			overwrite(&d.Writes[i])
			want := reduced(c).Writes[i+1:]
			if !reflect.DeepEqual(reduced(d).Writes[i+1:], want) {
				t.Errorf("P3: lists that Unpack of %x tells share memory", b)
			}
		}
		for i := range d.Grant.Policy {
			d.Grant.Policy[i] = api.Matcher{}
		}
		if !bytes.Equal(out, b) {
			t.Errorf("P3: Pack of %v shares memory with it", c)
		}
	}
}

// overwrite writes into a series, and into the spare room of its lists.
func overwrite(s *api.Series) {
	l, m := s.Labels[:cap(s.Labels)], s.Samples[:cap(s.Samples)]
	for i := range l {
		l[i] = api.Label{Name: "?", Value: "?"}
	}
	for i := range m {
		m[i] = api.Sample{T: 55, V: 55}
	}
}

func TestDoorsHaveNothingToDoWithOneAnother(t *testing.T) {
	g, o := filled(t), filled(t)
	was := o.Save()
	for _, r := range manyRequests() {
		does(t, g, r, 3)
		if !bytes.Equal(o.Save(), was) || o.Free() != 3 {
			t.Errorf("P4: %v changes another door", r)
		}
	}
}
