package stack

import (
	"fmt"
	"strings"
	"testing"

	"turnkey/api"
	"turnkey/disk"
)

const (
	leastFiller = 29
	mostFiller  = leastFiller + 58 + 7*68
)

// filler is a series that has so many bytes in what is saved, and one sample; no other number has its labels.
func filler(number, size int) api.Series {
	value, more := fmt.Sprintf("%06d", number), size-leastFiller
	l := labels("a", value)
	for i := 0; more > 58; i++ {
		length := min(64, more-4)
		l = append(l, api.Label{Name: fmt.Sprint("b", i), Value: strings.Repeat("x", length)})
		more -= 4 + length
	}
	l[0].Value += strings.Repeat("y", more)
	return with(l, 1)
}

// weighing is a tenant t whose door has, all alone, a head of so many bytes.
func weighing(t *testing.T, weight int) list {
	t.Helper()
	one := plainTenant{account: api.Account{MaxSeries: 1000000, MaxSamples: 1000000}}
	// How many series there are has two bytes, from 128 of them on.
	rest := weight - 33 - len(list{"t": one}.save()) - 1
	for rest > 0 {
		size := min(rest, mostFiller)
		if left := rest - size; left > 0 && left < leastFiller {
			size -= leastFiller
		}
		one.series = append(one.series, filler(len(one.series), size))
		rest -= size
	}
	one.account.Series = len(one.series)
	l := list{"t": one}
	if n := len(l.save()) + 33; n != weight {
		t.Fatalf("a head of %d bytes; want %d", n, weight)
	}
	return l
}

// largest is a disk whose log has the greatest cap there is, and a state that leaves so many bytes of it, and these changes behind it.
func largest(t *testing.T, room int, changes ...[]byte) *disk.Disk {
	t.Helper()
	return logOf(t, api.MaxLog, api.MaxSlots, weighing(t, api.MaxLog-room).save(), changes...)
}

// From ten bytes above the greatest cap on a weight is 0: that is no door that fits.
func TestFitsUnderTheGreatestCap(t *testing.T) {
	const name = "xxxxxxxxxxxxxxxx" // such a tenant has 23 bytes in what is saved
	for _, room := range []int{23, 22, 14, 13, 0} {
		d := largest(t, room)
		s := opened(t, d, 0)
		was := s.Bytes()
		if was != api.MaxLog-room {
			t.Fatalf("U4: Bytes is %d", was)
		}
		want, files := api.ErrLog, [2]int{was, 0}
		if room == 23 {
			want, files = api.OK, [2]int{0, api.MaxLog}
		}
		wants(t, s, makes(name, 1, 1), want)
		if (len(s.Tenants()) == 2) != (want == api.OK) || d.Size(0) != files[0] || d.Size(1) != files[1] {
			t.Errorf("U2: where %d bytes are left: %q, and files of %d and %d bytes", room, s.Tenants(), d.Size(0), d.Size(1))
		}
		wants(t, s, drops("t"), api.OK)
		wants(t, s, makes("u", 1, 1), api.OK)
	}
}

// A record has fewer bytes than what it makes the door greater by: so a log that is within its cap may tell a door that is not.
func TestOpenUnderTheGreatestCap(t *testing.T) {
	c := api.Change{Kind: api.ChangeWrite, Tenant: "t"}
	for i := range 9 {
		c.Writes = append(c.Writes, a(fmt.Sprint(i), 1))
	}
	change := packed(t, c)
	p := newPlain("op", api.MaxLog, api.MaxSlots)
	p.tenants = list{"t": {account: api.Account{MaxSeries: 1000000, MaxSamples: 1000000, Series: 128}}}
	for i := range 128 {
		one := p.tenants["t"]
		one.series = append(one.series, filler(i, leastFiller))
		p.tenants["t"] = one
	}
	behind, e := p.behind(c)
	if e != api.OK {
		t.Fatal(e)
	}
	growth := len(behind.save()) - len(p.tenants.save())
	if growth-10 < 9+len(change) {
		t.Fatalf("%d, %d", growth, len(change))
	}
	for _, room := range []int{growth - 10, growth - 9, growth - 1} {
		refused(t, "a door that does not fit", largest(t, room, change), "op", 0, api.ErrBroken)
	}
	if s := opened(t, largest(t, growth, change), 0); s.Slots("t")+s.Free() != api.MaxSlots {
		t.Errorf("U1: %d, %d", s.Slots("t"), s.Free())
	}
}
