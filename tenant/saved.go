package tenant

import (
	"turnkey/api"
	"turnkey/num"
)

// sizeOf is how many bytes Save has of so many tenants that have so many bytes.
func sizeOf(tenants int, bytes int) int {
	return len(uintBytes(tenants)) + bytes
}

// saved is one tenant as Save tells it.
func (w *whole) saved(tenant string) []byte {
	a, _ := w.Get(tenant)
	out := head(tenant, a, w.Save(tenant))
	for id := range a.Series {
		labels, _ := w.index.Labels(tenant, id)
		out = append(out, labelsBytes(labels)...)
		out = append(out, chunksBytes(w.store.Chunks(tenant, id))...)
	}
	return out
}

// head is all of a tenant that stands ahead of its series.
func head(tenant string, a api.Account, grants []byte) []byte {
	out := textBytes(tenant)
	out = append(out, uintBytes(a.MaxSeries)...)
	out = append(out, uintBytes(a.MaxSamples)...)
	out = append(out, num.PutUint(nil, uint64(a.Window))...)
	out = append(out, uintBytes(a.Written)...)
	out = append(out, grants...)
	return append(out, uintBytes(a.Series)...)
}

func labelsBytes(l []api.Label) []byte {
	out := uintBytes(len(l))
	for _, one := range l {
		out = append(out, textBytes(one.Name)...)
		out = append(out, textBytes(one.Value)...)
	}
	return out
}

func chunksBytes(chunks [][]byte) []byte {
	return append(uintBytes(len(chunks)), pile(chunks)...)
}

// pile is chunks without how many they are.
func pile(chunks [][]byte) []byte {
	var out []byte
	for _, b := range chunks {
		out = append(out, num.PutBytes(nil, b)...)
	}
	return out
}

// uintBytes stands by itself: what is put behind all that was saved so far would copy it each time.
func uintBytes(n int) []byte {
	return num.PutUint(nil, uint64(n))
}

func textBytes(s string) []byte {
	return num.PutBytes(nil, []byte(s))
}
