package token

import (
	"bytes"

	"turnkey/api"
	"turnkey/match"
	"turnkey/num"
)

const allRights = api.MayWrite | api.MayAsk | api.MayCount | api.MayRemove

// areRights takes a number without a sign, as it is read: one below 0 that was made such is far above them all.
func areRights(n uint64) bool {
	return n >= 1 && n <= allRights
}

// bytesOf is a grant as Save tells it.
func bytesOf(g api.Grant) []byte {
	out := num.PutUint(g.Digest[:], uint64(g.Rights))
	return num.PutBytes(out, []byte(match.Print(g.Policy)))
}

// readAll is the grants of one tenant with which b begins, and how many bytes these are; 0: nobody could have saved them.
func readAll(b []byte) ([]api.Grant, int) {
	count, at := num.Uint(b)
	if at == 0 || count > api.MaxTokens {
		return nil, 0
	}
	var out []api.Grant
	for range count {
		g, size := readOne(b[at:])
		if size == 0 || !standsBehind(g, out) {
			return nil, 0
		}
		out = append(out, g)
		at += size
	}
	return out, at
}

// standsBehind tells whether the digests of a list rise still with this grant behind it.
func standsBehind(g api.Grant, l []api.Grant) bool {
	if len(l) == 0 {
		return true
	}
	last := l[len(l)-1]
	return bytes.Compare(last.Digest[:], g.Digest[:]) < 0
}

// readOne is the grant with which b begins, and how many bytes it has; 0: there is none.
func readOne(b []byte) (api.Grant, int) {
	var g api.Grant
	at := copy(g.Digest[:], b)
	// Of bytes that end within the digest none are left, and so no number.
	rights, size := num.Uint(b[at:])
	if size == 0 || !areRights(rights) {
		return api.Grant{}, 0
	}
	at += size
	policy, size := readPolicy(b[at:])
	if size == 0 {
		return api.Grant{}, 0
	}
	g.Rights, g.Policy = int(rights), policy
	return g, at + size
}

// readPolicy likewise: matchers have many texts, of which one alone is saved.
func readPolicy(b []byte) ([]api.Matcher, int) {
	text, size := num.Bytes(b, len(b))
	policy, err := match.Parse(string(text))
	if err != nil || match.Print(policy) != string(text) {
		return nil, 0
	}
	return policy, size
}
