package quota

import "turnkey/api"

// known: limits are at least 1, so that no tenant's account is the zero one, which a book answers of all others.
func known(a api.Account) bool {
	return a != (api.Account{})
}

func isLimit(n int) bool {
	return n >= 1 && n <= api.MaxLimit
}

// bounded is the nearest account that a tenant with these limits may have: an account that may be is its own.
func bounded(a api.Account) api.Account {
	a.Series = min(max(a.Series, 0), a.MaxSeries)
	a.Written = min(max(a.Written, 0), a.MaxSamples)
	a.Window = max(a.Window, 0)
	return a
}

// during is the account in the window of a call: one that has gone never comes again, and in a new one nothing was written.
func during(a api.Account, window int64) api.Account {
	if window > a.Window {
		a.Window, a.Written = window, 0
	}
	return a
}

// room is how many series more there may be, and samples in the account's window.
func room(a api.Account) (series int, samples int) {
	return a.MaxSeries - a.Series, a.MaxSamples - a.Written
}
