package fan

import "turnkey/wire"

const (
	fewestWorkers = 2
	mostWorkers   = 16
)

func mayLook(workers int) bool {
	return workers >= fewestWorkers && workers <= mostWorkers
}

// looked lets workers look at requests, side by side. Each hears by a channel of its own, and tells by another one: as they are dealt to in turn, what they tell, in turn, is in the order in which it came, whoever was ready first.
func looked(order <-chan turn, workers int) []<-chan turn {
	hands := make([]chan turn, workers)
	told := make([]<-chan turn, workers)
	for i := range workers {
		tells := make(chan turn)
		hands[i], told[i] = make(chan turn), tells
		go look(hands[i], tells)
	}
	go deal(order, hands)
	return told
}

func deal(order <-chan turn, hands []chan turn) {
	next := 0
	for t := range order {
		hands[next] <- t
		next = (next + 1) % len(hands)
	}
	for _, hand := range hands {
		close(hand)
	}
}

func look(hears <-chan turn, tells chan<- turn) {
	for t := range hears {
		t.raw = requestOrNothing(t.raw)
		tells <- t
	}
	close(tells)
}

// requestOrNothing spares the door what no request is, however long: it refuses all of that alike, and so nothing in its place.
func requestOrNothing(raw []byte) []byte {
	if _, err := wire.Decode(raw); err != nil {
		return nil
	}
	return raw
}
