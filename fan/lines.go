package fan

// turn is a request, and whose it is.
type turn struct {
	client int
	raw    []byte
}

func linesOf(clients [][][]byte) []<-chan turn {
	lines := make([]<-chan turn, len(clients))
	for i, l := range clients {
		lines[i] = lineOf(i, l)
	}
	return lines
}

// lineOf is what a client sends, over a channel of its own. There is room in it for all of that: so a client waits for nobody, and however many there are, none needs a goroutine that waits for it.
func lineOf(client int, l [][]byte) <-chan turn {
	line := make(chan turn, len(l))
	for _, raw := range l {
		line <- turn{client, raw}
	}
	close(line)
	return line
}

// inTurn makes one line of many, in rounds. It is closed behind all of these: who has received its end knows that everyone ahead has ended.
func inTurn(lines []<-chan turn) <-chan turn {
	order := make(chan turn)
	go func() {
		for len(lines) > 0 {
			lines = round(lines, order)
		}
		close(order)
	}()
	return order
}

// round sends on the next one of each line, and tells which lines may have more. Those that have ended are left out, as there may be many of them, and many rounds to come.
func round(lines []<-chan turn, order chan<- turn) []<-chan turn {
	open := lines[:0]
	for _, line := range lines {
		t, more := <-line
		if more {
			order <- t
			open = append(open, line)
		}
	}
	return open
}
