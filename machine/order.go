package machine

import (
	"strconv"
	"strings"

	"quadrupole/api"
)

// kind is the kind of an order.
type kind int

// The kinds of orders.
const (
	load kind = iota
	move
	cool
	wait
	turn
	spin
	join
	drop
)

// The letters of the numbers of what must be there.
const (
	anIon = 'I'
	aZone = 'Z'
)

// form is how an order is written: its word, and a letter for each number behind it (N if nothing must be there).
type form struct {
	word, letters string
}

// forms are the forms of the orders of each kind.
var forms = [...]form{
	load: {"load", "Z"},
	move: {"move", "IZ"},
	cool: {"cool", "I"},
	wait: {"wait", "N"},
	turn: {"turn", "IN"},
	spin: {"spin", "IN"},
	join: {"join", "IIN"},
	drop: {"drop", ""},
}

// maxNumber is the greatest number in an order.
const maxNumber = 99

// order is an order of a kind, with its numbers.
type order struct {
	kind    kind
	numbers []int
}

// parse returns the order that a text is, if it is one.
func parse(text string) (order, bool) {
	if len(text) > api.MaxLine {
		return order{}, false
	}
	words := strings.Split(text, " ")
	for k, f := range forms {
		if f.word == words[0] && len(f.letters) == len(words)-1 {
			numbers, ok := parseNumbers(words[1:])
			return order{kind(k), numbers}, ok
		}
	}
	return order{}, false
}

// parseNumbers returns the numbers that words are, if all of them are numbers.
func parseNumbers(words []string) ([]int, bool) {
	var numbers []int
	for _, word := range words {
		n, err := strconv.Atoi(word)
		if err != nil || n < 0 || n > maxNumber || strconv.Itoa(n) != word { // a number is written in one way only
			return nil, false
		}
		numbers = append(numbers, n)
	}
	return numbers, true
}

// refusal is the error of an order that is refused: the reason why it is.
type refusal api.Errno

func (r refusal) Error() string {
	return "the order is refused with the error " + strconv.Itoa(int(r))
}
