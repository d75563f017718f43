package machine

import (
	"strconv"
	"strings"

	"quadrupole/api"
)

// The numbers by which sums are made.
const (
	modulus = 1000003
	factor  = 257
)

// Sum returns the sum that is made of a number and a text.
func Sum(before int, text string) int {
	sum := before % modulus
	if sum < 0 {
		sum += modulus
	}
	for i := range len(text) {
		sum = (sum*factor + int(text[i]) + 1) % modulus
	}
	return sum
}

// isPage reports whether a text can be in a log.
func isPage(text string) bool {
	return 1 <= len(text) && len(text) <= api.MaxLine && !strings.Contains(text, "\n")
}

// line returns the line of a log with a sum and a text.
func line(sum int, text string) string {
	return strconv.Itoa(sum) + " " + text + "\n"
}

// logOf returns the log of texts that can be in one.
func logOf(orders []string) string {
	var log strings.Builder
	sum := 0
	for _, text := range orders {
		sum = Sum(sum, text)
		log.WriteString(line(sum, text))
	}
	return log.String()
}

// Write returns the log of orders.
func Write(orders []string) (string, api.Errno) {
	if len(orders) > api.MaxPages {
		return "", api.ErrLarge
	}
	for _, text := range orders {
		if !isPage(text) {
			return "", api.ErrArg
		}
	}
	return logOf(orders), api.OK
}

// Read returns the orders of the longest beginning of a text that is a log, and the rest.
func Read(log string) ([]string, string) {
	var orders []string
	sum := 0
	for len(orders) < api.MaxPages {
		text, rest, ok := cutLine(sum, log)
		if !ok {
			break
		}
		orders = append(orders, text)
		sum = Sum(sum, text)
		log = rest
	}
	return orders, log
}

// cutLine returns the order of the first line of a text, and what is behind this line, if it is one of a log in which the sum of the line before is known.
func cutLine(before int, log string) (string, string, bool) {
	first, _, _ := strings.Cut(log, "\n")
	_, text, _ := strings.Cut(first, " ")
	if !isPage(text) {
		return "", "", false
	}
	rest, ok := strings.CutPrefix(log, line(Sum(before, text), text))
	return text, rest, ok
}

// Merge returns the longer one of two logs of which one begins with the other, and the number of its orders.
func Merge(a, b string) (string, int, api.Errno) {
	first, restOfFirst := Read(a)
	second, restOfSecond := Read(b)
	if restOfFirst != "" || restOfSecond != "" {
		return "", 0, api.ErrBroken
	}
	for k := range min(len(first), len(second)) {
		if first[k] != second[k] {
			return "", k, api.ErrProof
		}
	}
	if len(first) < len(second) {
		return b, len(second), api.OK
	}
	return a, len(first), api.OK
}
