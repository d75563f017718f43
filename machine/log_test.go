package machine_test

import (
	"fmt"
	"math"
	"math/big"
	"math/rand"
	"slices"
	"strings"
	"testing"

	"quadrupole/api"
	"quadrupole/machine"
)

// TestSum is of P9.4: against exact numbers without a limit, of which the remainder is taken at the end.
func TestSum(t *testing.T) {
	modulus, factor := big.NewInt(1000003), big.NewInt(257)
	texts := []string{"", "a", "\x00", "\x00\x00", "\xff", "load 0", "ä€", "a\nb\n", strings.Repeat("\xff", 300), strings.Repeat("join 0 1 4 ", 50)}
	for _, before := range []int{0, 1, -1, 5, 1000002, 1000003, 1000004, -1000002, -1000003, -1000004, 2000006, math.MinInt32, math.MaxInt32, math.MinInt, math.MaxInt} {
		for _, text := range texts {
			want := big.NewInt(int64(before))
			for _, b := range []byte(text) {
				want.Mul(want, factor).Add(want, big.NewInt(int64(b)+1))
			}
			want.Mod(want, modulus) // never below 0
			if got := machine.Sum(before, text); int64(got) != want.Int64() {
				t.Errorf("Sum(%d, %q) = %d, want %d", before, text, got, want)
			}
		}
	}
	if machine.Sum(0, "a") != 98 || machine.Sum(98, "b") != 25285 || machine.Sum(-1, "") != 1000002 || machine.Sum(1000003, "") != 0 {
		t.Error(machine.Sum(0, "a"), machine.Sum(98, "b"), machine.Sum(-1, ""), machine.Sum(1000003, ""))
	}
}

// TestSumOfParts is of P9.4: the sum of a text is that of its end, after that of its beginning.
func TestSumOfParts(t *testing.T) {
	text := "join 0 1 4\x00\xff\nwait 9"
	for k := range len(text) + 1 {
		if got, want := machine.Sum(machine.Sum(7, text[:k]), text[k:]), machine.Sum(7, text); got != want {
			t.Errorf("%d: %d, want %d", k, got, want)
		}
	}
}

// TestWrite is of P9.4: a line for each order, whatever its bytes are.
func TestWrite(t *testing.T) {
	for _, orders := range someLogs(t) {
		if log, e := machine.Write(orders); log != logOf(orders) || e != api.OK {
			t.Errorf("Write(%q) = %q, %v, want %q", orders, log, e, logOf(orders))
		}
	}
	for b := range 256 {
		for _, order := range []string{string([]byte{byte(b)}), "x" + string([]byte{byte(b)}) + "x", strings.Repeat(string([]byte{byte(b)}), 30)} {
			log, e := machine.Write([]string{"a", order})
			if b == '\n' {
				if log != "" || e != api.ErrArg {
					t.Errorf("Write of %q: %q, %v, want ErrArg", order, log, e)
				}
			} else if log != logOf([]string{"a", order}) || e != api.OK {
				t.Errorf("Write of %q: %q, %v", order, log, e)
			}
		}
	}
	if log, e := machine.Write([]string{"a", "b"}); log != "98 a\n25285 b\n" || e != api.OK {
		t.Error(log, e)
	}
}

// TestWriteErrors is of P9.4: too many orders come before what is no such text, wherever it is.
func TestWriteErrors(t *testing.T) {
	most, many := slices.Repeat([]string{"a"}, 100), slices.Repeat([]string{"a"}, 101)
	for _, bad := range []string{"", "\n", "a\n", "\na", "a\nb", strings.Repeat("a", 31), strings.Repeat("a", 30) + "\n", strings.Repeat("a", 1<<20)} {
		for _, k := range []int{0, 1, 50, 99} {
			wrong := slices.Clone(most)
			wrong[k] = bad
			if log, e := machine.Write(wrong); log != "" || e != api.ErrArg {
				t.Errorf("%d: %.40q: %q, %v, want ErrArg", k, bad, log, e)
			}
			if log, e := machine.Write(append(wrong, "a")); log != "" || e != api.ErrLarge {
				t.Errorf("%d: %.40q: %q, %v, want ErrLarge", k, bad, log, e)
			}
		}
		if log, e := machine.Write([]string{bad}); log != "" || e != api.ErrArg {
			t.Errorf("%.40q: %q, %v, want ErrArg", bad, log, e)
		}
	}
	if log, e := machine.Write(many); log != "" || e != api.ErrLarge {
		t.Error(log, e)
	}
}

// readOf is Read by the words of the chapter: of all beginnings of a text the longest one that is a log, which is found by writing it.
func readOf(text string) ([]string, string) {
	var orders, longest []string
	from, beginning := 0, ""
	for k := range len(text) {
		if text[k] != '\n' || len(orders) == 100 {
			continue
		}
		_, order, _ := strings.Cut(text[from:k], " ")
		orders = append(orders, order)
		from = k + 1
		if len(order) >= 1 && len(order) <= 30 && logOf(orders) == text[:from] {
			longest, beginning = slices.Clone(orders), text[:from]
		}
	}
	return longest, text[len(beginning):]
}

// wantRead checks Read of a text.
func wantRead(t *testing.T, text string, orders []string, rest string) {
	t.Helper()
	if got, left := machine.Read(text); !slices.Equal(got, orders) || left != rest {
		t.Errorf("Read(%q) = %q, %q, want %q, %q", text, got, left, orders, rest)
	}
}

// TestRead is of P9.4: what is written is read, and what is behind it is left.
func TestRead(t *testing.T) {
	for _, orders := range someLogs(t) {
		log := logOf(orders)
		wantRead(t, log, orders, "")
		for _, rest := range []string{"x", "\n", "\n\n", " \n", "0", "0 \n", "0 a\n", "98 a", "1 x\n", "\x00"} {
			wantRead(t, log+rest, orders, rest)
		}
		if len(orders) == 0 {
			continue
		}
		last := len(log) - len(logOf(orders[:len(orders)-1]))
		wantRead(t, log[:len(log)-1], orders[:len(orders)-1], log[len(log)-last:len(log)-1])
	}
}

// TestReadLines is of P9.4: lines that are none of a log.
func TestReadLines(t *testing.T) {
	long, longer := strings.Repeat("a", 30), strings.Repeat("a", 31)
	for _, c := range []struct {
		text   string
		orders []string
		rest   string
	}{
		{"", nil, ""},
		{"98 a\n25285 b\n98 a\n", []string{"a", "b"}, "98 a\n"},
		{"98 a\n98 a\n25285 b\n", []string{"a"}, "98 a\n25285 b\n"},
		{"098 a\n", nil, "098 a\n"},
		{"+98 a\n", nil, "+98 a\n"},
		{"-98 a\n", nil, "-98 a\n"},
		{"1000101 a\n", nil, "1000101 a\n"},
		{" 98 a\n", nil, " 98 a\n"},
		{"98  a\n", nil, "98  a\n"},
		{"98\ta\n", nil, "98\ta\n"},
		{"98 a \n", nil, "98 a \n"},
		{"98 a\r\n", nil, "98 a\r\n"},
		{"98 a", nil, "98 a"},
		{"98\n", nil, "98\n"},
		{"98 \n", nil, "98 \n"},
		{"98a\n", nil, "98a\n"},
		{"0 \n", nil, "0 \n"},
		{"98 a\n98 \n", []string{"a"}, "98 \n"},
		{"\n98 a\n", nil, "\n98 a\n"},
		{"98 a\n\n25285 b\n", []string{"a"}, "\n25285 b\n"},
		{fmt.Sprintf("%d %s\n", sumOf(0, long), long), []string{long}, ""},
		{fmt.Sprintf("%d %s\n", sumOf(0, longer), longer), nil, fmt.Sprintf("%d %s\n", sumOf(0, longer), longer)},
		{fmt.Sprintf("%d  a\n", sumOf(0, " a")), []string{" a"}, ""},
	} {
		wantRead(t, c.text, c.orders, c.rest)
	}
	for _, text := range []string{strings.Repeat("9", 1<<20), strings.Repeat("\n", 1<<20), "1 " + strings.Repeat("a", 1<<20) + "\n", strings.Repeat(" ", 1<<20) + "\n"} {
		if orders, rest := machine.Read(text); len(orders) != 0 || rest != text {
			t.Errorf("%.40q: %d orders, and a rest of %d bytes", text, len(orders), len(rest))
		}
	}
}

// TestReadMost is of P9.4: a log has at most MaxPages orders, also if more lines would go on with it.
func TestReadMost(t *testing.T) {
	for _, order := range []string{"wait 1", "\x00", strings.Repeat("\xff", 30)} {
		for _, count := range []int{99, 100, 101, 102, 250} {
			all := slices.Repeat([]string{order}, count)
			read := all[:min(count, 100)]
			wantRead(t, logOf(all), read, strings.TrimPrefix(logOf(all), logOf(read)))
		}
	}
}

// TestReadAltered is of P9.4: of a log in which something was altered, the lines before are read, and others exactly if they make a log.
func TestReadAltered(t *testing.T) {
	r := rand.New(rand.NewSource(4))
	log := logOf([]string{"load 0", " ", "0 0", "98 a", "\x00\xff", "drop"})
	for k := range len(log) + 1 {
		for b := range 256 {
			one := string([]byte{byte(b)})
			texts := []string{log[:k] + one + log[k:]}
			if k < len(log) {
				texts = append(texts, log[:k]+one+log[k+1:], log[:k]+log[k+1:])
			}
			for _, text := range texts {
				orders, rest := readOf(text)
				wantRead(t, text, orders, rest)
			}
		}
		if k < len(log) && log[k] != 'x' {
			before, _ := machine.Read(log[:k])
			wantRead(t, log[:k]+"x"+log[k+1:], before, strings.TrimPrefix(log[:k], logOf(before))+"x"+log[k+1:])
		}
	}
	for range 2000 {
		var lines []string
		for range r.Intn(6) {
			lines = append(lines, []string{"98 a\n", "25285 b\n", "98 b\n", "99 b\n", "25284 a\n", "x", "\n"}[r.Intn(7)])
		}
		text := strings.Join(lines, "")
		orders, rest := readOf(text)
		wantRead(t, text, orders, rest)
	}
}

// TestMerge is of P9.5: of any two logs.
func TestMerge(t *testing.T) {
	all := someLogs(t)
	for _, first := range all {
		for _, second := range all {
			a, b := logOf(first), logOf(second)
			wantLog, want, wantE := a, len(first), api.OK
			switch {
			case len(second) > len(first) && strings.HasPrefix(b, a):
				wantLog, want = b, len(second)
			case !strings.HasPrefix(a, b):
				wantLog, want, wantE = "", 0, api.ErrProof
				for first[want] == second[want] {
					want++
				}
			}
			if log, n, e := machine.Merge(a, b); log != wantLog || n != want || e != wantE {
				t.Errorf("Merge(%q, %q) = %q, %d, %v, want %q, %d, %v", a, b, log, n, e, wantLog, want, wantE)
			}
		}
	}
	base := []string{"load 0", "wait 1", "wait 2", "drop"}
	for k := range base {
		other := slices.Clone(base)
		other[k] = "x"
		for _, pair := range [][2]string{{logOf(base), logOf(other)}, {logOf(other), logOf(base)}, {logOf(base), logOf(other[:k+1])}, {logOf(other[:k+1]), logOf(base)}} {
			if log, n, e := machine.Merge(pair[0], pair[1]); log != "" || n != k || e != api.ErrProof {
				t.Errorf("Merge(%q, %q) = %q, %d, %v, want ErrProof at %d", pair[0], pair[1], log, n, e, k)
			}
		}
	}
}

// TestMergeBroken is of P9.5: a rest of one log comes before a difference.
func TestMergeBroken(t *testing.T) {
	good := []string{"", "98 a\n", "98 a\n25285 b\n", logOf([]string{"x", "y"}), logOf(slices.Repeat([]string{"a"}, 100))}
	bad := []string{"x", "\n", "98 a", "98 a\n25285 b", "98 a\n25286 b\n", "98 a\n25285 b\nx", logOf([]string{"x"}) + "1 y\n", logOf(slices.Repeat([]string{"a"}, 101))}
	for _, broken := range bad {
		for _, other := range slices.Concat(good, bad) {
			for _, pair := range [][2]string{{broken, other}, {other, broken}} {
				if log, n, e := machine.Merge(pair[0], pair[1]); log != "" || n != 0 || e != api.ErrBroken {
					t.Errorf("Merge(%q, %q) = %q, %d, %v, want ErrBroken", pair[0], pair[1], log, n, e)
				}
			}
		}
	}
}
