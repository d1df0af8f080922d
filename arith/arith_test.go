package arith_test

import (
	"math/rand"
	"testing"

	"triforium/api"
	"triforium/arith"
)

// randomRows returns rows as P24.3 has them.
func randomRows(r *rand.Rand) []arith.Row {
	rows := make([]arith.Row, r.Intn(6))
	for i := range rows {
		for range r.Intn(4) {
			rows[i].Coeffs = append(rows[i].Coeffs, r.Intn(21)-10)
		}
		rows[i].Bound = r.Intn(201) - 100
		if r.Intn(2) == 0 {
			rows[i].Bound /= 10
		}
	}
	return rows
}

// P24.3: Refute has an answer for small rows, and the right one.
func TestRefuted(t *testing.T) {
	r := rand.New(rand.NewSource(1))
	yes, no, most := 0, 0, 0
	for range 20000 {
		rows := randomRows(r)
		l, ok, e := arith.Refute(rows, arith.MaxLines)
		if e != api.OK {
			t.Fatal(rows, e)
		}
		most = max(most, len(l))
		x, found, e := arith.Point(rows, 12)
		if e != api.OK || found && ok {
			t.Fatal(rows, x, e)
		}
		if ok {
			yes++
			if e := arith.Check(rows, l); e != api.OK {
				t.Fatal(rows, l, e)
			}
			continue
		}
		no++
		if len(l) > 0 {
			t.Fatal(rows, l)
		}
	}
	t.Log(yes, no, most)
}
