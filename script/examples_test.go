package script_test

import (
	"testing"

	"skein/api"
)

const exampleText = `parts 1 workers 2 slots 40 leases 2
source 5 50
worker
get 5        # it is loaded now
repeat 2
put 7 70
end
worker
snap 0
range 0 0 100
turns 0 1 0
until 100
`

// The first example: two workers, with three and two calls; Print writes it without the comment and the repeat.
func TestFirstExample(t *testing.T) {
	s := api.Script{
		Setup: api.Setup{Parts: 1, Workers: 2, Slots: 40, Leases: 2, Source: pairs(5, 50)},
		Case: api.Case{
			Work:  [][]api.Call{{{Kind: 1, A: 5}, {Kind: 2, A: 7, B: 70}, {Kind: 2, A: 7, B: 70}}, {{Kind: 6}, {Kind: 16, C: 100}}},
			Turns: []int{0, 1, 0},
			Until: 100,
		},
	}
	wantScript(t, "example 1", exampleText, s)
	wantText(t, "example 1", s, `parts 1 workers 2 slots 40 leases 2
source 5 50
worker
get 5
put 7 70
put 7 70
worker
snap 0
range 0 0 100
turns 0 1 0
until 100
`)
	wantToldPlainly(t, "example 1", exampleText, s)
	wantPlay(t, "example 1", exampleText, `worker 0
call 1 begin 1 end 25 own 18 ok n 50 m 1
call 2 begin 26 end 46 own 21 ok n 0 m 2 ints 0
call 3 begin 47 end 55 own 9 n 70 m 2 ints 1
worker 1
call 1 begin 2 end 10 own 5 ok n 0 m 1
call 2 begin 12 end 14 own 2 n 0 m 0 err 152
steps 55
row 1 35 0
row 2 0
row
row 2 2 2 5 50 7 70
`)
}

// The second example: what is wrong with small texts.
func TestSecondExample(t *testing.T) {
	for _, c := range []struct {
		text        string
		line, error int
	}{
		{"", 1, tooEarly}, {"parts 1", 1, tooEarly}, {"parts x", 1, badNumber}, {"get 5", 1, badWord},
		{head + "get 5", 2, badWord}, {head + "source 1", 2, tooEarly}, {head + "worker 1", 2, badWord}, {head + "until 1\nuntil 1", 3, badWord},
	} {
		wantFault(t, "example 2", c.text, c.line, c.error)
	}
}
