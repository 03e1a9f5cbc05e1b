package perm_test

import (
	"math"
	"strings"
	"testing"

	"demesne/api"
	"demesne/perm"
)

// noAccesses are no kind of access, those beside the three among them and those whose low bits are one of the three.
var noAccesses = []int{math.MinInt, math.MinInt + 1, math.MinInt + 2, -1<<32 + 1, -3, -2, -1, 0, 4, 5, 8, 1<<8 + 1, 1<<32 + 1, 1<<32 + 2, 1<<32 + 3, math.MaxInt - 1, math.MaxInt}

var accesses = []int{api.Load, api.Store, api.Fetch}

// texts are all eight, each with what it allows, in the order Load, Store, Fetch.
var texts = []struct {
	text   string
	allows [3]bool
}{
	{"---", [3]bool{}},
	{"r--", [3]bool{true, false, false}},
	{"-w-", [3]bool{false, true, false}},
	{"--x", [3]bool{false, false, true}},
	{"rw-", [3]bool{true, true, false}},
	{"r-x", [3]bool{true, false, true}},
	{"-wx", [3]bool{false, true, true}},
	{"rwx", [3]bool{true, true, true}},
}

func permOf(allows [3]bool) api.Perm {
	return api.Perm{R: allows[0], W: allows[1], X: allows[2]}
}

func perms() []api.Perm {
	var l []api.Perm
	for _, x := range texts {
		l = append(l, permOf(x.allows))
	}
	return l
}

func TestAndIsWhatBothAllow(t *testing.T) {
	for _, x := range texts {
		for _, y := range texts {
			var both [3]bool
			for i := range both {
				both[i] = x.allows[i] && y.allows[i]
			}
			if got := perm.And(permOf(x.allows), permOf(y.allows)); got != permOf(both) {
				t.Errorf("10.1: And(%s, %s): %v, not %v", x.text, y.text, got, both)
			}
		}
	}
}

func TestAllowsOneKindOfAccessEach(t *testing.T) {
	for _, x := range texts {
		for i, access := range accesses {
			if got := perm.Allows(permOf(x.allows), access); got != x.allows[i] {
				t.Errorf("10.1: Allows(%s, %d): %v", x.text, access, got)
			}
		}
		for _, access := range noAccesses {
			if perm.Allows(permOf(x.allows), access) {
				t.Errorf("10.1: Allows(%s, %d): true of no access", x.text, access)
			}
		}
	}
}

func TestWithinIsAllOfItAllowed(t *testing.T) {
	for _, x := range texts {
		for _, y := range texts {
			want := true
			for i := range x.allows {
				if x.allows[i] && !y.allows[i] {
					want = false
				}
			}
			if got := perm.Within(permOf(x.allows), permOf(y.allows)); got != want {
				t.Errorf("10.1: Within(%s, %s): %v", x.text, y.text, got)
			}
		}
	}
}

func TestTextIsThreeLetters(t *testing.T) {
	if got := perm.Text(api.Perm{R: true, W: true}); got != "rw-" {
		t.Errorf("10.2: Text(RW): %q", got)
	}
	for _, x := range texts {
		if got := perm.Text(permOf(x.allows)); got != x.text {
			t.Errorf("10.2: Text(%v): %q, not %q", x.allows, got, x.text)
		}
	}
}

func TestParseIsTextTheOtherWay(t *testing.T) {
	for _, x := range texts {
		if p, e := perm.Parse(x.text); p != permOf(x.allows) || e != api.OK {
			t.Errorf("10.2: Parse(%q): %v, %d", x.text, p, e)
		}
	}
}

func refused(t *testing.T, s string) {
	t.Helper()
	if p, e := perm.Parse(s); p != (api.Perm{}) || e != api.ErrForm {
		t.Errorf("10.2: Parse(%q): %v, %d", s, p, e)
	}
}

func TestParseRefusesWhatIsNoText(t *testing.T) {
	for _, s := range []string{"", "-", "r", "r-", "--", "rw", "rwx-", "----", "rwxr", "rw- ", " rw-", "RWX", "Rw-", "xwr", "wr-", "r-w", "x--", "rrr", "r w", "r_x", "rwé", "é-", "–-", "\x00\x00\x00", "rw\xff", "\xff\xfe\xfd", "rw−", "r\nx"} {
		refused(t, s)
	}
	refused(t, strings.Repeat("rwx", 1<<18))
}

// Texts with one or two bytes changed, one left out or one put in are none, unless they are another one.
func TestParseOfAllNeighbours(t *testing.T) {
	right := map[string]bool{}
	for _, x := range texts {
		right[x.text] = true
	}
	try := func(s string) {
		if !right[s] {
			refused(t, s)
		} else if p, e := perm.Parse(s); perm.Text(p) != s || e != api.OK {
			t.Errorf("10.2: Parse(%q): %v, %d", s, p, e)
		}
	}
	for s := range right {
		for i := range s {
			try(s[:i] + s[i+1:])
			for b := range 256 {
				one := []byte(s)
				one[i] = byte(b)
				try(string(one))
				try(s[:i] + string([]byte{byte(b)}) + s[i:])
				one[(i+1)%3] = byte(b)
				try(string(one))
			}
		}
	}
}

func TestJudgeNamesTheFirstThatRefuses(t *testing.T) {
	r, rw := api.Perm{R: true}, api.Perm{R: true, W: true}
	if got := perm.Judge(r, rw, api.Store); got != 1 {
		t.Errorf("10.3: Judge(R, RW, Store): %d", got)
	}
	if got := perm.Judge(rw, r, api.Store); got != 2 {
		t.Errorf("10.3: Judge(RW, R, Store): %d", got)
	}
	if got := perm.Judge(r, r, api.Store); got != 1 {
		t.Errorf("10.3: Judge(R, R, Store): %d", got)
	}
	for _, x := range texts {
		for _, y := range texts {
			for i, access := range accesses {
				want := 0
				if !y.allows[i] {
					want = 2
				}
				if !x.allows[i] {
					want = 1
				}
				if got := perm.Judge(permOf(x.allows), permOf(y.allows), access); got != want {
					t.Errorf("10.3: Judge(%s, %s, %d): %d, not %d", x.text, y.text, access, got, want)
				}
			}
			for _, access := range noAccesses {
				if got := perm.Judge(permOf(x.allows), permOf(y.allows), access); got != 1 {
					t.Errorf("10.3: Judge(%s, %s, %d): %d of no access", x.text, y.text, access, got)
				}
			}
		}
	}
}

func TestAndIsTheGreatestWithinBoth(t *testing.T) {
	for _, a := range perms() {
		for _, b := range perms() {
			both := perm.And(a, b)
			if !perm.Within(both, a) || !perm.Within(both, b) {
				t.Errorf("10.4: And(%v, %v) is not within both: %v", a, b, both)
			}
			for _, c := range perms() {
				if perm.Within(c, a) && perm.Within(c, b) && !perm.Within(c, both) {
					t.Errorf("10.4: %v is within %v and %v, and not within their And, %v", c, a, b, both)
				}
			}
		}
	}
}

func TestJudgeIsZeroWhereAndAllows(t *testing.T) {
	for _, a := range perms() {
		for _, b := range perms() {
			for _, access := range append(accesses[:3:3], noAccesses...) {
				if (perm.Judge(a, b, access) == 0) != perm.Allows(perm.And(a, b), access) {
					t.Errorf("10.4: Judge(%v, %v, %d): %d, And %v", a, b, access, perm.Judge(a, b, access), perm.And(a, b))
				}
			}
		}
	}
}
