package tests

import (
	"slices"
	"strconv"
	"strings"
	"testing"

	"loop.example/g00206/impl"
)

// rules are told as "+ HOST FROM-TO", or with - for those that deny, parted by "; ".
func rules(text string) []impl.Allow {
	var l []impl.Allow
	if text == "" {
		return l
	}
	for told := range strings.SplitSeq(text, "; ") {
		parts := strings.Split(told, " ")
		from, to, _ := strings.Cut(parts[2], "-")
		l = append(l, rule(parts[0] == "-", parts[1], number(from), number(to)))
	}
	return l
}

func rule(deny bool, host string, from, to int) impl.Allow {
	return impl.Allow{Deny: deny, Host: host, From: from, To: to}
}

// number reads a number of the test itself.
func number(text string) int {
	n, err := strconv.Atoi(text)
	if err != nil {
		panic(err)
	}
	return n
}

func wantAllowed(t *testing.T, l []impl.Allow, host string, port int, want bool) {
	t.Helper()
	if allowed, ok := impl.AllowsTarget(l, host, port); allowed != want || !ok {
		t.Errorf("%v: %q %d: %v %v, not %v", l, host, port, allowed, ok, want)
	}
}

// wantNoRules holds rules as not good, or what is asked for as no target.
func wantNoRules(t *testing.T, l []impl.Allow, host string, port int, why string) {
	t.Helper()
	if allowed, ok := impl.AllowsTarget(l, host, port); allowed || ok {
		t.Errorf("%s: %.300v: %q %d: %v %v", why, l, host, port, allowed, ok)
	}
}

func TestAllowsTargetOfNoRule(t *testing.T) {
	for _, l := range [][]impl.Allow{nil, {}, rules("+ b 1-65535"), rules("+ *.b 1-65535; + b 1-65535; - a 1-9")} {
		wantAllowed(t, l, "a", 80, false)
		wantAllowed(t, l, "a", 65535, false)
	}
}

// Promise 17: the first rule that speaks counts.
func TestAllowsTargetByTheFirst(t *testing.T) {
	for _, c := range []struct {
		told    string
		host    string
		port    int
		allowed bool
	}{
		{"+ a 80-80", "a", 80, true},
		{"- a 80-80", "a", 80, false},
		{"- a 80-80; + a 80-80", "a", 80, false},
		{"+ a 80-80; - a 80-80", "a", 80, true},
		{"- a 80-80; + * 1-65535", "a", 80, false},
		{"- a 80-80; + * 1-65535", "a", 81, true},
		{"- a 80-80; + * 1-65535", "b", 80, true},
		{"+ a 80-80; - * 1-65535", "a", 80, true},
		{"+ a 80-80; - * 1-65535", "a", 79, false},
		{"+ a 80-80; - * 1-65535", "b", 80, false},
		{"+ * 1-65535; - a 80-80", "a", 80, true},
		{"- * 1-65535; + a 80-80", "a", 80, false},
		{"- *.local 1-65535; + * 1-1000", "x.local", 53, false},
		{"- *.local 1-65535; + * 1-1000", "local", 53, true},
		{"- *.local 1-65535; + * 1-1000", "example.org", 443, true},
		{"- *.local 1-65535; + * 1-1000", "example.org", 1001, false},
		{"+ b 80-80; + c 80-80; - a 80-80; + a 80-80", "a", 80, false},
		{"- b 80-80; - a 81-90; + a 80-80; - a 80-80", "a", 80, true},
		{"- a 1-79; - a 81-65535; - *.a 1-65535; - b 1-65535; + a 80-80", "a", 80, true},
		{"- a.b.c 1-100; + *.b.c 1-100; - *.c 1-100; + * 1-100", "a.b.c", 7, false},
		{"- a.b.c 1-100; + *.b.c 1-100; - *.c 1-100; + * 1-100", "x.b.c", 7, true},
		{"- a.b.c 1-100; + *.b.c 1-100; - *.c 1-100; + * 1-100", "b.c", 7, false},
		{"- a.b.c 1-100; + *.b.c 1-100; - *.c 1-100; + * 1-100", "c", 7, true},
	} {
		wantAllowed(t, rules(c.told), c.host, c.port, c.allowed)
	}
}

func TestAllowsTargetOfManyRules(t *testing.T) {
	for at := range 20 {
		for _, deny := range []bool{false, true} {
			l := slices.Repeat(rules("- other 1-65535"), 20)
			l[at] = rule(deny, "a", 80, 80)
			wantAllowed(t, l, "a", 80, !deny)
			wantAllowed(t, l[:at], "a", 80, false)
			for behind := at + 1; behind < 20; behind++ {
				l[behind] = rule(!deny, "a", 80, 80)
			}
			wantAllowed(t, l, "a", 80, !deny)
		}
	}
	wantNoRules(t, slices.Repeat(rules("+ a 80-80"), 21), "a", 80, "one more")
	wantNoRules(t, slices.Repeat(rules("+ * 1-65535"), 400), "a", 80, "many more")
}

// What is allowed here by a rule alone is denied by one that denies ahead of a rule for all.
func wantSpeaks(t *testing.T, ruleHost, host string, want bool) {
	t.Helper()
	wantAllowed(t, []impl.Allow{rule(false, ruleHost, 1, 65535)}, host, 80, want)
	wantAllowed(t, []impl.Allow{rule(true, ruleHost, 1, 65535), rule(false, "*", 1, 65535)}, host, 80, !want)
	wantAllowed(t, []impl.Allow{rule(false, ruleHost, 1, 65535), rule(true, "*", 1, 65535)}, host, 80, want)
}

func TestRulesSpeakOfHosts(t *testing.T) {
	for _, host := range someHosts() {
		wantSpeaks(t, "*", host, true)
		wantSpeaks(t, host, host, true)
		wantSpeaks(t, "*."+host, host, false)
		wantSpeaks(t, "nobody", host, false)
		if len(host) <= 58 {
			wantSpeaks(t, host, "x"+host, false)
			wantSpeaks(t, host, host+"x", false)
			wantSpeaks(t, "*."+host, "x."+host, true)
			wantSpeaks(t, "*."+host, "."+host, false)
			wantSpeaks(t, "*."+host, host+".", false)
			wantSpeaks(t, host, "x."+host, false)
			wantSpeaks(t, "x."+host, host, false)
		}
	}
	for _, c := range []struct {
		rule, host string
		speaks     bool
	}{
		{"*.example.org", "a.example.org", true},
		{"*.example.org", "a.b.example.org", true},
		{"*.example.org", "-.example.org", true},
		{"*.example.org", "..example.org", true},
		{"*.example.org", "example.org", false},
		{"*.example.org", ".example.org", false},
		{"*.example.org", "aexample.org", false},
		{"*.example.org", "xample.org", false},
		{"*.example.org", "a.example.com", false},
		{"*.example.org", "a.example.orga", false},
		{"*.example.org", "a.example.org.", false},
		{"*.example.org", "example.org.a", false},
		{"*.example.org", "a", false},
		{"example.org", "a.example.org", false},
		{"example.org", "example.or", false},
		{"example.org", "xample.org", false},
		{".example.org", "a.example.org", false},
		{".example.org", ".example.org", true},
		{"*..", "a..", true},
		{"*..", "...", true},
		{"*..", "..", false},
		{"*..", "a.", false},
		{"*.-", "-.-", true},
		{"*." + letters(58), "a." + letters(58), true},
		{"*." + letters(58), "." + letters(58), false},
		{"*." + letters(59), "." + letters(59), false},
		{"*." + letters(60), letters(60), false},
		{letters(60), letters(60), true},
		{letters(60), letters(59), false},
		{letters(59), letters(60), false},
	} {
		wantSpeaks(t, c.rule, c.host, c.speaks)
	}
}

func TestRulesSpeakOfPorts(t *testing.T) {
	for _, ports := range [][2]int{{1, 1}, {1, 2}, {1, 65535}, {2, 65534}, {80, 80}, {80, 443}, {65534, 65535}, {65535, 65535}, {1, 1000}} {
		from, to := ports[0], ports[1]
		for _, host := range []string{"a.b", "*", "*.b"} {
			l := []impl.Allow{rule(false, host, from, to)}
			denied := []impl.Allow{rule(true, host, from, to), rule(false, "a.b", 1, 65535)}
			for _, port := range []int{from - 1, from, from + 1, (from + to) / 2, to - 1, to, to + 1, 1, 65535} {
				if port < 1 || port > 65535 {
					wantNoRules(t, l, "a.b", port, "no port")
					continue
				}
				wantAllowed(t, l, "a.b", port, from <= port && port <= to)
				wantAllowed(t, denied, "a.b", port, port < from || port > to)
			}
		}
	}
}

func TestAllowsTargetOfNoTarget(t *testing.T) {
	for _, told := range []string{"", "+ * 1-65535", "- * 1-65535", "+ a 1-65535; - *.a 1-1"} {
		for _, host := range noHosts() {
			wantNoRules(t, rules(told), host, 80, "no host")
		}
		for _, port := range noPorts() {
			wantNoRules(t, rules(told), "a", port, "no port")
		}
	}
}

// badRules are no good rules, each for one thing.
func badRules() []impl.Allow {
	var l []impl.Allow
	for _, host := range noHosts() {
		if host == "*" || host == "*.a" {
			continue
		}
		l = append(l, rule(false, host, 1, 2), rule(true, host, 1, 65535), rule(false, "*."+host, 1, 65535))
	}
	for _, host := range []string{"**", "*.*", "*.*.a", "*a", "*a.b", "*-", "a*", "a.*.b", "*/", "* ", " *", "*.A", "*.a ", "?", "*." + letters(61)} {
		l = append(l, rule(false, host, 1, 65535))
	}
	for _, host := range []string{"a", "*", "*.a"} {
		for _, port := range noPorts() {
			l = append(l, rule(false, host, port, 80), rule(true, host, 80, port), rule(false, host, port, port), rule(false, host, port, 65535), rule(false, host, 1, port))
		}
		l = append(l, rule(false, host, 2, 1), rule(true, host, 65535, 1), rule(false, host, 65535, 65534), rule(false, host, 81, 80))
	}
	return l
}

func TestAllowsTargetOfBadRules(t *testing.T) {
	for _, bad := range badRules() {
		wantNoRules(t, []impl.Allow{bad}, "a", 80, "a bad rule")
		wantNoRules(t, append(rules("+ a 80-80; - a 80-80"), bad), "a", 80, "behind one that speaks")
		wantNoRules(t, append([]impl.Allow{bad}, rules("+ a 80-80")...), "a", 80, "ahead of one that speaks")
		l := slices.Repeat(rules("+ * 1-65535"), 20)
		l[19] = bad
		wantNoRules(t, l, "a", 80, "the last of as many as there may be")
	}
}
