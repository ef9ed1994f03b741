package tests

import (
	"slices"
	"testing"

	"loop.example/g00206/impl"
)

// wantCounts holds that what a test goes through came often enough.
func wantCounts(t *testing.T, counts map[string]int, least map[string]int) {
	t.Helper()
	for what, n := range least {
		if counts[what] < n {
			t.Errorf("%s: %d, below %d: %v", what, counts[what], n, counts)
		}
	}
}

func TestTargetsAtAnyArguments(t *testing.T) {
	var s steps
	counts := map[string]int{}
	for range 30000 {
		host, port := s.someHost(), s.somePort()
		path, ok := impl.TargetPath(host, port)
		if ok != (hostTold(host) && portTold(port)) || !ok && path != "" {
			t.Fatalf("%q %d: %q %v", host, port, path, ok)
		}
		if ok {
			counts["told"]++
			wantTarget(t, host, port, pathAhead+host+"/"+decimal(port)+"/")
		} else {
			counts["not told"]++
			path = pathAhead + host + "/" + decimal(port) + "/"
		}
		at := s.below(len(path) + 1)
		switch s.below(6) {
		case 0:
			path = path[:at]
		case 1:
			path = path[:at] + s.someOf("/0a.- 9A", 1) + path[at:]
		case 2:
			path = path[:at] + path[min(at+1, len(path)):]
		case 3:
			path += path[at:]
		}
		wantHost, wantPort, want := targetTold(path)
		if host, port, ok := impl.ParseTarget(path); host != wantHost || port != wantPort || ok != want {
			t.Fatalf("%q: %q %d %v, not %q %d %v", path, host, port, ok, wantHost, wantPort, want)
		}
		if want {
			counts["read"]++
		} else {
			counts["not read"]++
		}
	}
	wantCounts(t, counts, map[string]int{"told": 15000, "not told": 3000, "read": 8000, "not read": 8000})
}

// Promise 17: the first rule that speaks counts.
func TestAllowsTargetAtAnyArguments(t *testing.T) {
	var s steps
	counts := map[string]int{}
	for range 40000 {
		l, host, port := s.someRules(), s.someHost(), s.somePort()
		allowed, ok := impl.AllowsTarget(l, host, port)
		if !rulesTold(l) || !hostTold(host) || !portTold(port) {
			counts["refused"]++
			if allowed || ok {
				t.Fatalf("%v: %q %d: %v %v", l, host, port, allowed, ok)
			}
			continue
		}
		if want := allowedTold(l, host, port); allowed != want || !ok {
			t.Fatalf("%v: %q %d: %v %v, not %v", l, host, port, allowed, ok, want)
		}
		if allowed {
			counts["allowed"]++
		} else {
			counts["denied"]++
		}
		speaking := slices.DeleteFunc(slices.Clone(l), func(r impl.Allow) bool {
			r.Deny = false
			return !allowedTold([]impl.Allow{r}, host, port)
		})
		wantAllowed(t, speaking, host, port, allowed)
		wantAllowed(t, speaking[:min(1, len(speaking))], host, port, allowed)
	}
	wantCounts(t, counts, map[string]int{"allowed": 10000, "denied": 5000, "refused": 5000})
}

func TestGoodProxyAtAnyArguments(t *testing.T) {
	var s steps
	counts := map[string]int{}
	for range 30000 {
		p := s.someProxy()
		if good := impl.GoodProxy(p); good != proxyTold(p) {
			t.Fatalf("%v: %v", p, good)
		}
		if proxyTold(p) {
			counts["good"]++
		} else {
			counts["bad"]++
		}
	}
	wantCounts(t, counts, map[string]int{"good": 20000, "bad": 2000})
}

func TestOpenFlowAtAnyArguments(t *testing.T) {
	var s steps
	counts := map[string]int{}
	for range 30000 {
		p, l := s.someProxy(), s.someAsk()
		stream := 4 * s.below(20)
		if s.below(4) == 0 {
			stream = s.streamIn(p)
		}
		want, code := openTold(p, stream, l)
		next, got := impl.OpenFlow(p, stream, l)
		if !sameProxy(next, want) || got != code {
			t.Fatalf("%v: %d %q: %v %d, not %v %d", p, stream, l, next, got, want, code)
		}
		counts[decimal(code)]++
		if !proxyTold(p) {
			counts["bad"]++
		}
	}
	wantCounts(t, counts, map[string]int{"200": 4000, "400": 8000, "403": 2000, "503": 300, "bad": 2000})
}

func TestDatagramsAtAnyArguments(t *testing.T) {
	var s steps
	counts := map[string]int{}
	for range 40000 {
		p := s.someProxy()
		up := s.someUp(p)
		want, wantFlow, wantData, ok := upTold(p, up)
		if next, f, data, got := impl.UpDatagram(p, up); !sameProxy(next, want) || f != wantFlow || data != wantData || got != ok {
			t.Fatalf("%v: %x: %v %v %q %v, not %v %v %q %v", p, up, next, f, data, got, want, wantFlow, wantData, ok)
		}
		counts["up "+decimal(truth(ok))]++
		stream, data := s.streamIn(p), s.someDown()
		want, wantText, ok := downTold(p, stream, data)
		if next, text, got := impl.DownDatagram(p, stream, data); !sameProxy(next, want) || text != wantText || got != ok {
			t.Fatalf("%v: %d %q: %v %x %v, not %v %x %v", p, stream, data, next, text, got, want, wantText, ok)
		}
		counts["down "+decimal(truth(ok))]++
		if proxyTold(p) {
			counts["good"]++
		}
	}
	wantCounts(t, counts, map[string]int{"up 0": 10000, "up 1": 10000, "down 0": 10000, "down 1": 10000, "good": 30000})
}

func truth(is bool) int {
	if is {
		return 1
	}
	return 0
}

func TestCloseAndTickAtAnyArguments(t *testing.T) {
	var s steps
	counts := map[string]int{}
	for range 40000 {
		p := s.someProxy()
		stream := s.streamIn(p)
		want, ok := closeTold(p, stream)
		if next, got := impl.CloseFlow(p, stream); !sameProxy(next, want) || got != ok {
			t.Fatalf("%v: %d: %v %v, not %v %v", p, stream, next, got, want, ok)
		}
		counts["closed "+decimal(truth(ok))]++
		by := s.someBy()
		want, wantGone, ok := tickTold(p, by)
		next, gone, got := impl.TickProxy(p, by)
		if !sameProxy(next, want) || !slices.Equal(gone, wantGone) || got != ok {
			t.Fatalf("%v by %d: %v %v %v, not %v %v %v", p, by, next, gone, got, want, wantGone, ok)
		}
		switch {
		case !ok:
			counts["not ticked"]++
		case len(gone) == 0:
			counts["none gone"]++
		case len(next.Flows) == 0:
			counts["all gone"]++
		default:
			counts["some gone"]++
		}
	}
	wantCounts(t, counts, map[string]int{"closed 0": 10000, "closed 1": 10000, "not ticked": 4000, "none gone": 3000, "all gone": 3000, "some gone": 5000})
}

// What each function refuses is refused whatever else is said, and no function panics: these are no flows at all.
func TestFlowsAtTheEndsOfNumbers(t *testing.T) {
	ends := []int{minInt, minInt + 1, -mostTick, -1, 0, 1, mostTick, mostVarint, maxInt - 1, maxInt}
	for _, a := range ends {
		for _, b := range ends {
			for _, p := range []impl.Proxy{
				{Idle: a, Now: b},
				{Idle: 1, Now: a, Flows: []impl.Flow{{Stream: b, Host: "a", Port: 1}}},
				{Idle: 1, Now: 5, Flows: []impl.Flow{{Stream: 4, Host: "a", Port: a, Last: b}}},
				{Idle: 1, Now: 5, Flows: []impl.Flow{{Stream: 4, Host: "a", Port: 1, Up: a, Down: b}}},
				{Idle: 1, Now: 5, Flows: []impl.Flow{{Stream: a, Host: "a", Port: 1}, {Stream: b, Host: "a", Port: 1}}},
				{Idle: 1, Now: 5, Rules: []impl.Allow{rule(false, "*", a, b)}},
			} {
				good := proxyTold(p)
				if impl.GoodProxy(p) != good {
					t.Errorf("%v: not %v", p, good)
				}
				for _, n := range ends {
					if _, _, ok := impl.TickProxy(p, n); ok != (good && n >= 0 && n <= mostTick) {
						t.Errorf("%v by %d: %v", p, n, ok)
					}
					if _, code := impl.OpenFlow(p, n, targetFields("/")); code != 400 {
						t.Errorf("%v: %d: %d", p, n, code)
					}
					impl.DownDatagram(p, n, "")
					impl.CloseFlow(p, n)
					impl.AllowsTarget(p.Rules, "a", n)
				}
			}
		}
	}
}

// sentBytes are what went through a flow since it was opened, told apart from the proxy.
type sentBytes struct {
	host     string
	port     int
	up, down int
}

// Promise 17: what goes up comes out byte by byte, what comes down is carried back to its stream, nothing goes when a flow is closed.
func TestFlowsPlayed(t *testing.T) {
	var s steps
	counts := map[string]int{}
	for range 60 {
		p := impl.Proxy{Rules: rules("- *.local 1-65535; + *.b 80-81; - b 1-65535; + * 1-65534"), Idle: 12 + s.below(20)}
		open := map[int]sentBytes{}
		for range 400 {
			stream := 4 * s.below(13)
			was, isOpen := open[stream]
			data := s.text(s.below(9))
			carriedUp, _ := impl.CarriedBytes(carried(stream, 0, data))
			switch s.below(6) {
			case 0, 1:
				host, port := []string{"a", "b", "a.b", "a.local", "c.d"}[s.below(5)], []int{80, 81, 82, 65535}[s.below(4)]
				next, code := impl.OpenFlow(p, stream, targetFields(pathAhead+host+"/"+decimal(port)+"/"))
				counts[decimal(code)]++
				allowed := port != 65535 && host != "a.local" && host != "b" || host == "a.b" && port <= 81
				if want := map[bool]int{true: 200, false: 403}[allowed]; !isOpen && (len(open) < 10 && code != want || len(open) == 10 && allowed && code != 503) || isOpen && code != 400 {
					t.Fatalf("%v: %d %s %d: %d", p, stream, host, port, code)
				}
				if code == 200 {
					open[stream] = sentBytes{host: host, port: port}
				}
				p = next
			case 2:
				next, f, out, ok := impl.UpDatagram(p, carriedUp)
				if ok != isOpen || ok && (out != data || f != impl.Flow{Stream: stream, Host: was.host, Port: was.port, Last: p.Now, Up: was.up + 1, Down: was.down}) {
					t.Fatalf("%v: %x: %v %x %v", p, carriedUp, f, out, ok)
				}
				if ok {
					was.up++
					p, open[stream] = next, was
					counts["up"]++
				}
			case 3:
				next, text, ok := impl.DownDatagram(p, stream, data)
				if back, read := impl.ReadCarried(text); ok != isOpen || read != ok || ok && (back != carried(stream, 0, data) || text != carriedUp) {
					t.Fatalf("%v: %d %x: %x %v", p, stream, data, text, ok)
				}
				if ok {
					was.down++
					p, open[stream] = next, was
					counts["down"]++
				}
			case 4:
				if s.below(3) > 0 {
					continue
				}
				next, ok := impl.CloseFlow(p, stream)
				if ok != isOpen {
					t.Fatalf("%v: %d: %v", p, stream, ok)
				}
				if ok {
					delete(open, stream)
					p = next
					counts["closed"]++
				}
			case 5:
				next, gone, ok := impl.TickProxy(p, s.below(5))
				if !ok || !slices.IsSorted(gone) || len(next.Flows)+len(gone) != len(open) {
					t.Fatalf("%v: %v %v %v", p, next, gone, ok)
				}
				for _, stream := range gone {
					delete(open, stream)
					counts["gone"]++
				}
				p = next
			}
			if len(p.Flows) != len(open) || !proxyTold(p) {
				t.Fatalf("%v: not %v", p, open)
			}
			for _, f := range p.Flows {
				if x, there := open[f.Stream]; !there || x != (sentBytes{f.Host, f.Port, f.Up, f.Down}) || f.Last < p.Now-p.Idle {
					t.Fatalf("%v: %v, not %v", p, f, x)
				}
			}
		}
	}
	wantCounts(t, counts, map[string]int{"200": 1000, "400": 500, "403": 500, "503": 20, "up": 1000, "down": 1000, "closed": 200, "gone": 300})
}
