package tests

import (
	"slices"
	"strings"
	"testing"

	"loop.example/g00206/impl"
)

const mostStream = mostVarint - 3
const mostThrough = 1000000000

// flowsTold are told as "STREAM HOST PORT LAST UP DOWN", parted by "; ".
func flowsTold(text string) []impl.Flow {
	var l []impl.Flow
	if text == "" {
		return l
	}
	for told := range strings.SplitSeq(text, "; ") {
		parts := strings.Split(told, " ")
		l = append(l, impl.Flow{Stream: number(parts[0]), Host: parts[1], Port: number(parts[2]), Last: number(parts[3]), Up: number(parts[4]), Down: number(parts[5])})
	}
	return l
}

// proxy has a time of 100 and a patience of 30.
func proxy(policy, flows string) impl.Proxy {
	return impl.Proxy{Rules: rules(policy), Flows: flowsTold(flows), Idle: 30, Now: 100}
}

func someProxy() impl.Proxy {
	return proxy("- *.local 1-65535; + * 1-1000", "4 a 53 70 0 9; 8 b 80 100 7 0; 40 c.d 1000 99 1 1")
}

// manyFlows have the streams from 0 on, and are used one behind the other.
func manyFlows(n int) []impl.Flow {
	var l []impl.Flow
	for i := range n {
		l = append(l, impl.Flow{Stream: 4 * i, Host: "h", Port: 1 + i, Last: i})
	}
	return l
}

func sameProxy(a, b impl.Proxy) bool {
	return slices.Equal(a.Rules, b.Rules) && slices.Equal(a.Flows, b.Flows) && a.Idle == b.Idle && a.Now == b.Now
}

func keptProxy(p impl.Proxy) impl.Proxy {
	p.Rules, p.Flows = slices.Clone(p.Rules), slices.Clone(p.Flows)
	return p
}

func wantKeptProxy(t *testing.T, what string, p, kept impl.Proxy) {
	t.Helper()
	if !sameProxy(p, kept) {
		t.Errorf("%s: %.300v became %.300v", what, kept, p)
	}
}

func targetFields(path string) []impl.Field {
	return append(fields(":method CONNECT; :protocol connect-udp; capsule-protocol ?1"), field(":path", path))
}

// wantNoProxy holds a proxy as not good, which no function takes.
func wantNoProxy(t *testing.T, p impl.Proxy, why string) {
	t.Helper()
	kept := keptProxy(p)
	if impl.GoodProxy(p) {
		t.Errorf("%s: %.300v is good", why, p)
	}
	for _, ask := range [][]impl.Field{nil, targetFields(pathAhead + "a/80/")} {
		if next, code := impl.OpenFlow(p, 1000, ask); !sameProxy(next, impl.Proxy{}) || code != 400 {
			t.Errorf("%s: opened: %.300v %d", why, next, code)
		}
	}
	for stream := -4; stream <= 44; stream += 4 {
		up, _ := impl.CarriedBytes(carried(stream, 0, "x"))
		if next, f, data, ok := impl.UpDatagram(p, up); !sameProxy(next, impl.Proxy{}) || f != (impl.Flow{}) || data != "" || ok {
			t.Errorf("%s: up: %.300v %v %q %v", why, next, f, data, ok)
		}
		if next, text, ok := impl.DownDatagram(p, stream, "x"); !sameProxy(next, impl.Proxy{}) || text != "" || ok {
			t.Errorf("%s: down: %.300v %q %v", why, next, text, ok)
		}
		if next, ok := impl.CloseFlow(p, stream); !sameProxy(next, impl.Proxy{}) || ok {
			t.Errorf("%s: closed: %.300v %v", why, next, ok)
		}
	}
	for _, by := range []int{0, 1, mostTick} {
		if next, gone, ok := impl.TickProxy(p, by); !sameProxy(next, impl.Proxy{}) || len(gone) != 0 || ok {
			t.Errorf("%s: ticked: %.300v %v %v", why, next, gone, ok)
		}
	}
	wantKeptProxy(t, why, p, kept)
}

// wantGood holds a proxy as good, which then is ticked as it is.
func wantGood(t *testing.T, p impl.Proxy, why string) {
	t.Helper()
	if !impl.GoodProxy(p) {
		t.Errorf("%s: %.300v is not good", why, p)
	}
	if _, _, ok := impl.TickProxy(p, 0); !ok {
		t.Errorf("%s: %.300v is not ticked", why, p)
	}
	if next, code := impl.OpenFlow(p, 0, nil); code != 400 || !sameProxy(next, p) {
		t.Errorf("%s: %.300v became %v %d", why, p, next, code)
	}
}

func TestGoodProxy(t *testing.T) {
	wantGood(t, someProxy(), "as it should be")
	wantGood(t, impl.Proxy{Idle: 1}, "empty")
	wantGood(t, impl.Proxy{Idle: 1, Rules: []impl.Allow{}, Flows: []impl.Flow{}}, "empty lists")
	wantGood(t, impl.Proxy{Idle: 100000, Now: mostTick, Flows: flowsTold("0 a 1 0 0 0")}, "at the ends")
	wantGood(t, proxy("- * 1-65535", "4 a 53 0 0 0"), "a flow that is not allowed any more")
	wantGood(t, proxy("", "4 a 53 0 0 0"), "flows without a rule")
	wantGood(t, proxy("", "4 a 53 0 0 0; 8 a 53 0 0 0"), "two flows to one target")
	wantGood(t, proxy("", "4 a 53 9 0 0; 8 b 54 3 0 0"), "a Last that falls")
	wantGood(t, impl.Proxy{Idle: 1, Now: mostTick, Flows: flowsTold("4 a 53 0 0 0")}, "a flow that is long quiet")
	wantNoProxy(t, impl.Proxy{}, "nothing at all")
}

func TestGoodProxyOfRules(t *testing.T) {
	p := someProxy()
	for _, host := range someHosts() {
		p.Rules = []impl.Allow{rule(false, host, 1, 65535), rule(true, "*."+host, 1, 1), rule(true, "*", 65535, 65535)}
		wantGood(t, p, "a rule of a host")
	}
	p.Rules = []impl.Allow{rule(false, "*."+letters(60), 1, 1), rule(false, letters(60), 2, 3)}
	wantGood(t, p, "the longest hosts")
	for _, bad := range badRules() {
		p.Rules = []impl.Allow{bad}
		wantNoProxy(t, p, "a bad rule")
		p.Rules = slices.Repeat(rules("+ * 1-65535"), 20)
		wantGood(t, p, "twenty rules")
		p.Rules[19] = bad
		wantNoProxy(t, p, "the last rule is bad")
	}
	for _, count := range []int{21, 22, 100} {
		p.Rules = slices.Repeat(rules("+ * 1-65535"), count)
		wantNoProxy(t, p, "too many rules")
	}
}

func TestGoodProxyOfTimes(t *testing.T) {
	p := someProxy()
	for _, idle := range []int{1, 2, 99, 100, 101, 99999, 100000} {
		p.Idle = idle
		wantGood(t, p, "Idle")
	}
	for _, idle := range []int{0, -1, -100, 100001, 100002, 1 << 32, minInt, maxInt} {
		p.Idle = idle
		wantNoProxy(t, p, "Idle")
	}
	p = someProxy()
	for _, now := range []int{100, 101, mostTick - 1, mostTick} {
		p.Now = now
		wantGood(t, p, "Now")
	}
	for _, now := range []int{99, 0, -1, -100, mostTick + 1, mostTick + 2, minInt, maxInt} {
		p.Now = now
		wantNoProxy(t, p, "Now")
		if now != 99 && now != 0 {
			wantNoProxy(t, impl.Proxy{Idle: 1, Now: now}, "Now without flows")
		}
	}
	wantGood(t, impl.Proxy{Idle: 1, Flows: flowsTold("0 a 1 0 0 0")}, "Now 0")
}

func TestGoodProxyOfFlows(t *testing.T) {
	p := someProxy()
	for count := range 11 {
		p.Flows = manyFlows(count)
		wantGood(t, p, "flows")
	}
	for _, count := range []int{11, 12, 25} {
		p.Flows = manyFlows(count)
		wantNoProxy(t, p, "too many flows")
	}
	for _, streams := range [][]int{{0}, {4}, {mostStream}, {mostStream - 4}, {0, 4}, {0, mostStream}, {4, 1000, mostStream - 4, mostStream}} {
		p.Flows = nil
		for _, stream := range streams {
			p.Flows = append(p.Flows, impl.Flow{Stream: stream, Host: "a", Port: 1})
		}
		wantGood(t, p, "streams that rise")
	}
	for _, streams := range [][]int{
		{-4}, {-8}, {-1}, {1}, {2}, {3}, {5}, {6}, {7}, {42}, {mostStream - 3}, {mostStream - 2}, {mostStream - 1}, {mostStream + 1}, {mostStream + 2}, {mostVarint}, {mostStream + 4}, {maxInt}, {maxInt - 3}, {minInt}, {minInt + 4},
		{0, 0}, {4, 4}, {4, 0}, {8, 4}, {mostStream, 0}, {mostStream, mostStream}, {0, 4, 4}, {0, 8, 4}, {4, 8, 4}, {0, 4, 8, 12, 12}, {0, 2, 4}, {-4, 0}, {0, mostStream + 4}, {4, 5},
	} {
		p.Flows = nil
		for _, stream := range streams {
			p.Flows = append(p.Flows, impl.Flow{Stream: stream, Host: "a", Port: 1})
		}
		wantNoProxy(t, p, "streams that don't rise, or are none")
	}
}

// badFlows are no good flows at a time of 100, each for one thing.
func badFlows() []impl.Flow {
	good := impl.Flow{Stream: 8, Host: "a", Port: 1}
	var l []impl.Flow
	for _, host := range noHosts() {
		bad := good
		bad.Host = host
		l = append(l, bad)
	}
	for _, port := range noPorts() {
		bad := good
		bad.Port = port
		l = append(l, bad)
	}
	for _, last := range []int{-1, -2, -100, 101, 102, 200, mostTick, mostTick + 1, minInt, maxInt} {
		bad := good
		bad.Last = last
		l = append(l, bad)
	}
	for _, count := range []int{-1, -2, mostThrough + 1, mostThrough + 2, -mostThrough, minInt, maxInt} {
		up, down := good, good
		up.Up, down.Down = count, count
		l = append(l, up, down)
	}
	return l
}

func TestGoodProxyOfEachFlow(t *testing.T) {
	p := someProxy()
	for _, bad := range badFlows() {
		p.Flows = []impl.Flow{bad}
		wantNoProxy(t, p, "a bad flow")
	}
	for at := range 10 {
		for _, bad := range badFlows() {
			p.Flows = manyFlows(10)
			bad.Stream = p.Flows[at].Stream
			p.Flows[at] = bad
			if impl.GoodProxy(p) {
				t.Errorf("the flow at %d: %v is good", at, bad)
			}
		}
	}
	p.Flows = manyFlows(10)
	for at := range p.Flows {
		p.Flows[at].Host, p.Flows[at].Port = letters(51+at), 65535-at
		p.Flows[at].Last, p.Flows[at].Up, p.Flows[at].Down = 100-at/2, mostThrough-at, mostThrough-9+at
	}
	wantGood(t, p, "flows at the ends")
	for _, host := range someHosts() {
		p.Flows[3].Host = host
		wantGood(t, p, "the hosts of flows")
	}
}
