package tests

import (
	"slices"
	"testing"

	"loop.example/g00206/impl"
)

// wantOpen holds what is answered; a proxy that refuses stays as it was, in memory of its own.
func wantOpen(t *testing.T, p impl.Proxy, stream int, l []impl.Field, code int) impl.Proxy {
	t.Helper()
	kept, keptFields := keptProxy(p), slices.Clone(l)
	next, got := impl.OpenFlow(p, stream, l)
	if got != code {
		t.Errorf("%d: %.200v: %d, not %d", stream, l, got, code)
	}
	if code != 200 && !sameProxy(next, kept) {
		t.Errorf("%d: %.200v: %d, but %v became %v", stream, l, code, kept, next)
	}
	wantKeptProxy(t, "opened", p, kept)
	if !slices.Equal(l, keptFields) {
		t.Errorf("%v became %v", keptFields, l)
	}
	return next
}

func wantNewFlow(t *testing.T, p impl.Proxy, stream int, host string, port int, want []impl.Flow) {
	t.Helper()
	next := wantOpen(t, p, stream, targetFields(pathAhead+host+"/"+decimal(port)+"/"), 200)
	kept := keptProxy(p)
	kept.Flows = want
	if !sameProxy(next, kept) || !impl.GoodProxy(next) {
		t.Errorf("%d: %v, not %v", stream, next, kept)
	}
}

func TestOpenFlow(t *testing.T) {
	p := proxy("- *.local 1-65535; + * 1-1000", "")
	wantNewFlow(t, p, 4, "example.org", 443, flowsTold("4 example.org 443 100 0 0"))
	wantNewFlow(t, p, 0, "a", 1, flowsTold("0 a 1 100 0 0"))
	wantNewFlow(t, p, mostStream, letters(60), 1000, []impl.Flow{{Stream: mostStream, Host: letters(60), Port: 1000, Last: 100}})
	p.Flows = flowsTold("4 a 53 70 0 9; 12 b 80 100 7 0")
	wantNewFlow(t, p, 0, "c", 9, flowsTold("0 c 9 100 0 0; 4 a 53 70 0 9; 12 b 80 100 7 0"))
	wantNewFlow(t, p, 8, "c", 9, flowsTold("4 a 53 70 0 9; 8 c 9 100 0 0; 12 b 80 100 7 0"))
	wantNewFlow(t, p, 16, "c", 9, flowsTold("4 a 53 70 0 9; 12 b 80 100 7 0; 16 c 9 100 0 0"))
	wantNewFlow(t, p, 16, "a", 53, flowsTold("4 a 53 70 0 9; 12 b 80 100 7 0; 16 a 53 100 0 0"))
	wantNewFlow(t, impl.Proxy{Rules: rules("+ * 1-65535"), Idle: 1}, 4, "a", 65535, flowsTold("4 a 65535 0 0 0"))
	wantNewFlow(t, impl.Proxy{Rules: rules("+ * 1-65535"), Idle: 1, Now: mostTick}, 4, "a", 65535, []impl.Flow{{Stream: 4, Host: "a", Port: 65535, Last: mostTick}})
}

func TestOpenFlowOfEachHost(t *testing.T) {
	p := proxy("+ * 1-65535", "4 a 53 70 0 9; 12 b 80 100 7 0")
	for _, host := range someHosts() {
		want := keptProxy(p).Flows
		wantNewFlow(t, p, 8, host, 65535, slices.Insert(want, 1, impl.Flow{Stream: 8, Host: host, Port: 65535, Last: 100}))
	}
	for _, host := range noHosts() {
		wantOpen(t, p, 8, targetFields(pathAhead+host+"/443/"), 400)
	}
	for _, port := range noPorts() {
		wantOpen(t, p, 8, targetFields(pathAhead+"a/"+decimal(port)+"/"), 400)
	}
}

// Streams come in any order; the flows rise.
func TestOpenFlowsInAnyOrder(t *testing.T) {
	for _, order := range orders(5) {
		p := proxy("+ * 1-65535", "")
		for _, i := range order {
			p = wantOpen(t, p, 4*i, targetFields(pathAhead+"h/"+decimal(1+i)+"/"), 200)
			p, _, _ = impl.TickProxy(p, 0)
		}
		want := manyFlows(5)
		for i := range want {
			want[i].Last = 100
		}
		if !slices.Equal(p.Flows, want) {
			t.Fatalf("%v: %v", order, p.Flows)
		}
	}
}

func TestOpenFlowOfNoStream(t *testing.T) {
	ask := targetFields(pathAhead + "a/53/")
	for _, stream := range []int{-4, -1, -8, 1, 2, 3, 5, 6, 7, 9, 4001, 4002, 4003, mostStream - 1, mostStream + 1, mostStream + 2, mostVarint, mostStream + 4, maxInt, maxInt - 3, minInt, minInt + 4} {
		wantOpen(t, someProxy(), stream, ask, 400)
		wantOpen(t, proxy("- * 1-65535", ""), stream, ask, 400)
	}
	for _, stream := range []int{0, 12, 36, 44, mostStream - 4, mostStream} {
		wantOpen(t, someProxy(), stream, ask, 200)
	}
	for _, stream := range []int{4, 8, 40} {
		wantOpen(t, someProxy(), stream, ask, 400)
	}
	last := impl.Proxy{Rules: rules("+ * 1-65535"), Idle: 1, Flows: []impl.Flow{{Stream: 0, Host: "a", Port: 1}, {Stream: mostStream, Host: "a", Port: 1}}}
	wantOpen(t, last, 0, ask, 400)
	wantOpen(t, last, mostStream, ask, 400)
	wantOpen(t, last, mostStream-4, ask, 200)
}

func TestOpenFlowOfFields(t *testing.T) {
	p := someProxy()
	path := field(":path", pathAhead+"a/53/")
	asked := []impl.Field{field(":method", "CONNECT"), field(":protocol", "connect-udp"), field("capsule-protocol", "?1"), path}
	for _, order := range orders(4) {
		var l []impl.Field
		for _, i := range order {
			l = append(l, asked[i])
		}
		wantOpen(t, p, 12, l, 200)
		wantOpen(t, p, 12, append(fields("accept */*; :authority a; :scheme https"), l...), 200)
		wantOpen(t, p, 12, slices.Concat(l[:2], fields("user-agent x; date ; x y"), l[2:]), 200)
		for missing := range l {
			less := slices.Concat(l[:missing], l[missing+1:])
			wantOpen(t, p, 12, less, 400)
			wantOpen(t, p, 12, append(less, l[missing]), 200)
			wantOpen(t, p, 12, append(less, field(l[missing].Name, "")), 400)
			wantOpen(t, p, 12, append(less, field("x"+l[missing].Name[1:], l[missing].Value)), 400)
		}
	}
	wantOpen(t, p, 12, nil, 400)
	wantOpen(t, p, 12, []impl.Field{path}, 400)
	wantOpen(t, p, 12, asked[:3], 400)
}

func TestOpenFlowOfOtherValues(t *testing.T) {
	p := someProxy()
	for name, values := range map[string][]string{
		":method":          {"", "GET", "POST", "connect", "Connect", "CONNECT ", " CONNECT", "CONNEC", "CONNECTS", "CONNECT-UDP", "connect-udp"},
		":protocol":        {"", "connect-ip", "connect-tcp", "CONNECT-UDP", "connect-udp ", "connect-ud", "connect-udp2", "udp", "websocket", "CONNECT"},
		"capsule-protocol": {"", "?0", "1", "?", "?1 ", " ?1", "?1;a=b", "?11", "true", "?2"},
		":path":            {"", "/", "/other/", "/.well-known/masque/udp/", "/.well-known/masque/udp/a/53", "/.well-known/masque/udp/a/053/", "/.well-known/masque/udp/a/0/", "/.well-known/masque/udp/a/65536/", "/.well-known/masque/udp/A/53/", "/.well-known/masque/udp//53/", "/.well-known/masque/udp/a/53/x", " /.well-known/masque/udp/a/53/"},
	} {
		for _, value := range values {
			l := targetFields(pathAhead + "a/53/")
			at := slices.IndexFunc(l, func(f impl.Field) bool { return f.Name == name })
			right := l[at]
			l[at].Value = value
			wantOpen(t, p, 12, l, 400)
			wantOpen(t, p, 12, append(l, right), 400)
			wantOpen(t, p, 12, append([]impl.Field{right}, l...), 200)
		}
	}
	twice := append(targetFields(pathAhead+"a/53/"), targetFields(pathAhead+"b/80/")...)
	if next := wantOpen(t, p, 12, twice, 200); len(next.Flows) != 4 || next.Flows[2].Host != "a" || next.Flows[2].Port != 53 {
		t.Error(next)
	}
	denied := append(targetFields(pathAhead+"a.local/53/"), targetFields(pathAhead+"b/80/")...)
	wantOpen(t, p, 12, denied, 403)
}

// Fields that are not good are refused as a whole, also where those that count stand ahead.
func TestOpenFlowOfBadFields(t *testing.T) {
	p := someProxy()
	l := targetFields(pathAhead + "a/53/")
	for _, bad := range []impl.Field{field("", ""), field("", "x"), field("A", ""), field("a:", ""), field("a b", ""), field("a_b", ""), field(letters(101), ""), field("x", "\x1f"), field("x", "\x7f"), field("x", "é"), field("x", letters(101)), field(":Method", "CONNECT")} {
		wantOpen(t, p, 12, append(slices.Clone(l), bad), 400)
		wantOpen(t, p, 12, append([]impl.Field{bad}, l...), 400)
	}
	wantOpen(t, p, 12, append(slices.Clone(l), repeated(field("x", "y"), 26)...), 200)
	wantOpen(t, p, 12, append(slices.Clone(l), repeated(field("x", "y"), 27)...), 400)
	wantOpen(t, p, 12, append(repeated(field("x", "y"), 26), l...), 200)
	wantOpen(t, p, 12, append(slices.Clone(l), field(letters(100), letters(100))), 200)
}

func TestOpenFlowWhereItIsNotAllowed(t *testing.T) {
	p := someProxy()
	for host, port := range map[string]int{"x.local": 53, "a.b.local": 1, "example.org": 1001, "local": 65535, "a": 1001} {
		wantOpen(t, p, 12, targetFields(pathAhead+host+"/"+decimal(port)+"/"), 403)
	}
	wantNewFlow(t, p, 12, "local", 1000, flowsTold("4 a 53 70 0 9; 8 b 80 100 7 0; 12 local 1000 100 0 0; 40 c.d 1000 99 1 1"))
	wantOpen(t, proxy("", ""), 12, targetFields(pathAhead+"a/53/"), 403)
	wantOpen(t, proxy("- * 1-65535", ""), 12, targetFields(pathAhead+"a/53/"), 403)
	wantOpen(t, proxy("+ b 1-65535", ""), 12, targetFields(pathAhead+"a/53/"), 403)
	wantOpen(t, proxy("+ a 1-52; + a 54-65535", ""), 12, targetFields(pathAhead+"a/53/"), 403)
}

func TestOpenFlowWhereThereIsNoRoom(t *testing.T) {
	for count := range 11 {
		p := proxy("- *.local 1-65535; + * 1-1000", "")
		p.Flows = manyFlows(count)
		code := 200
		if count == 10 {
			code = 503
		}
		for _, stream := range []int{40, 400, mostStream} {
			next := wantOpen(t, p, stream, targetFields(pathAhead+"a/53/"), code)
			if code == 200 && (len(next.Flows) != count+1 || next.Flows[count] != impl.Flow{Stream: stream, Host: "a", Port: 53, Last: 100}) {
				t.Errorf("%d: %v", stream, next.Flows)
			}
		}
	}
	wantOpen(t, impl.Proxy{Rules: rules("+ * 1-65535"), Idle: 5, Now: 20, Flows: manyFlows(10)}, 40, targetFields(pathAhead+"a/53/"), 503)
}

// What is wrong of several things is answered in this order.
func TestOpenFlowOfSeveralFaults(t *testing.T) {
	full := proxy("- *.local 1-65535; + * 1-1000", "")
	full.Flows = manyFlows(10)
	bad := keptProxy(full)
	bad.Idle = 0
	allowed, denied, none := targetFields(pathAhead+"a/53/"), targetFields(pathAhead+"a.local/53/"), targetFields("/")
	wantOpen(t, full, 40, allowed, 503)
	wantOpen(t, full, 40, denied, 403)
	wantOpen(t, full, 40, none, 400)
	wantOpen(t, full, 36, allowed, 400)
	wantOpen(t, full, 36, denied, 400)
	wantOpen(t, full, 41, allowed, 400)
	wantOpen(t, full, 41, denied, 400)
	wantOpen(t, full, 40, denied[1:], 400)
	wantOpen(t, full, 40, append(slices.Clone(denied), field("", "")), 400)
	for _, l := range [][]impl.Field{allowed, denied, none} {
		if next, code := impl.OpenFlow(bad, 40, l); code != 400 || !sameProxy(next, impl.Proxy{}) {
			t.Error(next, code)
		}
	}
}
