package tests

import (
	"slices"
	"testing"

	"loop.example/g00206/impl"
)

// watchedProxy shows whatever is written into a proxy, into its texts, or behind its lists.
type watchedProxy struct {
	proxy impl.Proxy
	rules watchedList[impl.Allow]
	flows watchedList[impl.Flow]
	texts []byte
	was   string
}

// watchProxy lays behind the lists what would speak, be found or make them bad, if someone looked there.
func watchProxy(p impl.Proxy) watchedProxy {
	w := watchedProxy{proxy: p}
	for _, r := range p.Rules {
		w.texts = append(w.texts, r.Host...)
	}
	for _, f := range p.Flows {
		w.texts = append(w.texts, f.Host...)
	}
	w.was = string(w.texts)
	one := bare(w.texts)
	cut := func(n int) string {
		text := one[:n]
		one = one[n:]
		return text
	}
	own := keptProxy(p)
	for i, r := range own.Rules {
		own.Rules[i].Host = cut(len(r.Host))
	}
	for i, f := range own.Flows {
		own.Flows[i].Host = cut(len(f.Host))
	}
	w.rules = watchList(own.Rules, rule(false, "*", 1, 65535), rule(false, "", 0, 0), impl.Allow{})
	w.flows = watchList(own.Flows, impl.Flow{Stream: mostStream, Host: "behind", Port: 1}, impl.Flow{Stream: -7}, impl.Flow{})
	w.proxy.Rules, w.proxy.Flows = w.rules.list, w.flows.list
	return w
}

func (w watchedProxy) wantUnwritten(t *testing.T) {
	t.Helper()
	w.rules.wantUnwritten(t)
	w.flows.wantUnwritten(t)
	if string(w.texts) != w.was {
		t.Fatalf("%x became %x", w.was, w.texts)
	}
}

// wantOwn holds an answer against the proxy that it was made of, and writes all over it.
func (w watchedProxy) wantOwn(t *testing.T, answer impl.Proxy, texts ...string) {
	t.Helper()
	wantListsApart(t, memoryOf(w.rules.whole), memoryOf(w.flows.whole), memoryOf(answer.Rules), memoryOf(answer.Flows))
	for _, r := range answer.Rules {
		texts = append(texts, r.Host)
	}
	for _, f := range answer.Flows {
		texts = append(texts, f.Host)
	}
	for _, text := range texts {
		wantNew(t, text, bare(w.texts))
	}
	wantNothingBehind(t, answer.Rules)
	wantNothingBehind(t, answer.Flows)
	w.wantUnwritten(t)
}

func TestOpenFlowWritesIntoNothing(t *testing.T) {
	var s steps
	counts := map[string]int{}
	for range 15000 {
		p, l := s.someProxy(), s.someAsk()
		stream := 4 * s.below(20)
		w, asked := watchProxy(p), watchFields(l)
		want, wantCode := impl.OpenFlow(p, stream, l)
		next, code := impl.OpenFlow(w.proxy, stream, asked.fields.list)
		if !sameProxy(next, want) || code != wantCode {
			t.Fatalf("%v: %v %d, then %v %d", p, want, wantCode, next, code)
		}
		for _, f := range next.Flows {
			wantNew(t, f.Host, bare(asked.texts))
		}
		w.wantOwn(t, next)
		asked.wantUnwritten(t)
		counts[decimal(code)]++
	}
	wantCounts(t, counts, map[string]int{"200": 2000, "400": 2000, "403": 1000, "503": 100})
}

// The last flow but one goes from a full list, so that there is room behind it.
func TestOpenFlowInTheRoomOfAnother(t *testing.T) {
	p := proxy("+ * 1-65535", "")
	p.Flows = manyFlows(10)
	p.Flows = p.Flows[:9]
	kept := slices.Clone(p.Flows[:10])
	wantOpen(t, p, 100, targetFields(pathAhead+"a/53/"), 200)
	if !slices.Equal(p.Flows[:10], kept) {
		t.Errorf("%v became %v", kept, p.Flows[:10])
	}
}

func TestDatagramsWriteIntoNothing(t *testing.T) {
	var s steps
	counts := map[string]int{}
	for range 15000 {
		p := s.someProxy()
		w, was, sent := watchProxy(p), s.someUp(p), s.someDown()
		up, down := []byte(was), []byte(sent)
		want, wantFlow, wantData, wantOk := impl.UpDatagram(p, was)
		next, f, data, ok := impl.UpDatagram(w.proxy, bare(up))
		if !sameProxy(next, want) || f != wantFlow || data != wantData || ok != wantOk || string(up) != was {
			t.Fatalf("%v: %x: %v %v %q %v, then %v %v %q %v", p, was, want, wantFlow, wantData, wantOk, next, f, data, ok)
		}
		wantNew(t, data, bare(up))
		w.wantOwn(t, next, f.Host)
		counts["up "+decimal(truth(ok))]++
		stream := s.streamIn(p)
		want, wantText, wantOk := impl.DownDatagram(p, stream, sent)
		next, text, ok := impl.DownDatagram(w.proxy, stream, bare(down))
		if !sameProxy(next, want) || text != wantText || ok != wantOk || string(down) != sent {
			t.Fatalf("%v: %d %q: %v %q %v, then %v %q %v", p, stream, sent, want, wantText, wantOk, next, text, ok)
		}
		wantNew(t, text, bare(down))
		w.wantOwn(t, next)
		counts["down "+decimal(truth(ok))]++
	}
	wantCounts(t, counts, map[string]int{"up 0": 3000, "up 1": 3000, "down 0": 3000, "down 1": 3000})
}

// What goes leaves nothing behind the flows that stay.
func TestCloseAndTickWriteIntoNothing(t *testing.T) {
	var s steps
	counts := map[string]int{}
	for range 15000 {
		p := s.someProxy()
		w := watchProxy(p)
		stream, by := s.streamIn(p), s.someBy()
		want, wantOk := impl.CloseFlow(p, stream)
		next, ok := impl.CloseFlow(w.proxy, stream)
		if !sameProxy(next, want) || ok != wantOk {
			t.Fatalf("%v: %d: %v %v, then %v %v", p, stream, want, wantOk, next, ok)
		}
		w.wantOwn(t, next)
		counts["closed "+decimal(truth(ok))]++
		want, wantGone, wantOk := impl.TickProxy(p, by)
		next, gone, ok := impl.TickProxy(w.proxy, by)
		if !sameProxy(next, want) || !slices.Equal(gone, wantGone) || ok != wantOk {
			t.Fatalf("%v by %d: %v %v %v, then %v %v %v", p, by, want, wantGone, wantOk, next, gone, ok)
		}
		counts["ticked "+decimal(truth(ok))]++
		if len(gone) > 0 && len(next.Flows) > 0 {
			counts["some gone"]++
		}
		wantListsApart(t, memoryOf(gone), memoryOf(next.Rules), memoryOf(next.Flows), memoryOf(w.rules.whole), memoryOf(w.flows.whole))
		w.wantOwn(t, next)
		wantNothingBehind(t, gone)
	}
	wantCounts(t, counts, map[string]int{"closed 0": 3000, "closed 1": 3000, "ticked 0": 2000, "ticked 1": 5000, "some gone": 2000})
}

func TestTargetsAnswerNewMemory(t *testing.T) {
	var s steps
	for range 5000 {
		host, port := s.goodHost(), s.goodPort()
		given := []byte(host)
		path, ok := impl.TargetPath(bare(given), port)
		if !ok || string(given) != host {
			t.Fatalf("%q %d: %q %v", host, port, path, ok)
		}
		wantNew(t, path, bare(given))
		told := []byte(path)
		back, _, ok := impl.ParseTarget(bare(told))
		wantNew(t, back, bare(told))
		clear(told)
		clear(given)
		if back != host || !ok {
			t.Fatalf("%q became %q", host, back)
		}
	}
}

func TestRulesAreNotWrittenInto(t *testing.T) {
	var s steps
	for range 10000 {
		l, host, port := s.someRules(), s.someHost(), s.somePort()
		w := watchProxy(impl.Proxy{Rules: l, Idle: 1})
		given := []byte(host)
		want, wantOk := impl.AllowsTarget(l, host, port)
		if allowed, ok := impl.AllowsTarget(w.proxy.Rules, bare(given), port); allowed != want || ok != wantOk || string(given) != host {
			t.Fatalf("%v: %q %d: %v %v, then %v %v", l, host, port, want, wantOk, allowed, ok)
		}
		if impl.GoodProxy(w.proxy) != rulesTold(l) {
			t.Fatalf("%v: what lies behind counts", l)
		}
		w.wantUnwritten(t)
	}
}

// Nothing is kept from call to call.
func TestFlowsAreKeptInTheProxyAlone(t *testing.T) {
	p := someProxy()
	for range 3 {
		wantNewFlow(t, p, 12, "a", 53, flowsTold("4 a 53 70 0 9; 8 b 80 100 7 0; 12 a 53 100 0 0; 40 c.d 1000 99 1 1"))
		wantUp(t, p, "\x01\x00ping", oneFlow("4 a 53 100 1 9"), "ping")
		wantDown(t, p, 4, "pong", "\x01\x00pong", oneFlow("4 a 53 100 0 10"))
		wantClosedFlow(t, p, 4)
		wantTick(t, p, 30, 130, 4, 40)
		wantNoUp(t, p, "\x03\x00ping", "no flow")
	}
}
