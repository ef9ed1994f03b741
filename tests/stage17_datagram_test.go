package tests

import (
	"slices"
	"strings"
	"testing"

	"loop.example/g00206/impl"
)

// wantUp holds bytes as what goes out by a stream's flow, and answers the proxy behind it.
func wantUp(t *testing.T, p impl.Proxy, s string, want impl.Flow, wantData string) impl.Proxy {
	t.Helper()
	kept := keptProxy(p)
	next, f, data, ok := impl.UpDatagram(p, s)
	if f != want || data != wantData || !ok {
		t.Errorf("%.60x: %v %.60q %v, not %v %.60q", s, f, data, ok, want, wantData)
	}
	wantKeptProxy(t, "up", p, kept)
	wantWithFlow(t, next, p, want)
	return next
}

// wantWithFlow holds a proxy as the one that it was, but for one flow.
func wantWithFlow(t *testing.T, next, was impl.Proxy, f impl.Flow) {
	t.Helper()
	want := keptProxy(was)
	for i := range want.Flows {
		if want.Flows[i].Stream == f.Stream {
			want.Flows[i] = f
		}
	}
	if !sameProxy(next, want) || !impl.GoodProxy(next) {
		t.Errorf("%v, not %v", next, want)
	}
}

func wantNoUp(t *testing.T, p impl.Proxy, s, why string) {
	t.Helper()
	kept := keptProxy(p)
	next, f, data, ok := impl.UpDatagram(p, s)
	if !sameProxy(next, impl.Proxy{}) || f != (impl.Flow{}) || data != "" || ok {
		t.Errorf("%s: %.60x: %v %v %.60q %v", why, s, next, f, data, ok)
	}
	wantKeptProxy(t, why, p, kept)
}

func wantDown(t *testing.T, p impl.Proxy, stream int, data, want string, flow impl.Flow) impl.Proxy {
	t.Helper()
	kept := keptProxy(p)
	next, text, ok := impl.DownDatagram(p, stream, data)
	if text != want || !ok {
		t.Errorf("%d: %.60q: %.60x %v, not %.60x", stream, data, text, ok, want)
	}
	wantKeptProxy(t, "down", p, kept)
	wantWithFlow(t, next, p, flow)
	return next
}

func wantNoDown(t *testing.T, p impl.Proxy, stream int, data, why string) {
	t.Helper()
	kept := keptProxy(p)
	next, text, ok := impl.DownDatagram(p, stream, data)
	if !sameProxy(next, impl.Proxy{}) || text != "" || ok {
		t.Errorf("%s: %d: %.60q: %v %.60x %v", why, stream, data, next, text, ok)
	}
	wantKeptProxy(t, why, p, kept)
}

func oneFlow(told string) impl.Flow {
	return flowsTold(told)[0]
}

func TestUpDatagram(t *testing.T) {
	p := someProxy()
	wantUp(t, p, "\x01\x00ping", oneFlow("4 a 53 100 1 9"), "ping")
	wantUp(t, p, "\x02\x00", oneFlow("8 b 80 100 8 0"), "")
	wantUp(t, p, "\x0a\x00\x00\xff", oneFlow("40 c.d 1000 100 2 1"), "\x00\xff")
	wantUp(t, p, "\x40\x01\x00ping", oneFlow("4 a 53 100 1 9"), "ping")
	wantUp(t, p, "\x01\x40\x00ping", oneFlow("4 a 53 100 1 9"), "ping")
	wantUp(t, p, varint(1, 8)+varint(0, 8)+"ping", oneFlow("4 a 53 100 1 9"), "ping")
	wantUp(t, p, varint(1, 4)+varint(0, 4)+"\x00", oneFlow("4 a 53 100 1 9"), "\x00")
	p.Flows = flowsTold("0 a 53 0 0 0")
	wantUp(t, p, "\x00\x00\x00\x00", oneFlow("0 a 53 100 1 0"), "\x00\x00")
	p.Flows = append(p.Flows, impl.Flow{Stream: mostStream, Host: "z", Port: 65535})
	wantUp(t, p, wide(mostTold)+"\x00x", impl.Flow{Stream: mostStream, Host: "z", Port: 65535, Last: 100, Up: 1}, "x")
}

func TestUpDatagramOfSizes(t *testing.T) {
	p := someProxy()
	for _, size := range []int{0, 1, 63, 64, 1199, 1200} {
		wantUp(t, p, "\x01\x00"+letters(size), oneFlow("4 a 53 100 1 9"), letters(size))
		wantUp(t, p, varint(1, 8)+varint(0, 8)+letters(size), oneFlow("4 a 53 100 1 9"), letters(size))
	}
	for _, size := range []int{1201, 1202, 1498, 1499, 5000} {
		wantNoUp(t, p, "\x01\x00"+letters(size), "too much")
	}
}

func TestUpDatagramElsewhere(t *testing.T) {
	p := someProxy()
	for context := 1; context < 300; context++ {
		wantNoUp(t, p, "\x01"+leastVarint(context)+"ping", "another context")
	}
	for _, context := range []int{16384, 1073741824, mostVarint} {
		wantNoUp(t, p, "\x01"+leastVarint(context)+"ping", "another context")
	}
	for quarter := range 300 {
		if quarter != 1 && quarter != 2 && quarter != 10 {
			wantNoUp(t, p, leastVarint(quarter)+"\x00ping", "another stream")
		}
	}
	for _, quarter := range []int{1073741824, mostTold, mostTold + 1, mostTold + 2, mostVarint} {
		wantNoUp(t, p, leastVarint(quarter)+"\x00ping", "another stream")
	}
	for _, s := range []string{"", "\x01", "\x40", "\x40\x01", "\x01\x40", "\x01\x80\x00\x00", "\xc0\x00\x00\x00\x00\x00\x00\x01", "\x04\x00ping", "\x08\x00ping", "ping", "\x00\x00ping"} {
		wantNoUp(t, p, s, "not so carried")
	}
	for _, s := range []string{"\x01\x00ping", "\x00\x00ping", "\x00\x00", ""} {
		wantNoUp(t, proxy("+ * 1-65535", ""), s, "no flow")
	}
}

// What is not read is nothing carried, also where a flow has the stream that stands for nothing.
func TestUpDatagramOfTheFirstStream(t *testing.T) {
	p := proxy("+ * 1-65535", "0 a 53 70 0 9")
	wantUp(t, p, "\x00\x00", oneFlow("0 a 53 100 1 9"), "")
	for _, s := range []string{"", "\x00", "\x40", "\x00\x40", "\x00\x01", "\x00\x01x", "\x01\x00", "\x00\x00" + letters(1201), "\x00\x00" + letters(1499), leastVarint(mostTold+1) + "\x00"} {
		wantNoUp(t, p, s, "nothing carried")
	}
}

func TestDownDatagram(t *testing.T) {
	p := someProxy()
	wantDown(t, p, 4, "pong", "\x01\x00pong", oneFlow("4 a 53 100 0 10"))
	wantDown(t, p, 8, "", "\x02\x00", oneFlow("8 b 80 100 7 1"))
	wantDown(t, p, 40, "\x00\xff", "\x0a\x00\x00\xff", oneFlow("40 c.d 1000 100 1 2"))
	p.Flows = append(flowsTold("0 a 53 0 0 0; 256 a 53 0 0 0; 65536 a 53 0 0 0"), impl.Flow{Stream: mostStream, Host: "z", Port: 65535})
	wantDown(t, p, 0, "\x00", "\x00\x00\x00", oneFlow("0 a 53 100 0 1"))
	wantDown(t, p, 256, "x", "\x40\x40\x00x", oneFlow("256 a 53 100 0 1"))
	wantDown(t, p, 65536, "x", "\x80\x00\x40\x00\x00x", oneFlow("65536 a 53 100 0 1"))
	wantDown(t, p, mostStream, "x", wide(mostTold)+"\x00x", impl.Flow{Stream: mostStream, Host: "z", Port: 65535, Last: 100, Down: 1})
}

func TestDownDatagramOfSizes(t *testing.T) {
	p := someProxy()
	for _, size := range []int{0, 1, 63, 64, 1199, 1200} {
		wantDown(t, p, 4, letters(size), "\x01\x00"+letters(size), oneFlow("4 a 53 100 0 10"))
	}
	for _, size := range []int{1201, 1202, 1500, 5000} {
		wantNoDown(t, p, 4, letters(size), "too much")
	}
}

// otherStreams are none of those that have a flow in someProxy.
func otherStreams() []int {
	return []int{0, 12, 36, 44, mostStream, mostStream - 4, 1, 2, 3, 5, 6, 7, 9, 10, 39, 41, -4, -8, -1, mostStream + 1, mostStream + 4, mostVarint, maxInt, minInt, minInt + 4}
}

func TestDownDatagramElsewhere(t *testing.T) {
	for _, stream := range otherStreams() {
		wantNoDown(t, someProxy(), stream, "pong", "no flow")
		wantNoDown(t, someProxy(), stream, "", "no flow")
		wantNoDown(t, proxy("+ * 1-65535", ""), stream, "pong", "no flows at all")
	}
}

// A count stands still where it can be no greater; the time goes on.
func TestDatagramsCounted(t *testing.T) {
	for _, c := range []struct{ was, is int }{{0, 1}, {1, 2}, {mostThrough - 2, mostThrough - 1}, {mostThrough - 1, mostThrough}, {mostThrough, mostThrough}} {
		p := proxy("", "4 a 53 7 0 0; 8 b 53 7 0 0")
		p.Flows[0].Up, p.Flows[0].Down = c.was, 5
		up := p.Flows[0]
		up.Last, up.Up = 100, c.is
		wantUp(t, p, "\x01\x00ping", up, "ping")
		p.Flows[0].Up, p.Flows[0].Down = 5, c.was
		down := p.Flows[0]
		down.Last, down.Down = 100, c.is
		wantDown(t, p, 4, "pong", "\x01\x00pong", down)
	}
	p := someProxy()
	for i := range 300 {
		p = wantUp(t, p, "\x01\x00ping", impl.Flow{Stream: 4, Host: "a", Port: 53, Last: 100, Up: i + 1, Down: i + 9}, "ping")
		p = wantDown(t, p, 4, "pong", "\x01\x00pong", impl.Flow{Stream: 4, Host: "a", Port: 53, Last: 100, Up: i + 1, Down: i + 10})
	}
}

// A flow stays open to where it goes, whatever the rules say now.
func TestDatagramsWhereNothingIsAllowed(t *testing.T) {
	for _, policy := range []string{"", "- * 1-65535", "- a 53-53"} {
		p := proxy(policy, "4 a 53 70 0 9")
		wantUp(t, p, "\x01\x00ping", oneFlow("4 a 53 100 1 9"), "ping")
		wantDown(t, p, 4, "pong", "\x01\x00pong", oneFlow("4 a 53 100 0 10"))
	}
}

func wantClosedFlow(t *testing.T, p impl.Proxy, stream int) impl.Proxy {
	t.Helper()
	kept := keptProxy(p)
	want := keptProxy(p)
	want.Flows = slices.DeleteFunc(want.Flows, func(f impl.Flow) bool { return f.Stream == stream })
	next, ok := impl.CloseFlow(p, stream)
	if !sameProxy(next, want) || !ok || len(next.Flows) != len(p.Flows)-1 {
		t.Errorf("%d: %v %v, not %v", stream, next, ok, want)
	}
	wantKeptProxy(t, "closed", p, kept)
	return next
}

func wantNoClose(t *testing.T, p impl.Proxy, stream int) {
	t.Helper()
	kept := keptProxy(p)
	if next, ok := impl.CloseFlow(p, stream); !sameProxy(next, impl.Proxy{}) || ok {
		t.Errorf("%d: %v %v", stream, next, ok)
	}
	wantKeptProxy(t, "not closed", p, kept)
}

// Promise 17: nothing goes when a flow is closed.
func TestCloseFlow(t *testing.T) {
	for _, order := range orders(4) {
		p := proxy("+ * 1-65535", "4 a 53 70 0 9; 8 b 80 100 7 0; 40 c.d 1000 99 1 1")
		p.Flows = append(p.Flows, impl.Flow{Stream: mostStream, Host: "z", Port: 65535})
		streams := []int{4, 8, 40, mostStream}
		for _, i := range order {
			up, _ := impl.CarriedBytes(carried(streams[i], 0, "ping"))
			if _, _, _, ok := impl.UpDatagram(p, up); !ok {
				t.Errorf("%d: nothing goes up", streams[i])
			}
			p = wantClosedFlow(t, p, streams[i])
			wantNoUp(t, p, up, "closed")
			wantNoDown(t, p, streams[i], "pong", "closed")
			wantNoClose(t, p, streams[i])
		}
	}
	p := proxy("+ * 1-65535", "")
	p.Flows = manyFlows(10)
	for stream := range 40 {
		if stream%4 == 0 {
			wantClosedFlow(t, p, stream)
		} else {
			wantNoClose(t, p, stream)
		}
	}
}

func TestCloseNoFlow(t *testing.T) {
	for _, stream := range otherStreams() {
		wantNoClose(t, someProxy(), stream)
		wantNoClose(t, proxy("+ * 1-65535", ""), stream)
	}
}

// A stream that was closed may be opened anew; nothing is left of what it was.
func TestOpenWhatWasClosed(t *testing.T) {
	p := wantClosedFlow(t, someProxy(), 8)
	wantNewFlow(t, p, 8, "new", 9, flowsTold("4 a 53 70 0 9; 8 new 9 100 0 0; 40 c.d 1000 99 1 1"))
	p.Flows = manyFlows(10)
	wantOpen(t, p, 100, targetFields(pathAhead+"a/53/"), 503)
	wantOpen(t, wantClosedFlow(t, p, 0), 100, targetFields(pathAhead+"a/53/"), 200)
}

// Promise 17: what goes up comes out byte by byte, what comes down is carried back to its stream.
func TestEachByteGoesThrough(t *testing.T) {
	p := proxy("+ * 1-65535", "4 a 53 70 0 9; 8 b 80 100 7 0; 40 c.d 1000 99 1 1")
	for b := range 256 {
		data := strings.Repeat(string([]byte{byte(b)}), 1+b%7)
		for _, f := range p.Flows {
			up, ok := impl.CarriedBytes(carried(f.Stream, 0, data))
			if !ok {
				t.Fatal(f)
			}
			f.Last, f.Up = 100, f.Up+1
			next := wantUp(t, p, up, f, data)
			f.Down++
			wantDown(t, next, f.Stream, data, up, f)
			if back, ok := impl.ReadCarried(up); back != carried(f.Stream, 0, data) || !ok {
				t.Errorf("%x: %v %v", up, back, ok)
			}
		}
	}
}
