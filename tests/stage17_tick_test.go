package tests

import (
	"slices"
	"testing"

	"loop.example/g00206/impl"
)

// wantTick holds which streams go, and that all else stays.
func wantTick(t *testing.T, p impl.Proxy, by int, now int, want ...int) impl.Proxy {
	t.Helper()
	kept := keptProxy(p)
	left := keptProxy(p)
	left.Now = now
	left.Flows = slices.DeleteFunc(left.Flows, func(f impl.Flow) bool { return slices.Contains(want, f.Stream) })
	next, gone, ok := impl.TickProxy(p, by)
	if !slices.Equal(gone, want) || !ok {
		t.Errorf("%v by %d: %v %v, not %v", p, by, gone, ok, want)
	}
	if !sameProxy(next, left) || !impl.GoodProxy(next) {
		t.Errorf("%v by %d: %v, not %v", p, by, next, left)
	}
	wantKeptProxy(t, "ticked", p, kept)
	return next
}

func wantNoTick(t *testing.T, p impl.Proxy, by int) {
	t.Helper()
	kept := keptProxy(p)
	if next, gone, ok := impl.TickProxy(p, by); !sameProxy(next, impl.Proxy{}) || len(gone) != 0 || ok {
		t.Errorf("by %d: %v %v %v", by, next, gone, ok)
	}
	wantKeptProxy(t, "not ticked", p, kept)
}

func TestTickProxy(t *testing.T) {
	p := someProxy() // flows used at 70, 100 and 99; it is 100, and they may be quiet for 30
	wantTick(t, p, 0, 100)
	wantTick(t, p, 1, 101, 4)
	wantTick(t, p, 29, 129, 4)
	wantTick(t, p, 30, 130, 4, 40)
	wantTick(t, p, 31, 131, 4, 8, 40)
	wantTick(t, p, 1000, 1100, 4, 8, 40)
	wantTick(t, p, mostTick, mostTick, 4, 8, 40)
	wantTick(t, proxy("", ""), 0, 100)
	wantTick(t, proxy("", ""), 7, 107)
	wantTick(t, impl.Proxy{Idle: 1}, mostTick, mostTick)
	p.Flows = manyFlows(10)
	wantTick(t, p, 0, 100, 0, 4, 8, 12, 16, 20, 24, 28, 32, 36)
}

// A flow goes when its Last is below Now less Idle, and stays when it is just there.
func TestTickProxyAtTheEdge(t *testing.T) {
	for _, idle := range []int{1, 2, 30, 59, 60, 61, 99, 100} {
		for by := range 4 {
			edge := 100 + by - idle
			for last := max(0, edge-2); last <= min(100, edge+2); last++ {
				p := impl.Proxy{Idle: idle, Now: 100, Flows: []impl.Flow{{Stream: 8, Host: "a", Port: 1, Last: last, Up: 3, Down: 4}}}
				if last < edge {
					wantTick(t, p, by, 100+by, 8)
				} else {
					wantTick(t, p, by, 100+by)
				}
			}
		}
	}
	old := impl.Proxy{Idle: 100000, Now: 100000, Flows: flowsTold("4 a 1 0 0 0; 8 a 1 1 0 0")}
	wantTick(t, old, 0, 100000)
	wantTick(t, old, 1, 100001, 4)
	wantTick(t, old, 2, 100002, 4, 8)
	young := impl.Proxy{Idle: 100000, Flows: flowsTold("4 a 1 0 0 0")}
	wantTick(t, young, 100000, 100000)
	wantTick(t, young, 100001, 100001, 4)
	wantTick(t, young, mostTick, mostTick, 4)
	for _, by := range []int{0, 1, 98, 99, 100} {
		wantTick(t, impl.Proxy{Idle: 100, Flows: flowsTold("4 a 1 0 0 0")}, by, by)
	}
}

// The time goes on up to MaxTick and stands there; flows are held against where it stands.
func TestTickProxyToTheEnd(t *testing.T) {
	last := impl.Proxy{Idle: 5, Now: mostTick - 3, Flows: []impl.Flow{
		{Stream: 4, Host: "a", Port: 1, Last: mostTick - 6},
		{Stream: 8, Host: "a", Port: 1, Last: mostTick - 5},
		{Stream: 12, Host: "a", Port: 1, Last: mostTick - 4},
	}}
	for by := range 3 {
		wantTick(t, last, by, mostTick-3+by)
	}
	for _, by := range []int{3, 4, 5, 6, 1000, mostTick - 1, mostTick} {
		wantTick(t, last, by, mostTick, 4)
	}
	last.Now = mostTick
	for _, by := range []int{0, 1, mostTick} {
		wantTick(t, last, by, mostTick, 4)
	}
	for _, by := range []int{-1, -2, -mostTick, mostTick + 1, mostTick + 2, 2 * mostTick, maxInt, maxInt - mostTick, minInt} {
		wantNoTick(t, last, by)
		wantNoTick(t, someProxy(), by)
		wantNoTick(t, impl.Proxy{Idle: 1}, by)
	}
}

// Which flows go hangs neither on where they stand nor on which of them was used last.
func TestTickProxyInAnyOrder(t *testing.T) {
	for _, order := range orders(6) {
		p := impl.Proxy{Idle: 1, Now: 10}
		for i, last := range order {
			p.Flows = append(p.Flows, impl.Flow{Stream: 4 * i, Host: letters(1 + i), Port: 1 + i, Last: last, Up: i, Down: last})
		}
		for edge := range 7 {
			p.Idle = 10 - edge
			var want []int
			for i, last := range order {
				if last < edge {
					want = append(want, 4*i)
				}
			}
			wantTick(t, p, 0, 10, want...)
		}
	}
	same := impl.Proxy{Idle: 5, Now: 10, Flows: manyFlows(10)}
	for kept := range 1 << 10 {
		var want []int
		for i := range same.Flows {
			same.Flows[i].Last = 5
			if kept&(1<<i) == 0 {
				same.Flows[i].Last = 4
				want = append(want, 4*i)
			}
		}
		wantTick(t, same, 0, 10, want...)
	}
}

// Promise 17: nothing goes by a flow that was quiet for too long; what goes by one keeps it.
func TestTickProxyAmongDatagrams(t *testing.T) {
	p := proxy("+ * 1-65535", "4 a 53 100 0 0; 8 b 53 100 0 0; 12 c 53 100 0 0")
	for range 50 {
		p = wantTick(t, p, 20, p.Now+20)
		p, _, _, _ = impl.UpDatagram(p, "\x01\x00ping")
		p, _, _ = impl.DownDatagram(p, 8, "pong")
		p = wantTick(t, p, 10, p.Now+10)
		p, _, _, _ = impl.UpDatagram(p, "\x03\x00ping")
	}
	if len(p.Flows) != 3 || p.Flows[0].Up != 50 || p.Flows[1].Down != 50 || p.Flows[2].Up != 50 {
		t.Fatal(p)
	}
	p, _, _, _ = impl.UpDatagram(p, "\x03\x00ping")
	p = wantTick(t, p, 21, p.Now+21, 4, 8)
	wantNoUp(t, p, "\x01\x00ping", "gone")
	wantNoDown(t, p, 8, "pong", "gone")
	wantNoClose(t, p, 4)
	p = wantTick(t, p, 9, p.Now+9)
	p = wantTick(t, p, 1, p.Now+1, 12)
	wantNoUp(t, p, "\x03\x00ping", "gone")
	wantTick(t, p, 100, p.Now+100)
	wantNewFlow(t, p, 4, "a", 53, []impl.Flow{{Stream: 4, Host: "a", Port: 53, Last: p.Now}})
}
