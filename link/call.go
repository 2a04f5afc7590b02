package link

import (
	"errors"

	"shackle/api"
	"shackle/graph"
	"shackle/guest"
	"shackle/little"
)

const (
	stackRegister = 4
	stackTop      = api.StackBase + api.StackPages*api.Page
	mostArgs      = 3
)

// mostNested bounds the calls that are under way in one another: code that asks for itself without end would else take all of the stack.
const mostNested = 1 << 16

// errAsked leaves a run in which the guest asked to have a slot bound.
var errAsked = errors.New("shackle: a slot is to be bound")

// callee is whose code is called: an object's path, and a symbol's name.
type callee struct{ object, name string }

// desk is where the guest asks the linker. A slot is bound behind the run, not within it: what is called for that takes of the fuel that the run has left, and its traps come behind those of the run.
type desk struct {
	link          *Link
	object, index uint64
}

// Bind notes which slot is to be bound.
func (d *desk) Bind(object, index uint64) (uint64, error) {
	d.object, d.index = object, index
	return 0, errAsked
}

// TLS is an address in the running thread's storage.
func (d *desk) TLS(module, offset uint64) (uint64, error) {
	l := d.link
	at, err := l.store.Addr(l.mem, l.thread, int(module), offset)
	if err != nil {
		return 0, api.ErrGuest
	}
	return at, nil
}

// Run calls the program's entry: P21.3.
func (l *Link) Run() (uint64, error) {
	return l.Call(firstThread, l.objects[program].base+l.files[program].Head.Entry)
}

// Call calls an address: P21.3.
func (l *Link) Call(thread int, addr uint64, args ...uint64) (uint64, error) {
	if _, err := l.store.Pointer(thread); err != nil || len(args) > mostArgs {
		return 0, fault("", "", api.ErrArg)
	}
	l.thread = thread
	v, err := l.invoke(callee{}, addr, args...)
	l.thread = firstThread
	return v, err
}

// Thread is a new thread: P21.3.
func (l *Link) Thread() (int, error) {
	n, err := l.store.Thread(l.mem)
	if err != nil {
		return 0, fault("", "", err)
	}
	return n, nil
}

// Local is an address in thread-local storage: P21.3.
func (l *Link) Local(thread, module int, offset uint64) (uint64, error) {
	at, err := l.store.Addr(l.mem, thread, module, offset)
	if err != nil {
		return 0, fault("", "", err)
	}
	return at, nil
}

// invoke calls code on the running thread. A fault of what was asked meanwhile stays as it is.
func (l *Link) invoke(who callee, addr uint64, args ...uint64) (uint64, error) {
	v, err := l.call(addr, args)
	if err == nil {
		return v, nil
	}
	var met *api.Fault
	if errors.As(err, &met) {
		return 0, met
	}
	if errors.Is(err, api.ErrFuel) {
		return 0, fault(who.object, who.name, api.ErrFuel)
	}
	return 0, fault(who.object, who.name, api.ErrGuest)
}

// call calls code, and binds each slot that it asks for.
func (l *Link) call(addr uint64, args []uint64) (uint64, error) {
	if l.nested >= mostNested {
		l.fuel = 0
		return 0, api.ErrFuel
	}
	l.nested++
	defer func() { l.nested-- }()
	r, err := l.enter(addr, args)
	if err != nil {
		return 0, err
	}
	d := &desk{link: l}
	for {
		events, left, err := guest.Run(l.mem, d, &r, l.fuel)
		l.events = append(l.events, events...)
		l.fuel = left
		if !errors.Is(err, errAsked) {
			return r.R[0], err
		}
		if r.IP, err = l.bindSlot(d.object, d.index); err != nil {
			return 0, err
		}
		r.R[stackRegister] += 16
	}
}

// enter is the registers with which a call begins, as guest.Call has them: that the run can be gone on with, they are kept here.
func (l *Link) enter(addr uint64, args []uint64) (api.Regs, error) {
	pointer, err := l.store.Pointer(l.thread)
	if err != nil {
		return api.Regs{}, err
	}
	r := api.Regs{IP: addr, FS: pointer}
	for i, v := range args {
		r.R[[...]int{7, 6, 2}[i]] = v
	}
	r.R[stackRegister] = stackTop - 8
	return r, l.mem.Write(stackTop-8, little.Bytes(api.LinkerPage, 8))
}

// bindSlot binds a slot of an object, and tells where it goes from then on.
func (l *Link) bindSlot(number, index uint64) (uint64, error) {
	if number >= uint64(len(l.objects)) || l.objects[number].gone {
		return 0, api.ErrGuest
	}
	plt := l.files[number].Plt
	if index >= uint64(len(plt)) || plt[index].Type != relSlot {
		return 0, api.ErrGuest
	}
	b, err := l.relocation(int(number), plt[index])
	return b.Addr, err
}

// begin begins an object, and ahead of it what it depends on, but those that were begun.
func (l *Link) begin(root int) error {
	for _, i := range graph.Begin(l.deps(), []int{root}) {
		if l.objects[i].begun {
			continue
		}
		l.objects[i].begun = true
		l.hear(api.Audit{Kind: api.Begun, Object: i})
		x, d := l.objects[i], l.files[i].Dyn
		if d.HasInit {
			if _, err := l.invoke(callee{object: x.path}, x.base+d.Init); err != nil {
				return err
			}
		}
		addrs, err := l.array(i, d.InitArray, d.InitArraysz)
		if err != nil {
			return err
		}
		if err := l.invokeAll(x.path, addrs); err != nil {
			return err
		}
	}
	return nil
}

// invokeAll calls code of an object at some addresses, one behind the other, but those that are 0.
func (l *Link) invokeAll(path string, addrs []uint64) error {
	for _, addr := range addrs {
		if addr == 0 {
			continue
		}
		if _, err := l.invoke(callee{object: path}, addr); err != nil {
			return err
		}
	}
	return nil
}

// array is the addresses of an array of an object, as they stand in memory.
func (l *Link) array(i int, at, size uint64) ([]uint64, error) {
	x := l.objects[i]
	if size > api.MaxFile {
		return nil, fault(x.path, "", api.ErrGuest)
	}
	b, err := l.mem.Peek(x.base+at, size/8*8)
	if err != nil {
		return nil, fault(x.path, "", api.ErrGuest)
	}
	var addrs []uint64
	for ; len(b) > 0; b = b[8:] {
		addrs = append(addrs, little.Number(b[:8]))
	}
	return addrs, nil
}
