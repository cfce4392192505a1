package bus

import (
	"cochineal/api"
	"cochineal/memory"
)

// Where devices begin.
const (
	timerAt   = memory.Devices
	portsAt   = timerAt + 4
	wheelAt   = portsAt + 5
	nothingAt = wheelAt + 3
)

const nothing = 255 // what is read where no device is

// device is what has the addresses from one to another.
type device struct {
	from  int
	to    int
	read  func(b *Bus, reg int) (api.Byte, api.Errno)
	write func(b *Bus, reg int, x api.Byte) (int, api.Errno)
}

// devices are all of them, by rising addresses.
func devices() [4]device {
	return [...]device{
		{timerAt, portsAt - 1, (*Bus).readTimer, (*Bus).writeTimer},
		{portsAt, wheelAt - 1, (*Bus).readPorts, (*Bus).writePorts},
		{wheelAt, nothingAt - 1, (*Bus).readWheel, (*Bus).writeWheel},
		{nothingAt, memory.Free - 1, (*Bus).readNothing, (*Bus).writeNothing},
	}
}

// find is what has an address, and which of its registers that is.
func find(at int) (device, int) {
	// What no device has is memory's, and so is the error of what is no address.
	found := device{read: (*Bus).readMemory, write: (*Bus).writeMemory}
look:
	for _, d := range devices() {
		switch {
		case at < d.from:
			break look
		case at <= d.to:
			found = d
			break look
		}
	}
	return found, at - found.from
}

func (b *Bus) readMemory(at int) (api.Byte, api.Errno) { return b.store.Read(at) }

func (b *Bus) writeMemory(at int, x api.Byte) (int, api.Errno) { return b.store.Write(at, x) }

func (b *Bus) readTimer(reg int) (api.Byte, api.Errno) {
	v, e := b.timer.Read(reg)
	return api.Byte{V: v}, e
}

func (b *Bus) writeTimer(reg int, x api.Byte) (int, api.Errno) {
	if rule, e := sink(x); e != api.OK {
		return rule, e
	}
	return 0, b.timer.Write(reg, x.V)
}

func (b *Bus) readPorts(reg int) (api.Byte, api.Errno) { return b.ports.Read(reg) }

func (b *Bus) writePorts(reg int, x api.Byte) (int, api.Errno) {
	return b.ports.Write(reg, x, b.cycles)
}

func (b *Bus) readWheel(reg int) (api.Byte, api.Errno) { return b.wheel.Read(reg) }

func (b *Bus) writeWheel(reg int, x api.Byte) (int, api.Errno) { return b.wheel.Write(reg, x) }

func (b *Bus) readNothing(int) (api.Byte, api.Errno) { return api.Byte{V: nothing}, api.OK }

func (b *Bus) writeNothing(_ int, x api.Byte) (int, api.Errno) { return sink(x) }

// sink is what is told of a byte that goes where all may read: no secret may.
func sink(x api.Byte) (int, api.Errno) {
	if x.T != 0 {
		return api.RuleSink, api.ErrAlarm
	}
	return 0, api.OK
}
