package disk

import "rootstock/api"

// keepBits is how many bits tell which writes are kept; behind the last one it is the first one's turn.
const keepBits = 64

// Off: the power goes; of the writes that aren't safe the i-th, counted from 0 on, in their order, is kept if the bit i mod 64 is set.
func (d *Disk) Off(keep uint64) {
	if d.ready() == api.OK {
		d.lose(keep)
	}
}

// On: the power is back.
func (d *Disk) On() {
	if d != nil {
		d.off = false
	}
}

// Arm: the power goes in the n-th act from now on, and these writes are kept; n below 1: it doesn't.
func (d *Disk) Arm(n int, keep uint64) {
	if d != nil {
		d.fuse, d.keep = max(n, 0), keep
	}
}

// Acts: how many acts there were.
func (d *Disk) Acts() int {
	if d == nil {
		return 0
	}
	return d.acts
}

// Down: whether the power is off.
func (d *Disk) Down() bool { return d != nil && d.off }

// act does what isn't refused, unless the power goes in it.
func (d *Disk) act(do func()) api.Errno {
	if d.burn() {
		return api.ErrDown
	}
	do()
	return api.OK
}

// burn counts an act, and answers whether the power goes in it.
func (d *Disk) burn() bool {
	d.acts++
	if d.fuse == 0 {
		return false
	}
	d.fuse--
	if d.fuse > 0 {
		return false
	}
	d.lose(d.keep)
	return true
}

// lose takes the power: what is safe is all that there is, with the writes that are kept.
func (d *Disk) lose(keep uint64) {
	for i, w := range d.late {
		if keep>>(i%keepBits)&1 == 1 {
			d.safe.put(w)
		}
	}
	d.now = d.safe.twin()
	d.late = nil
	d.off = true
	d.fuse = 0
}
