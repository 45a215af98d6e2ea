package disk

import (
	"bytes"
	"maps"
	"slices"

	"octavo/api"
)

// piece is what a loss of power keeps or takes away as a whole: bytes that don't go over a sector's end, or a cut.
type piece struct {
	name  string
	at    int // the place of the bytes, or how many bytes the cut leaves
	bytes []byte
	cut   bool
}

// on does the piece on a file's bytes, and answers what has become of them; their memory is used on.
func (p piece) on(b []byte) []byte {
	if p.cut {
		return b[:min(p.at, len(b))]
	}
	if p.at > len(b) {
		// A piece that was lost ahead of this one would have had these bytes.
		b = append(b, make([]byte, p.at-len(b))...)
	}
	n := copy(b[p.at:], p.bytes)
	return append(b, p.bytes[n:]...)
}

// pieces answers those of a Write.
func pieces(name string, at int, b []byte) []piece {
	b = bytes.Clone(b)
	var list []piece
	for len(b) > 0 {
		n := min(api.Sector-at%api.Sector, len(b))
		list = append(list, piece{name: name, at: at, bytes: b[:n]})
		at, b = at+n, b[n:]
	}
	return list
}

// wait does pieces on what is to be seen of their files, and lets them wait.
func (d *Disk) wait(list ...piece) {
	for _, p := range list {
		f := d.made(p.name)
		f.now = p.on(f.now)
	}
	d.waiting = append(d.waiting, list...)
}

// taken answers the pieces of a file that wait, which none of them does any more.
func (d *Disk) taken(name string) []piece {
	var list []piece
	for _, p := range d.waiting {
		if p.name == name {
			list = append(list, p)
		}
	}
	d.waiting = slices.DeleteFunc(d.waiting, func(p piece) bool { return p.name == name })
	return list
}

// Crash has the power go and come back, and keeps of the pieces that wait those at which an odd number stands in picks, that are gone round.
func (d *Disk) Crash(picks []int) {
	if d == nil {
		return
	}
	for i, p := range d.waiting {
		if len(picks) == 0 || picks[i%len(picks)]%2 == 0 {
			continue
		}
		f := d.files[p.name]
		f.safe = p.on(f.safe)
		f.stays = f.stays || !p.cut
	}
	maps.DeleteFunc(d.files, func(_ string, f *file) bool { return !f.stays })
	for _, f := range d.files {
		f.now = bytes.Clone(f.safe)
	}
	d.waiting, d.down, d.armed = nil, false, false
}
