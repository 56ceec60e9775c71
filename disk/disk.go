// Package disk is layer 1: a stand-in for a disk that loses power, fails and is full. See shared/doc/01-disk.md.
package disk

import (
	"bytes"

	"amphora/api"
)

// Disk is a directory of files, and what of it is durable.
type Disk struct {
	meter
	size    int
	dir     directory
	synced  directory // as it was when it was last synced
	changes []change  // made since then
}

// New is a disk of a size.
func New(size int) (*Disk, error) {
	if size < 0 || size > api.MaxDisk {
		return nil, api.ErrRange
	}
	return &Disk{size: size, dir: directory{}, synced: directory{}}, nil
}

// ready looks for the errors that come ahead of all others in steps and reads.
func (d *Disk) ready(names ...string) error {
	if d == nil {
		return api.ErrForm
	}
	if d.down {
		return api.ErrDown
	}
	for _, name := range names {
		if !goodName(name) {
			return api.ErrName
		}
	}
	return nil
}

func (d *Disk) find(name string) (*file, error) {
	if err := d.ready(name); err != nil {
		return nil, err
	}
	if !d.dir.has(name) {
		return nil, api.ErrGone
	}
	return d.dir[name], nil
}

// alter is the step of a change of the directory.
func (d *Disk) alter(c change) error {
	if err := d.step(); err != nil {
		return err
	}
	d.dir.apply(c)
	d.changes = append(d.changes, c)
	return nil
}

// Create makes a file without bytes.
func (d *Disk) Create(name string) error {
	if err := d.ready(name); err != nil {
		return err
	}
	if d.dir.has(name) {
		return api.ErrThere
	}
	if d.dir.full() {
		return api.ErrMany
	}
	return d.alter(change{to: name, made: &file{}})
}

// Append puts the parts' bytes behind a file's.
func (d *Disk) Append(name string, parts ...[]byte) error {
	f, err := d.find(name)
	if err != nil {
		return err
	}
	if !d.fits(parts) {
		return api.ErrFull
	}
	if err := d.step(); err != nil {
		return err
	}
	for _, part := range parts {
		f.data = append(f.data, part...)
	}
	return nil
}

// fits takes the parts off the room one by one, as their sum could be beyond an int. The room is below 0 where files were put there from outside: then not even parts without bytes fit.
func (d *Disk) fits(parts [][]byte) bool {
	room := d.size - d.dir.used()
	for _, part := range parts {
		if len(part) > room {
			return false
		}
		room -= len(part)
	}
	return room >= 0
}

// Sync makes a file's bytes durable; its name needs SyncDir.
func (d *Disk) Sync(name string) error {
	f, err := d.find(name)
	if err != nil {
		return err
	}
	if err := d.step(); err != nil {
		return err
	}
	f.sync()
	return nil
}

// SyncDir makes the directory durable; the files' bytes need Sync.
func (d *Disk) SyncDir() error {
	if err := d.ready(); err != nil {
		return err
	}
	if err := d.step(); err != nil {
		return err
	}
	d.settle()
	return nil
}

// settle makes the directory the one that crashes begin with.
func (d *Disk) settle() {
	d.synced, d.changes = d.dir.copied(), nil
}

// Rename moves a file, over another one if there is one.
func (d *Disk) Rename(from, to string) error {
	if err := d.ready(from, to); err != nil {
		return err
	}
	if !d.dir.has(from) {
		return api.ErrGone
	}
	return d.alter(change{from: from, to: to})
}

// Remove takes a file's name away.
func (d *Disk) Remove(name string) error {
	if _, err := d.find(name); err != nil {
		return err
	}
	return d.alter(change{from: name})
}

// Read is a file's bytes.
func (d *Disk) Read(name string) ([]byte, error) {
	f, err := d.find(name)
	if err != nil {
		return nil, err
	}
	return bytes.Clone(f.data), nil
}

// ReadAt is n of a file's bytes, from at on.
func (d *Disk) ReadAt(name string, at, n int) ([]byte, error) {
	f, err := d.find(name)
	if err != nil {
		return nil, err
	}
	if at < 0 || n < 0 || at > len(f.data) || n > len(f.data)-at { // at+n could be beyond an int
		return nil, api.ErrRange
	}
	return bytes.Clone(f.data[at : at+n]), nil
}

// List is the names, rising.
func (d *Disk) List() []string {
	if d == nil {
		return nil
	}
	return d.dir.names()
}

// Files is the files, by rising names.
func (d *Disk) Files() []api.File {
	if d == nil {
		return nil
	}
	var files []api.File
	for _, name := range d.dir.names() {
		files = append(files, api.File{Name: name, Data: bytes.Clone(d.dir[name].data)})
	}
	return files
}

// Used is how many bytes the files have.
func (d *Disk) Used() int {
	if d == nil {
		return 0
	}
	return d.dir.used()
}

// Steps is how many steps counted.
func (d *Disk) Steps() int {
	if d == nil {
		return 0
	}
	return d.steps
}

// Down tells whether the power is gone.
func (d *Disk) Down() bool { return d != nil && d.down }

// Arm says behind how many steps the power goes.
func (d *Disk) Arm(n int) error {
	if d == nil {
		return api.ErrForm
	}
	return d.arm(n)
}

// Fail says behind how many steps one fails, and behind how many more the next.
func (d *Disk) Fail(behind ...int) error {
	if d == nil {
		return api.ErrForm
	}
	return d.plan(behind)
}

// Crash takes what isn't durable, but for what s lets survive; then the power is there again.
func (d *Disk) Crash(s api.Survival) {
	if d == nil {
		return
	}
	d.dir = d.synced
	for _, c := range d.changes[:min(max(s.Dirs, 0), len(d.changes))] {
		d.dir.apply(c)
	}
	for i, name := range d.dir.names() {
		extra := 0
		if i < len(s.Cuts) {
			extra = s.Cuts[i]
		}
		d.dir[name].crash(extra)
	}
	d.settleAll()
	d.restart()
}

// settleAll makes all that is there durable.
func (d *Disk) settleAll() {
	for _, f := range d.dir {
		f.sync()
	}
	d.settle()
}

// Put puts a file there from outside, whatever the size of the disk.
func (d *Disk) Put(name string, data []byte) error {
	if err := outside(d, name); err != nil {
		return err
	}
	if !d.dir.has(name) && d.dir.full() {
		return api.ErrMany
	}
	d.dir.apply(change{to: name, made: &file{data: bytes.Clone(data)}})
	d.settleAll()
	return nil
}

// Drop takes a file away from outside.
func (d *Disk) Drop(name string) error {
	if err := outside(d, name); err != nil {
		return err
	}
	if !d.dir.has(name) {
		return api.ErrGone
	}
	d.dir.apply(change{from: name})
	d.settleAll()
	return nil
}

// outside looks for the errors of what is done from outside, where the power doesn't matter.
func outside(d *Disk, name string) error {
	if d == nil {
		return api.ErrForm
	}
	if !goodName(name) {
		return api.ErrName
	}
	return nil
}
