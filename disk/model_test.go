package disk_test

import (
	"bytes"
	"fmt"
	"maps"
	"math/rand"
	"slices"
	"strings"
	"testing"

	"amphora/api"
	"amphora/disk"
)

// model says what a disk must answer, built another way: it keeps every directory since the last sync whole instead of the changes.
type model struct {
	size, steps int
	down        bool
	arm         int // below 0: not armed
	fails       []int
	files       []modelFile
	dirs        []map[string]int // the synced one, then one behind each change; the last is the directory
}

type modelFile struct {
	data   string
	synced int
}

func newModel(size int) *model {
	return &model{size: size, arm: -1, dirs: []map[string]int{{}}}
}

func (m *model) dir() map[string]int { return m.dirs[len(m.dirs)-1] }

func (m *model) names() []string { return slices.Sorted(maps.Keys(m.dir())) }

func (m *model) used() int {
	n := 0
	for _, f := range m.dir() {
		n += len(m.files[f].data)
	}
	return n
}

func nameOK(name string) bool {
	return len(name) > 0 && len(name) < 65 && !strings.ContainsFunc(name, func(r rune) bool { return r <= ' ' || r > '~' || r == '/' })
}

// first is the first error of a call with these names, of which the first need must be there.
func (m *model) first(need int, names ...string) error {
	if m.down {
		return api.ErrDown
	}
	for _, n := range names {
		if !nameOK(n) {
			return api.ErrName
		}
	}
	for _, n := range names[:need] {
		if _, ok := m.dir()[n]; !ok {
			return api.ErrGone
		}
	}
	return nil
}

func (m *model) step(change func()) error {
	if m.arm == 0 {
		m.down = true
		return api.ErrDown
	}
	m.steps++
	m.arm--
	if m.arm < -1 {
		m.arm = -1
	}
	if len(m.fails) > 0 && m.fails[0] == 0 {
		m.fails = m.fails[1:]
		return api.ErrIO
	}
	if len(m.fails) > 0 {
		m.fails = append([]int{m.fails[0] - 1}, m.fails[1:]...)
	}
	change()
	return nil
}

// next is a directory behind a change.
func (m *model) next(change func(d map[string]int)) {
	d := maps.Clone(m.dir())
	change(d)
	m.dirs = append(m.dirs, d)
}

func (m *model) fresh(data string) int {
	m.files = append(m.files, modelFile{data: data})
	return len(m.files) - 1
}

func (m *model) create(name string) error {
	if err := m.first(0, name); err != nil {
		return err
	}
	if _, ok := m.dir()[name]; ok {
		return api.ErrThere
	}
	return m.step(func() { m.next(func(d map[string]int) { d[name] = m.fresh("") }) })
}

func (m *model) append(name string, parts [][]byte) error {
	if err := m.first(1, name); err != nil {
		return err
	}
	all := string(bytes.Join(parts, nil))
	if m.used()+len(all) > m.size {
		return api.ErrFull
	}
	return m.step(func() { m.files[m.dir()[name]].data += all })
}

func (m *model) sync(name string) error {
	if err := m.first(1, name); err != nil {
		return err
	}
	return m.step(func() {
		f := &m.files[m.dir()[name]]
		f.synced = len(f.data)
	})
}

func (m *model) syncDir() error {
	if m.down {
		return api.ErrDown
	}
	return m.step(func() { m.dirs = m.dirs[len(m.dirs)-1:] })
}

func (m *model) rename(from, to string) error {
	if err := m.first(1, from, to); err != nil {
		return err
	}
	return m.step(func() {
		m.next(func(d map[string]int) {
			f := d[from]
			delete(d, from)
			d[to] = f
		})
	})
}

func (m *model) remove(name string) error {
	if err := m.first(1, name); err != nil {
		return err
	}
	return m.step(func() { m.next(func(d map[string]int) { delete(d, name) }) })
}

func (m *model) crash(s api.Survival) {
	m.dirs = m.dirs[:max(0, min(len(m.dirs)-1, s.Dirs))+1]
	for i, name := range m.names() {
		f := &m.files[m.dir()[name]]
		if i < len(s.Cuts) && s.Cuts[i] > 0 {
			f.synced = min(len(f.data), f.synced+s.Cuts[i])
		}
		f.data = f.data[:f.synced]
	}
	m.settle()
	m.down, m.arm, m.fails = false, -1, nil
}

func (m *model) settle() {
	m.dirs = m.dirs[len(m.dirs)-1:]
	for _, f := range m.dir() {
		m.files[f].synced = len(m.files[f].data)
	}
}

func (m *model) put(name, data string) error {
	if !nameOK(name) {
		return api.ErrName
	}
	m.dir()[name] = m.fresh(data)
	m.settle()
	return nil
}

func (m *model) drop(name string) error {
	if !nameOK(name) {
		return api.ErrName
	}
	if _, ok := m.dir()[name]; !ok {
		return api.ErrGone
	}
	delete(m.dir(), name)
	m.settle()
	return nil
}

func (m *model) read(name string) (string, error) {
	if err := m.first(1, name); err != nil {
		return "", err
	}
	return m.files[m.dir()[name]].data, nil
}

func (m *model) shown() string {
	var all []string
	for _, n := range m.names() {
		all = append(all, n+"="+m.files[m.dir()[n]].data)
	}
	return strings.Join(all, " ")
}

// pair is a disk beside its model.
type pair struct {
	r *rand.Rand
	d *disk.Disk
	m *model
}

func (p pair) name() string {
	names := []string{"a", "b", "c", "d", "e", "a/b", ""}
	if n := p.r.Intn(40); n < 2 {
		return names[5+n]
	}
	return names[p.r.Intn(5)]
}

func (p pair) bytes() []byte {
	b := make([]byte, p.r.Intn(6))
	for i := range b {
		b[i] = byte('a' + p.r.Intn(26))
	}
	return b
}

// numbers go from -1 up to below most.
func (p pair) numbers(most int) []int {
	all := make([]int, p.r.Intn(6))
	for i := range all {
		all[i] = p.r.Intn(most+1) - 1
	}
	return all
}

// act makes one call on both; it answers what the call was, and both errors.
func (p pair) act() (string, error, error) {
	name := p.name()
	switch k := p.r.Intn(100); {
	case k < 16:
		return "Create " + name, p.d.Create(name), p.m.create(name)
	case k < 44:
		var parts [][]byte
		for range p.r.Intn(4) {
			parts = append(parts, p.bytes())
		}
		return "Append " + name, p.d.Append(name, parts...), p.m.append(name, parts)
	case k < 54:
		return "Sync " + name, p.d.Sync(name), p.m.sync(name)
	case k < 61:
		return "SyncDir", p.d.SyncDir(), p.m.syncDir()
	case k < 71:
		to := p.name()
		return "Rename " + name + " " + to, p.d.Rename(name, to), p.m.rename(name, to)
	case k < 78:
		return "Remove " + name, p.d.Remove(name), p.m.remove(name)
	}
	return p.odd(name)
}

func (p pair) odd(name string) (string, error, error) {
	switch k := p.r.Intn(22); {
	case k < 4:
		return p.arm(p.r.Intn(12) - 1)
	case k < 8:
		return p.fail(p.numbers(6))
	case k < 14:
		s := api.Survival{Dirs: p.r.Intn(9) - 1, Cuts: p.numbers(6)}
		p.d.Crash(s)
		p.m.crash(s)
		return fmt.Sprint("Crash ", s), nil, nil
	case k < 16:
		data := p.bytes()
		return "Put " + name, p.d.Put(name, data), p.m.put(name, string(data))
	case k < 18:
		return "Drop " + name, p.d.Drop(name), p.m.drop(name)
	}
	return p.look(name)
}

func (p pair) arm(n int) (string, error, error) {
	var code error = api.ErrRange
	if n >= 0 {
		p.m.arm, code = n, nil
	}
	return fmt.Sprint("Arm ", n), p.d.Arm(n), code
}

func (p pair) fail(behind []int) (string, error, error) {
	var code error = api.ErrRange
	if !slices.Contains(behind, -1) {
		p.m.fails, code = behind, nil
	}
	return fmt.Sprint("Fail ", behind), p.d.Fail(behind...), code
}

func (p pair) look(name string) (string, error, error) {
	got, err := p.d.Read(name)
	all, code := p.m.read(name)
	if string(got) != all {
		return fmt.Sprintf("Read %s: %q, not %q", name, got, all), api.ErrCorrupt, nil
	}
	if err != code {
		return "Read " + name, err, code
	}
	at, n := p.r.Intn(10)-1, p.r.Intn(10)-1
	got, err = p.d.ReadAt(name, at, n)
	if code == nil && (at < 0 || n < 0 || at+n > len(all)) {
		code = api.ErrRange
	}
	if code == nil && string(got) != all[at:at+n] {
		return fmt.Sprintf("ReadAt %s %d %d: %q", name, at, n, got), api.ErrCorrupt, nil
	}
	return fmt.Sprint("ReadAt ", name, " ", at, " ", n), err, code
}

func (p pair) differ() string {
	switch {
	case shown(p.d) != p.m.shown():
		return fmt.Sprintf("holds %q, not %q", shown(p.d), p.m.shown())
	case !slices.Equal(p.d.List(), p.m.names()):
		return fmt.Sprint("lists ", p.d.List())
	case p.d.Used() != p.m.used():
		return fmt.Sprint("used ", p.d.Used())
	case p.d.Steps() != p.m.steps:
		return fmt.Sprint("steps ", p.d.Steps())
	case p.d.Down() != p.m.down:
		return fmt.Sprint("down ", p.d.Down())
	}
	return ""
}

// TestModel: P1.1 and P1.4 in any order of calls.
func TestModel(t *testing.T) {
	for seed := range 2000 {
		r := rand.New(rand.NewSource(int64(seed)))
		size := r.Intn(40)
		p := pair{r, made(t, size), newModel(size)}
		var told []string
		for range 120 {
			call, got, code := p.act()
			told = append(told, call)
			if bad := p.differ(); got != code || bad != "" {
				t.Fatalf("seed %d, size %d: %v, not %v; %s\n%s", seed, size, got, code, bad, strings.Join(told, "\n"))
			}
		}
	}
}

// sure is what P1.2 promises of a name, told from the answers alone.
type sure struct {
	synced, all string
	named       bool // synced with the directory, and not touched since
}

// TestSyncedSurvivesRandomly: P1.2 under random steps that may fail, and random crashes.
func TestSyncedSurvivesRandomly(t *testing.T) {
	names := []string{"a", "b", "c", "d"}
	for seed := range 2000 {
		r := rand.New(rand.NewSource(int64(seed)))
		d := made(t, 1000)
		promised := map[string]sure{}
		for range 60 {
			if r.Intn(12) == 0 {
				d.Crash(api.Survival{Dirs: r.Intn(9) - 1, Cuts: []int{r.Intn(9) - 1, r.Intn(9) - 1, r.Intn(9) - 1}})
				holdsTo(t, d, promised)
				promised = map[string]sure{}
				for _, f := range d.Files() {
					promised[f.Name] = sure{string(f.Data), string(f.Data), true}
				}
			}
			if r.Intn(10) == 0 {
				done(t, d.Fail(r.Intn(3)), d.Arm(r.Intn(20)))
			}
			randomStep(d, r, names[r.Intn(4)], names[r.Intn(4)], promised)
		}
	}
}

func holdsTo(t *testing.T, d *disk.Disk, promised map[string]sure) {
	t.Helper()
	for name, s := range promised {
		if !s.named {
			continue
		}
		got, err := d.Read(name)
		if err != nil || !strings.HasPrefix(string(got), s.synced) || !strings.HasPrefix(s.all, string(got)) {
			t.Fatalf("%s was synced as %q, of %q, and is %q, %v", name, s.synced, s.all, got, err)
		}
	}
}

func randomStep(d *disk.Disk, r *rand.Rand, name, to string, promised map[string]sure) {
	s := promised[name]
	switch r.Intn(7) {
	case 0:
		if d.Create(name) == nil {
			promised[name] = sure{}
		}
	case 1, 2:
		if d.Append(name, []byte(to+name)) == nil {
			s.all += to + name
			promised[name] = s
		}
	case 3:
		if d.Sync(name) == nil {
			s.synced = s.all
			promised[name] = s
		}
	case 4:
		if d.SyncDir() == nil {
			for n, x := range promised {
				x.named = true
				promised[n] = x
			}
		}
	case 5:
		if d.Rename(name, to) == nil {
			delete(promised, name)
			s.named = false
			promised[to] = s
		}
	case 6:
		if d.Remove(name) == nil {
			delete(promised, name)
		}
	}
}
