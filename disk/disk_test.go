package disk_test

import (
	"errors"
	"math"
	"slices"
	"strconv"
	"strings"
	"testing"

	"amphora/api"
	"amphora/disk"
)

func made(t *testing.T, size int) *disk.Disk {
	t.Helper()
	d, err := disk.New(size)
	if err != nil || d == nil {
		t.Fatal(d, err)
	}
	return d
}

func want(t *testing.T, got, code error) {
	t.Helper()
	if got != code {
		t.Fatalf("answered %v, not %v", got, code)
	}
}

// done is for the steps that set a test up.
func done(t *testing.T, errs ...error) {
	t.Helper()
	for i, err := range errs {
		if err != nil {
			t.Fatalf("call %d: %v", i, err)
		}
	}
}

// shown is the directory as one text.
func shown(d *disk.Disk) string {
	var all []string
	for _, f := range d.Files() {
		all = append(all, f.Name+"="+string(f.Data))
	}
	return strings.Join(all, " ")
}

func holds(t *testing.T, d *disk.Disk, files string) {
	t.Helper()
	if got := shown(d); got != files {
		t.Fatalf("the disk holds %q, not %q", got, files)
	}
}

func crashed(dirs int, cuts ...int) api.Survival { return api.Survival{Dirs: dirs, Cuts: cuts} }

// filled is a disk with as many files as there may be: f0, f1 ..
func filled(t *testing.T) *disk.Disk {
	t.Helper()
	d := made(t, 10)
	for i := range api.MaxFiles {
		done(t, d.Create("f"+strconv.Itoa(i)))
	}
	return d
}

// P1.1

func TestNew(t *testing.T) {
	for _, x := range []struct {
		size int
		code error
	}{{0, nil}, {1, nil}, {api.MaxDisk, nil}, {-1, api.ErrRange}, {api.MaxDisk + 1, api.ErrRange}, {math.MinInt, api.ErrRange}, {math.MaxInt, api.ErrRange}} {
		d, err := disk.New(x.size)
		want(t, err, x.code)
		if (d == nil) != (err != nil) {
			t.Errorf("size %d: %v", x.size, d)
		}
	}
	d := made(t, 5)
	if len(d.List()) != 0 || len(d.Files()) != 0 || d.Used() != 0 || d.Steps() != 0 || d.Down() {
		t.Error("a new disk isn't empty")
	}
}

func TestExamples(t *testing.T) {
	for i, x := range []struct {
		dir, sync bool
		s         api.Survival
		files     string
	}{
		{false, false, crashed(0), ""},
		{true, false, crashed(0), "a="},
		{true, false, crashed(0, 3), "a=hel"},
		{true, true, crashed(0), "a=hello"},
		{false, true, crashed(1), "a=hello"},
		{false, true, crashed(0, 9), ""},
	} {
		d := made(t, 10)
		done(t, d.Create("a"), d.Append("a", []byte("hello")))
		want(t, d.Append("a", []byte("worlds")), api.ErrFull)
		if x.sync {
			done(t, d.Sync("a"))
		}
		if x.dir {
			done(t, d.SyncDir())
		}
		d.Crash(x.s)
		if got := shown(d); got != x.files {
			t.Errorf("row %d: %q", i, got)
		}
	}
}

func TestNames(t *testing.T) {
	calls := map[string]func(d *disk.Disk, name string) error{
		"Create":      func(d *disk.Disk, n string) error { return d.Create(n) },
		"Append":      func(d *disk.Disk, n string) error { return d.Append(n, []byte("x")) },
		"Sync":        func(d *disk.Disk, n string) error { return d.Sync(n) },
		"Rename from": func(d *disk.Disk, n string) error { return d.Rename(n, "there") },
		"Rename to":   func(d *disk.Disk, n string) error { return d.Rename("gone", n) },
		"Remove":      func(d *disk.Disk, n string) error { return d.Remove(n) },
		"Read":        func(d *disk.Disk, n string) error { _, err := d.Read(n); return err },
		"ReadAt":      func(d *disk.Disk, n string) error { _, err := d.ReadAt(n, -1, -1); return err },
		"Put":         func(d *disk.Disk, n string) error { return d.Put(n, []byte("x")) },
		"Drop":        func(d *disk.Disk, n string) error { return d.Drop(n) },
	}
	bad := []string{"", strings.Repeat("n", api.MaxFileName+1), "/", "a/b", " ", "a b", "\x20", "\x7f", "\x00", "a\n", "é", "\xff", "a/"}
	good := []string{"!", "~", "a", ".", "..", "\\", strings.Repeat("n", api.MaxFileName), "0", "A-b_c"}
	for what, call := range calls {
		d := made(t, 10)
		for _, n := range bad {
			if err := call(d, n); err != api.ErrName {
				t.Errorf("%s of %q: %v", what, n, err)
			}
		}
		for _, n := range good {
			if err := call(d, n); err == api.ErrName {
				t.Errorf("%s refuses %q", what, n)
			}
		}
	}
	for b := range 256 {
		ok := b >= 0x21 && b <= 0x7e && b != '/'
		if err := made(t, 1).Create(string([]byte{byte(b)})); (err == nil) != ok {
			t.Errorf("Create of the byte %d: %v", b, err)
		}
	}
}

func TestStepsOfFiles(t *testing.T) {
	d := made(t, 10)
	want(t, d.Append("a", nil), api.ErrGone)
	want(t, d.Sync("a"), api.ErrGone)
	want(t, d.Remove("a"), api.ErrGone)
	want(t, d.Rename("a", "a"), api.ErrGone)
	want(t, d.Rename("a", "b"), api.ErrGone)
	done(t, d.Create("a"))
	want(t, d.Create("a"), api.ErrThere)
	done(t, d.Append("a"), d.Append("a", nil, []byte("x"), []byte{}, []byte("yz")), d.Append("a", []byte("!")))
	holds(t, d, "a=xyz!")
	done(t, d.Rename("a", "a"))
	holds(t, d, "a=xyz!")
	done(t, d.Create("b"), d.Append("b", []byte("B")), d.Rename("a", "b"))
	holds(t, d, "b=xyz!")
	want(t, d.Remove("a"), api.ErrGone)
	done(t, d.Rename("b", "c"), d.Remove("c"), d.Create("c"))
	holds(t, d, "c=")
	if d.Steps() != 11 {
		t.Error(d.Steps())
	}
}

func TestOrderOfNames(t *testing.T) {
	d := made(t, 10)
	for _, n := range []string{"b", "a1", "a", "B", "a0", "~", "!"} {
		done(t, d.Create(n))
	}
	if got := strings.Join(d.List(), " "); got != "! B a a0 a1 b ~" {
		t.Error(got)
	}
	holds(t, d, "!= B= a= a0= a1= b= ~=")
}

func TestRoom(t *testing.T) {
	d := made(t, 5)
	done(t, d.Create("a"), d.Create("b"), d.Append("a", []byte("12")), d.Append("b", []byte("3"), []byte("4")))
	want(t, d.Append("a", []byte("5"), []byte("6")), api.ErrFull)
	holds(t, d, "a=12 b=34")
	done(t, d.Append("a", []byte("5"), nil))
	want(t, d.Append("b", []byte("6")), api.ErrFull)
	done(t, d.Append("b"), d.Append("b", nil, nil))
	if d.Used() != 5 {
		t.Error(d.Used())
	}
	done(t, d.Remove("a"))
	if d.Used() != 2 {
		t.Error("a file without a name takes room:", d.Used())
	}
	done(t, d.Append("b", []byte("567")))
	want(t, d.Append("b", []byte("8")), api.ErrFull)
	done(t, d.Create("c"), d.Rename("c", "b"))
	if d.Used() != 0 {
		t.Error("a file that was replaced takes room:", d.Used())
	}
	none := made(t, 0)
	done(t, none.Create("a"), none.Append("a"), none.Append("a", []byte{}))
	want(t, none.Append("a", []byte{0}), api.ErrFull)
}

func TestNoRoomBehindPut(t *testing.T) {
	d := made(t, 3)
	done(t, d.Put("a", []byte("1234")))
	if d.Used() != 4 {
		t.Error(d.Used())
	}
	want(t, d.Append("a"), api.ErrFull)
	want(t, d.Append("a", nil), api.ErrFull)
	want(t, d.Append("b"), api.ErrGone)
	done(t, d.Create("b"), d.Sync("a"), d.Drop("a"), d.Append("b", []byte("123")))
	holds(t, d, "b=123")
}

func TestManyFiles(t *testing.T) {
	d := filled(t)
	want(t, d.Create("more"), api.ErrMany)
	want(t, d.Create("f7"), api.ErrThere)
	want(t, d.Put("more", nil), api.ErrMany)
	want(t, d.Put("mo/re", nil), api.ErrName)
	done(t, d.Put("f7", []byte("7")), d.Rename("f7", "more"))
	if len(d.List()) != api.MaxFiles {
		t.Error(len(d.List()))
	}
	want(t, d.Create("f7"), api.ErrMany)
	done(t, d.Rename("more", "f8"), d.Create("f7"))
	want(t, d.Create("more"), api.ErrMany)
	done(t, d.Drop("f9"), d.Put("more", nil))
	want(t, d.Put("f9", nil), api.ErrMany)
}

func TestReadAt(t *testing.T) {
	d := made(t, 10)
	done(t, d.Create("a"), d.Append("a", []byte("hello")))
	for _, x := range []struct {
		name  string
		at, n int
		bytes string
		code  error
	}{
		{"a", 0, 5, "hello", nil}, {"a", 1, 3, "ell", nil}, {"a", 0, 0, "", nil}, {"a", 5, 0, "", nil}, {"a", 4, 1, "o", nil},
		{"a", 5, 1, "", api.ErrRange}, {"a", 6, 0, "", api.ErrRange}, {"a", 0, 6, "", api.ErrRange},
		{"a", -1, 1, "", api.ErrRange}, {"a", 1, -1, "", api.ErrRange}, {"a", 6, -1, "", api.ErrRange}, {"a", -1, 9, "", api.ErrRange},
		{"a", 1, math.MaxInt, "", api.ErrRange}, {"a", math.MaxInt, math.MaxInt, "", api.ErrRange}, {"a", math.MinInt, math.MinInt, "", api.ErrRange},
		{"b", -1, 1, "", api.ErrGone}, {"/", -1, 1, "", api.ErrName},
	} {
		got, err := d.ReadAt(x.name, x.at, x.n)
		if string(got) != x.bytes || err != x.code || err != nil && got != nil {
			t.Errorf("ReadAt(%q, %d, %d): %q, %v", x.name, x.at, x.n, got, err)
		}
	}
	if got, err := d.Read("b"); got != nil || err != api.ErrGone {
		t.Error(got, err)
	}
	if d.Steps() != 2 {
		t.Error("a read counts as a step")
	}
}

func TestChangesOfTheDirectory(t *testing.T) {
	for dirs, files := range []string{"a=A", "a=A b=B", "a=B", "", "c=C", "c=C", "d=C", "b=E d=C", "b=E d=C"} {
		d := made(t, 100)
		done(t, d.Create("a"), d.Append("a", []byte("A")), d.Sync("a"), d.SyncDir())
		done(t, d.Create("b"), d.Rename("b", "a"), d.Append("a", []byte("B")), d.Sync("a"), d.Remove("a"))
		done(t, d.Create("c"), d.Rename("c", "c"), d.Append("c", []byte("C")), d.Rename("c", "d"), d.Sync("d"))
		done(t, d.Create("b"), d.Append("b", []byte("E")), d.Sync("b"))
		d.Crash(crashed(dirs))
		if got := shown(d); got != files {
			t.Errorf("with %d changes: %q, not %q", dirs, got, files)
		}
	}
}

func TestDirsOutsideOfTheChanges(t *testing.T) {
	for dirs, files := range map[int]string{-1: "a=", math.MinInt: "a=", 2: "b=", 3: "b=", math.MaxInt: "b="} {
		d := made(t, 100)
		done(t, d.Create("a"), d.SyncDir(), d.Create("b"), d.Remove("a"))
		d.Crash(crashed(dirs))
		if got := shown(d); got != files {
			t.Errorf("Dirs %d: %q, not %q", dirs, got, files)
		}
	}
}

func TestCuts(t *testing.T) {
	for _, x := range []struct {
		cuts  []int
		files string
	}{
		{nil, "a=A b= c=C"},
		{[]int{0, 0, 0}, "a=A b= c=C"},
		{[]int{1}, "a=Aa b= c=C"},
		{[]int{-1, 2}, "a=A b=bb c=C"},
		{[]int{2, -5, 1, 7}, "a=Aaa b= c=Cc"},
		{[]int{3, 4, 9}, "a=Aaa b=bbb c=Ccc"},
		{[]int{math.MaxInt, math.MinInt, math.MaxInt}, "a=Aaa b= c=Ccc"},
	} {
		d := made(t, 100)
		done(t, d.Create("c"), d.Create("b"), d.Create("a"))
		done(t, d.Append("a", []byte("A")), d.Append("c", []byte("C")), d.Sync("a"), d.Sync("c"), d.SyncDir())
		done(t, d.Append("a", []byte("aa")), d.Append("b", []byte("bbb")), d.Append("c", []byte("cc")), d.Remove("b"))
		d.Crash(crashed(0, x.cuts...))
		if got := shown(d); got != x.files {
			t.Errorf("%v: %q, not %q", x.cuts, got, x.files)
		}
		d.Crash(crashed(9, 9, 9, 9))
		if got := shown(d); got != x.files {
			t.Errorf("%v: a second crash leaves %q", x.cuts, got)
		}
	}
}

func TestBytesBehindACrash(t *testing.T) {
	d := made(t, 5)
	done(t, d.Create("a"), d.SyncDir(), d.Append("a", []byte("12345")))
	d.Crash(crashed(0, 2))
	want(t, d.Append("a", []byte("3456")), api.ErrFull)
	done(t, d.Append("a", []byte("678")))
	holds(t, d, "a=12678")
	d.Crash(crashed(0))
	holds(t, d, "a=12")
}

func TestOutside(t *testing.T) {
	d := made(t, 4)
	want(t, d.Drop("a"), api.ErrGone)
	done(t, d.Create("b"), d.Append("b", []byte("bb")), d.Put("a", []byte("hello")))
	holds(t, d, "a=hello b=bb")
	d.Crash(crashed(0))
	holds(t, d, "a=hello b=bb")
	done(t, d.Create("c"), d.Drop("b"))
	d.Crash(crashed(0))
	holds(t, d, "a=hello c=")
	done(t, d.Remove("a"))
	want(t, d.Drop("a"), api.ErrGone)
	want(t, d.Put("a b", nil), api.ErrName)
	d.Crash(crashed(0))
	holds(t, d, "a=hello c=")
	done(t, d.Put("a", nil), d.Put("c", []byte("new")))
	holds(t, d, "a= c=new")
	if d.Steps() != 4 {
		t.Error("what is done from outside counts as a step:", d.Steps())
	}
}

func TestOutsideWithoutPower(t *testing.T) {
	d := made(t, 10)
	done(t, d.Create("a"), d.Append("a", []byte("x")), d.Arm(0))
	want(t, d.SyncDir(), api.ErrDown)
	done(t, d.Put("b", []byte("y")), d.Drop("a"), d.Put("c", nil))
	want(t, d.Drop("a"), api.ErrGone)
	if !d.Down() || d.Used() != 1 || d.Steps() != 2 {
		t.Error(d.Down(), d.Used(), d.Steps())
	}
	want(t, d.Sync("b"), api.ErrDown)
	holds(t, d, "b=y c=")
	d.Crash(crashed(0))
	holds(t, d, "b=y c=")
}

func TestOutsideLeavesWhatWillGoWrong(t *testing.T) {
	d := made(t, 10)
	done(t, d.Arm(2), d.Fail(1), d.Put("a", nil), d.Drop("a"), d.Create("a"))
	want(t, d.Create("b"), api.ErrIO)
	want(t, d.Create("b"), api.ErrDown)
}

func TestNilDisk(t *testing.T) {
	var d *disk.Disk
	for what, err := range map[string]error{
		"Create": d.Create("/"), "Append": d.Append("", nil), "Sync": d.Sync("a"), "SyncDir": d.SyncDir(), "Rename": d.Rename("a", ""),
		"Remove": d.Remove("a"), "Arm": d.Arm(-1), "Arm of 1": d.Arm(1), "Fail": d.Fail(-1), "Fail of none": d.Fail(), "Put": d.Put("/", nil), "Drop": d.Drop("a"),
	} {
		if err != api.ErrForm {
			t.Errorf("%s: %v", what, err)
		}
	}
	if b, err := d.Read(""); b != nil || err != api.ErrForm {
		t.Error(b, err)
	}
	if b, err := d.ReadAt("a", -1, 0); b != nil || err != api.ErrForm {
		t.Error(b, err)
	}
	d.Crash(crashed(1, 1))
	if len(d.List()) != 0 || len(d.Files()) != 0 || d.Used() != 0 || d.Steps() != 0 || d.Down() {
		t.Error("a nil disk holds something")
	}
}

func TestErrorsAreErrno(t *testing.T) {
	var number api.Errno
	if err := made(t, 1).Create(""); !errors.As(err, &number) || number != 6 {
		t.Error(err)
	}
}

// P1.2: for every crash, over all that may survive; and over random scripts in model_test.go.

func TestSyncedSurvives(t *testing.T) {
	for dirs := range 8 {
		for cut := range 7 * 7 {
			d := made(t, 100)
			done(t, d.Create("k"), d.Append("k", []byte("sure")), d.Sync("k"), d.SyncDir())
			done(t, d.Append("k", []byte("more")), d.Create("a"), d.Append("a", []byte("x")))
			done(t, d.Rename("a", "b"), d.Create("c"), d.Remove("c"), d.Create("z"))
			d.Crash(crashed(dirs, cut%7-1, cut/7-1, 3, 9))
			got, err := d.Read("k")
			if err != nil || !strings.HasPrefix(string(got), "sure") || !strings.HasPrefix("suremore", string(got)) {
				t.Errorf("Dirs %d, cuts %d: %q, %v", dirs, cut, got, err)
			}
		}
	}
}

// P1.3

// script is steps of which each is done, if those ahead of it are.
func script() []func(d *disk.Disk) error {
	return []func(d *disk.Disk) error{
		func(d *disk.Disk) error { return d.Create("a") },
		func(d *disk.Disk) error { return d.Append("a", []byte("hel"), []byte("lo")) },
		func(d *disk.Disk) error { return d.Sync("a") },
		func(d *disk.Disk) error { return d.SyncDir() },
		func(d *disk.Disk) error { return d.Append("a", []byte("!")) },
		func(d *disk.Disk) error { return d.Create("b") },
		func(d *disk.Disk) error { return d.Append("b", []byte("new")) },
		func(d *disk.Disk) error { return d.Rename("b", "a") },
		func(d *disk.Disk) error { return d.Create("c") },
		func(d *disk.Disk) error { return d.Remove("c") },
		func(d *disk.Disk) error { return d.SyncDir() },
	}
}

// downed asks every step and every read, also those with other errors.
func downed(t *testing.T, d *disk.Disk) {
	t.Helper()
	for _, call := range script() {
		want(t, call(d), api.ErrDown)
	}
	for _, err := range []error{d.Create("/"), d.Append("gone", nil), d.Sync("gone"), d.Rename("", "gone"), d.Remove("")} {
		want(t, err, api.ErrDown)
	}
	for _, name := range []string{"a", "gone", ""} {
		b, err := d.Read(name)
		want(t, err, api.ErrDown)
		c, err := d.ReadAt(name, -1, 0)
		want(t, err, api.ErrDown)
		if b != nil || c != nil {
			t.Fatal(b, c)
		}
	}
}

func TestArmed(t *testing.T) {
	steps := script()
	for n := range len(steps) {
		d, twin := made(t, 100), made(t, 100)
		done(t, d.Arm(n))
		for i := range n {
			done(t, steps[i](d), steps[i](twin))
		}
		if d.Down() || d.Steps() != n {
			t.Fatal(n, d.Down(), d.Steps())
		}
		want(t, steps[n](d), api.ErrDown)
		if !d.Down() || d.Steps() != n {
			t.Fatal(n, d.Down(), d.Steps())
		}
		holds(t, d, shown(twin))
		if !slices.Equal(d.List(), twin.List()) || d.Used() != twin.Used() {
			t.Fatal(n, d.List(), d.Used())
		}
		downed(t, d)
		want(t, d.Arm(-1), api.ErrRange)
		want(t, d.Fail(-1), api.ErrRange)
		done(t, d.Arm(5), d.Fail(0))
		downed(t, d)
		d.Crash(crashed(9, 9, 9, 9))
		twin.Crash(crashed(9, 9, 9, 9))
		holds(t, d, shown(twin))
		if d.Down() || d.Steps() != n {
			t.Fatal(n, d.Down(), d.Steps())
		}
		for i := range 20 {
			done(t, d.Create("new"+strconv.Itoa(i)))
		}
	}
}

func TestArmedAnew(t *testing.T) {
	d := made(t, 10)
	done(t, d.Arm(1), d.Arm(2), d.Create("a"))
	want(t, d.Arm(-1), api.ErrRange)
	done(t, d.Create("b"))
	want(t, d.Create("a"), api.ErrThere)
	want(t, d.Append("a", make([]byte, 11)), api.ErrFull)
	if d.Down() {
		t.Error("the power goes without a step")
	}
	want(t, d.Append("a"), api.ErrDown)
	if d.Steps() != 2 {
		t.Error(d.Steps())
	}
}

func TestFailingStepsCountForArming(t *testing.T) {
	d := made(t, 10)
	done(t, d.Arm(2), d.Fail(0, 0, 0))
	want(t, d.Create("a"), api.ErrIO)
	want(t, d.Create("a"), api.ErrIO)
	want(t, d.Create("a"), api.ErrDown)
	if d.Steps() != 2 {
		t.Error(d.Steps())
	}
}

// P1.4

func TestFailing(t *testing.T) {
	for _, x := range []struct {
		behind []int
		fails  string // of eight steps
	}{
		{nil, "--------"}, {[]int{0}, "x-------"}, {[]int{1}, "-x------"}, {[]int{7}, "-------x"}, {[]int{8}, "--------"},
		{[]int{0, 0}, "xx------"}, {[]int{1, 2, 0}, "-x--xx--"}, {[]int{1, 9}, "-x------"}, {[]int{0, 1, 1, 1}, "x-x-x-x-"}, {[]int{math.MaxInt, 0}, "--------"},
	} {
		d := made(t, 10)
		done(t, d.Fail(0), d.Fail(x.behind...))
		got := ""
		for i := range 8 {
			switch err := d.Create("f" + strconv.Itoa(i)); err {
			case nil:
				got += "-"
			case api.ErrIO:
				got += "x"
			default:
				t.Fatal(err)
			}
		}
		if got != x.fails || d.Steps() != 8 || len(d.List()) != strings.Count(x.fails, "-") {
			t.Errorf("%v: %s, %d steps, %v", x.behind, got, d.Steps(), d.List())
		}
	}
}

func TestFailRefused(t *testing.T) {
	d := made(t, 10)
	done(t, d.Fail(1))
	want(t, d.Fail(0, -1), api.ErrRange)
	want(t, d.Fail(math.MinInt), api.ErrRange)
	want(t, d.Sync("a"), api.ErrGone)
	done(t, d.Create("a"))
	want(t, d.Create("a"), api.ErrThere)
	want(t, d.Create("b"), api.ErrIO)
	done(t, d.Create("b"), d.Fail(0), d.Fail(), d.Create("c"), d.Fail(3))
	d.Crash(crashed(3))
	for range 9 {
		done(t, d.SyncDir())
	}
}

// later is what a disk shows behind each crash that the script's end may have.
func later(t *testing.T, make func() *disk.Disk) string {
	t.Helper()
	all := shown(make()) + "\n"
	for dirs := range 7 {
		for cut := range 5 * 5 {
			d := make()
			d.Crash(crashed(dirs, cut%5, cut/5, 9))
			all += shown(d) + "\n"
		}
	}
	return all
}

func TestRefusedStepsChangeNothing(t *testing.T) {
	steps := script()
	refused := []func(d *disk.Disk) error{
		func(d *disk.Disk) error { return d.Create("") },
		func(d *disk.Disk) error { return d.Append("a", make([]byte, 99)) },
		func(d *disk.Disk) error { return d.Append("gone", nil) },
		func(d *disk.Disk) error { return d.Sync("gone") },
		func(d *disk.Disk) error { return d.Rename("a", "/") },
		func(d *disk.Disk) error { return d.Rename("gone", "a") },
		func(d *disk.Disk) error { return d.Remove("gone") },
		func(d *disk.Disk) error { return d.Put("/", nil) },
		func(d *disk.Disk) error { return d.Drop("gone") },
		func(d *disk.Disk) error { _, err := d.Read("gone"); return err },
	}
	for n := range len(steps) {
		run := func(odd func(d *disk.Disk)) func() *disk.Disk {
			return func() *disk.Disk {
				d := made(t, 50)
				for _, step := range steps[:n] {
					done(t, step(d))
				}
				odd(d)
				return d
			}
		}
		plain := later(t, run(func(d *disk.Disk) {}))
		failing := later(t, run(func(d *disk.Disk) {
			done(t, d.Fail(0))
			want(t, steps[n](d), api.ErrIO)
		}))
		cut := later(t, run(func(d *disk.Disk) {
			done(t, d.Arm(0))
			want(t, steps[n](d), api.ErrDown)
		}))
		wrong := later(t, run(func(d *disk.Disk) {
			for i, call := range refused {
				if call(d) == nil {
					t.Fatalf("call %d isn't refused", i)
				}
			}
			if d.Steps() != n {
				t.Fatal("a refused call counts as a step")
			}
		}))
		if failing != plain || cut != plain || wrong != plain {
			t.Errorf("step %d has changed something", n)
		}
	}
}

// P1.5

func TestHandedInIsNotKept(t *testing.T) {
	d := made(t, 100)
	spare := []byte("partSPARE")
	parts := [][]byte{spare[:4], []byte("two"), []byte("three")}
	done(t, d.Create("a"), d.Append("a", parts[:2]...), d.Append("a", []byte("!")))
	if string(spare) != "partSPARE" || string(parts[1]) != "two" || string(parts[2]) != "three" {
		t.Fatalf("%q %q", spare, parts)
	}
	spare[0], parts[1][0] = 'P', 'T'
	holds(t, d, "a=parttwo!")
	data := []byte("dataSPARE")
	done(t, d.Put("b", data[:4]), d.Append("b", []byte("!")))
	if string(data) != "dataSPARE" {
		t.Fatalf("%q", data)
	}
	data[0] = 'D'
	holds(t, d, "a=parttwo! b=data!")
}

func TestNumbersAreNotKept(t *testing.T) {
	d := made(t, 100)
	behind := []int{1, 1, 7}
	done(t, d.Fail(behind[:2]...))
	behind[0], behind[1] = 0, 0
	done(t, d.SyncDir())
	want(t, d.SyncDir(), api.ErrIO)
	done(t, d.SyncDir())
	want(t, d.SyncDir(), api.ErrIO)
	done(t, d.SyncDir(), d.SyncDir())
	if !slices.Equal(behind, []int{0, 0, 7}) {
		t.Error(behind)
	}
	cuts := []int{-1, 5, 9}
	done(t, d.Create("a"), d.Create("b"), d.Append("b", []byte("xyz")))
	d.Crash(api.Survival{Dirs: 2, Cuts: cuts})
	if !slices.Equal(cuts, []int{-1, 5, 9}) {
		t.Error(cuts)
	}
	holds(t, d, "a= b=xyz")
}

// spoil writes over all of a row's room.
func spoil(b []byte) {
	b = b[:cap(b)]
	for i := range b {
		b[i] = '?'
	}
}

func TestAnswersAreNewMemory(t *testing.T) {
	d := made(t, 100)
	done(t, d.Create("a"), d.Append("a", []byte("hello")), d.Create("b"), d.Append("b", []byte("world")), d.SyncDir())
	read, err := d.Read("a")
	done(t, err)
	part, err := d.ReadAt("a", 0, 2)
	done(t, err)
	spoil(part)
	if string(read) != "hello" {
		t.Errorf("%q", read)
	}
	spoil(read)
	holds(t, d, "a=hello b=world")
	files := d.Files()
	spoil(files[0].Data)
	if string(files[1].Data) != "world" {
		t.Errorf("%q", files[1].Data)
	}
	spoil(files[1].Data)
	files[0].Name = "x"
	names := d.List()
	names[0], names[1] = "y", "z"
	done(t, d.Append("a", []byte("!")))
	holds(t, d, "a=hello! b=world")
	d.Crash(crashed(0, 9, 9))
	holds(t, d, "a=hello! b=world")
}
