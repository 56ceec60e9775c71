package seal_test

import (
	"math/rand/v2"
	"slices"
	"strings"
	"testing"

	"amphora/api"
	"amphora/seal"
)

func lock(t *testing.T, password string, salt [16]byte, master [32]byte) []byte {
	t.Helper()
	file, err := seal.Lock(password, salt, master)
	if err != nil {
		t.Fatal(err)
	}
	return file
}

func notUnlocked(t *testing.T, what, password string, file []byte, want error) {
	t.Helper()
	if master, err := seal.Unlock(password, file); err != want || master != [32]byte{} {
		t.Errorf("%s: Unlock answered %x, %v, should be %v", what, master, err, want)
	}
}

// Passwords are bytes: what no text in UTF-8 has may stand in them.
var passwords = []string{"x", "secret", " ", "\x00", "\xff\xfe", "pässword", strings.Repeat("p", 63), strings.Repeat("p", 64), strings.Repeat("p", 65), strings.Repeat("q", api.MaxSecret-1), strings.Repeat("q", api.MaxSecret)}

// P5.1 and P5.3

func TestLockAndUnlock(t *testing.T) {
	r := rand.New(rand.NewPCG(5, 5))
	for _, password := range passwords {
		for _, salt := range [][16]byte{{}, someSalt, [16]byte(random(r, 16))} {
			for _, master := range [][32]byte{{}, someMaster, [32]byte(random(r, 32))} {
				file := lock(t, password, salt, master)
				if len(file) != 101 {
					t.Error(len(file), "bytes")
				}
				same(t, "key file", file, locked(t, password, salt, master))
				if got, err := seal.Unlock(password, file); err != nil || got != master {
					t.Errorf("Unlock: %x, %v", got, err)
				}
			}
		}
	}
}

func TestPasswordsOutOfForm(t *testing.T) {
	good := lock(t, "secret", someSalt, someMaster)
	for _, password := range []string{"", strings.Repeat("q", api.MaxSecret+1), strings.Repeat("q", 1<<20)} {
		if file, err := seal.Lock(password, someSalt, someMaster); err != api.ErrForm || file != nil {
			t.Errorf("Lock with %d bytes: %x, %v", len(password), file, err)
		}
		// The password is looked at first, also if the file is none.
		for _, file := range [][]byte{nil, {}, good, good[:100], make([]byte, 101), locked(t, password, someSalt, someMaster)} {
			notUnlocked(t, "password", password, file, api.ErrForm)
		}
	}
}

func TestUnlockWithAnotherPassword(t *testing.T) {
	for _, password := range passwords {
		file := lock(t, password, someSalt, someMaster)
		for _, other := range passwords {
			if other != password {
				notUnlocked(t, "another password", other, file, api.ErrCorrupt)
			}
		}
	}
	file := lock(t, "secret", someSalt, someMaster)
	for _, other := range []string{"Secret", "secre", "secret ", " secret", "secret\x00", "terces"} {
		notUnlocked(t, other, other, file, api.ErrCorrupt)
	}
}

func TestUnlockOfOtherLengths(t *testing.T) {
	file := lock(t, "secret", someSalt, someMaster)
	for n := range file {
		notUnlocked(t, "shorter", "secret", file[:n], api.ErrCorrupt)
		notUnlocked(t, "shorter ahead", "secret", file[n+1:], api.ErrCorrupt)
	}
	notUnlocked(t, "longer", "secret", append(slices.Clone(file), 0), api.ErrCorrupt)
	notUnlocked(t, "twice", "secret", append(slices.Clone(file), file...), api.ErrCorrupt)
	notUnlocked(t, "nil", "x", nil, api.ErrCorrupt)
	// Rows with a right blob, of masters that aren't 32 bytes.
	k := libKeys(t, libKey(t, someSalt[:], []byte("secret"), "key"))
	for _, n := range []int{0, 1, 31, 33, 64} {
		blob := sealed(t, k, api.KindKey, someSalt[:], rising(1, n))
		notUnlocked(t, "another master", "secret", slices.Concat([]byte("amphora1"), someSalt[:], blob), api.ErrCorrupt)
	}
}

func TestUnlockNoticesEachBit(t *testing.T) {
	file := lock(t, "secret", someSalt, someMaster)
	for i := range file {
		for bit := range 8 {
			file[i] ^= 1 << bit
			notUnlocked(t, "one bit", "secret", file, api.ErrCorrupt)
			file[i] ^= 1 << bit
		}
	}
}

func TestUnlockOfOtherBlobs(t *testing.T) {
	k := libKeys(t, libKey(t, someSalt[:], []byte("secret"), "key"))
	file := func(blob []byte) []byte { return slices.Concat([]byte("amphora1"), someSalt[:], blob) }
	other := someSalt
	other[3]++
	notUnlocked(t, "another kind", "secret", file(sealed(t, k, api.KindChunk, someSalt[:], someMaster[:])), api.ErrCorrupt)
	notUnlocked(t, "no context", "secret", file(sealed(t, k, api.KindKey, nil, someMaster[:])), api.ErrCorrupt)
	notUnlocked(t, "another context", "secret", file(sealed(t, k, api.KindKey, other[:], someMaster[:])), api.ErrCorrupt)
	k = libKeys(t, libKey(t, other[:], []byte("secret"), "key"))
	notUnlocked(t, "keys of another salt", "secret", file(sealed(t, k, api.KindKey, someSalt[:], someMaster[:])), api.ErrCorrupt)
}

// A nonce that Seal wouldn't have made is taken: the tag alone decides.
func TestUnlockTakesAnyNonce(t *testing.T) {
	k := libKeys(t, libKey(t, someSalt[:], []byte("secret"), "key"))
	nonce, body := rising(77, 12), rising(5, 32)
	file := slices.Concat([]byte("amphora1"), someSalt[:], blobOf(k, api.KindKey, someSalt[:], nonce, body))
	master, err := seal.Unlock("secret", file)
	if err != nil {
		t.Fatal(err)
	}
	same(t, "master", master[:], ciphered(t, k, nonce, body))
}
