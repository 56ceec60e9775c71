package seal_test

import (
	"bytes"
	"crypto/hkdf"
	"crypto/hmac"
	"crypto/sha256"
	"encoding/binary"
	"encoding/hex"
	"math/rand/v2"
	"slices"
	"testing"

	"amphora/api"
	"amphora/chacha"
	"amphora/seal"
)

// What follows is a second account of the layer, on the library's HMAC, HKDF and short numbers. The library has no ChaCha20 to be had: that is layer 3's, which has tests of its own.

func libMac(key [32]byte, m []byte) []byte {
	h := hmac.New(sha256.New, key[:])
	h.Write(m)
	return h.Sum(nil)
}

func libKey(t *testing.T, salt, secret []byte, info string) [32]byte {
	t.Helper()
	key, err := hkdf.Key(sha256.New, secret, salt, info, 32)
	if err != nil {
		t.Fatal(err)
	}
	return [32]byte(key)
}

func libKeys(t *testing.T, master [32]byte) api.Keys {
	t.Helper()
	salt := []byte("amphora")
	return api.Keys{
		Cipher: libKey(t, salt, master[:], "cipher"),
		Mac:    libKey(t, salt, master[:], "mac"),
		Name:   libKey(t, salt, master[:], "name"),
	}
}

// fields is what Pack answers: no bytes at all, if one of the rows is above MaxField.
func fields(rows ...[]byte) []byte {
	var out []byte
	for _, row := range rows {
		if len(row) > api.MaxField {
			return nil
		}
		out = binary.AppendUvarint(out, uint64(len(row)))
		out = append(out, row...)
	}
	return out
}

// blobOf is the blob of a nonce and a body, with the tag that they have.
func blobOf(k api.Keys, kind byte, context, nonce, body []byte) []byte {
	tag := libMac(k.Mac, fields([]byte{kind}, context, nonce, body))
	return slices.Concat([]byte{kind}, nonce, body, tag)
}

func ciphered(t *testing.T, k api.Keys, nonce, row []byte) []byte {
	t.Helper()
	out, err := chacha.XOR(k.Cipher, [12]byte(nonce), 0, row)
	if err != nil {
		t.Fatal(err)
	}
	return out
}

func sealed(t *testing.T, k api.Keys, kind byte, context, plain []byte) []byte {
	t.Helper()
	nonce := libMac(k.Name, fields([]byte{kind}, context, plain))[:12]
	return blobOf(k, kind, context, nonce, ciphered(t, k, nonce, plain))
}

func locked(t *testing.T, password string, salt [16]byte, master [32]byte) []byte {
	t.Helper()
	k := libKeys(t, libKey(t, salt[:], []byte(password), "key"))
	return slices.Concat([]byte("amphora1"), salt[:], sealed(t, k, 1, salt[:], master[:]))
}

// Rows of the tests.

func unhex(t *testing.T, text string) []byte {
	t.Helper()
	b, err := hex.DecodeString(text)
	if err != nil {
		t.Fatal(err)
	}
	return b
}

func same(t *testing.T, what string, got, want []byte) {
	t.Helper()
	if !bytes.Equal(got, want) {
		t.Errorf("%s: %.200x, should be %.200x", what, got, want)
	}
}

func rising(from, n int) []byte {
	out := make([]byte, n)
	for i := range out {
		out[i] = byte(from + i)
	}
	return out
}

func random(r *rand.Rand, n int) []byte {
	out := make([]byte, n)
	for i := range out {
		out[i] = byte(r.Uint32())
	}
	return out
}

func randomKeys(r *rand.Rand) api.Keys {
	return api.Keys{Cipher: [32]byte(random(r, 32)), Mac: [32]byte(random(r, 32)), Name: [32]byte(random(r, 32))}
}

var (
	someMaster = [32]byte(rising(0, 32))
	someSalt   = [16]byte(rising(100, 16))
	// Keys that no master has, so that each of them is seen by itself.
	someKeys = api.Keys{Cipher: [32]byte(rising(1, 32)), Mac: [32]byte(rising(50, 32)), Name: [32]byte(rising(150, 32))}
)

func opened(t *testing.T, k api.Keys, kind byte, context, blob []byte) []byte {
	t.Helper()
	plain, err := seal.Open(k, kind, context, blob)
	if err != nil {
		t.Fatalf("Open of %d bytes: %v", len(blob), err)
	}
	return plain
}

func refused(t *testing.T, what string, k api.Keys, kind byte, context, blob []byte) {
	t.Helper()
	if plain, err := seal.Open(k, kind, context, blob); err != api.ErrCorrupt || plain != nil {
		t.Errorf("%s: Open answered %.40x, %v", what, plain, err)
	}
}

// P5.1

func TestKnownRows(t *testing.T) {
	k := seal.FromMaster(someMaster)
	same(t, "Cipher", k.Cipher[:], unhex(t, "8e1653941d786ee1bb917284945467d1941de9e59e05bedd6b0f0ae8bed3b45f"))
	same(t, "Mac", k.Mac[:], unhex(t, "b8585fa293f715987890ee5297317dbbd2b179121bec129f94b9983497949255"))
	same(t, "Name", k.Name[:], unhex(t, "74059888b7addef556ac5bda6f074ab81a0d7bbaeac030ff3a5640a99f7fd218"))
	same(t, "blob of nothing", seal.Seal(k, api.KindChunk, nil, nil),
		unhex(t, "0204c79b1c401ce70e1f00a79feac8feb4c01ac455c6b052a88954ae091bf30ef7f9d3a57aace1b47c271075ab"))
	same(t, "blob", seal.Seal(k, api.KindChunk, []byte("ctx"), []byte("hello")),
		unhex(t, "020d07d4afcf6d9323dcaa6757b2dfe18d667c7b4c601524dd1935a3b9544841e10ae25252041847369154254587c42de409"))
	id := seal.Id(k, []byte("hello"))
	same(t, "identifier", id[:], unhex(t, "64c657219f35cee9e3ba71d937a01a0a7ff13fe7bd766655289b02e4441a94b4"))
	file, err := seal.Lock("secret", someSalt, someMaster)
	if err != nil {
		t.Fatal(err)
	}
	same(t, "key file", file, unhex(t, "616d70686f7261316465666768696a6b6c6d6e6f70717273017b42c59845f533deeb168efff8e2c75229c18b6e28d57241c9ff45602908f200882ad3fda04a01c4013971a2cc09bca19439cfea8bf27515c3ea625948c762600934fed72597ea8cbc1f9cb1"))
}

func TestFromMaster(t *testing.T) {
	r := rand.New(rand.NewPCG(5, 1))
	masters := [][32]byte{{}, {31: 1}, {1}, someMaster, [32]byte(bytes.Repeat([]byte{0xff}, 32))}
	for range 50 {
		masters = append(masters, [32]byte(random(r, 32)))
	}
	for _, master := range masters {
		if got, want := seal.FromMaster(master), libKeys(t, master); got != want {
			t.Errorf("keys of %x: %x, should be %x", master, got, want)
		}
	}
}

func TestSealAtAllKinds(t *testing.T) {
	for kind := range 256 {
		got := seal.Seal(someKeys, byte(kind), []byte("c"), []byte("plain"))
		same(t, "blob", got, sealed(t, someKeys, byte(kind), []byte("c"), []byte("plain")))
		same(t, "plain", opened(t, someKeys, byte(kind), []byte("c"), got), []byte("plain"))
	}
}

// The lengths go round those at which a length gets a second byte, and a cipher's or a sum's block begins.
func TestSealAtAllLengths(t *testing.T) {
	for n := range 300 {
		plain := rising(n, n)
		for _, m := range []int{0, 1, 16, 127, 128, 200} {
			context := rising(7, m)
			got := seal.Seal(someKeys, api.KindChunk, context, plain)
			if len(got) != n+45 {
				t.Errorf("blob of %d bytes has %d", n, len(got))
			}
			same(t, "blob", got, sealed(t, someKeys, api.KindChunk, context, plain))
			same(t, "plain", opened(t, someKeys, api.KindChunk, context, got), plain)
		}
	}
}

func TestIdAtAllLengths(t *testing.T) {
	for n := range 300 {
		plain := rising(n, n)
		got := seal.Id(someKeys, plain)
		same(t, "identifier", got[:], libMac(someKeys.Name, fields([]byte("chunk"), plain)))
	}
}

func TestRandomArguments(t *testing.T) {
	r := rand.New(rand.NewPCG(5, 2))
	for range 300 {
		k, kind := randomKeys(r), byte(r.Uint32())
		context, plain := random(r, r.IntN(40)), random(r, r.IntN(3000))
		blob := seal.Seal(k, kind, context, plain)
		same(t, "blob", blob, sealed(t, k, kind, context, plain))
		same(t, "plain", opened(t, k, kind, context, blob), plain)
		id := seal.Id(k, plain)
		same(t, "identifier", id[:], libMac(k.Name, fields([]byte("chunk"), plain)))
	}
}

func TestLongestChunk(t *testing.T) {
	plain := random(rand.New(rand.NewPCG(5, 3)), api.MaxChunk)
	blob := seal.Seal(someKeys, api.KindChunk, nil, plain)
	same(t, "blob", blob, sealed(t, someKeys, api.KindChunk, nil, plain))
	same(t, "plain", opened(t, someKeys, api.KindChunk, nil, blob), plain)
}

// Above MaxField bytes Pack answers no bytes: nonce, tag and identifier are then those of no bytes.
func TestRoundMaxField(t *testing.T) {
	row := make([]byte, api.MaxField+1)
	for i := range row {
		row[i] = byte(i >> 10)
	}
	for _, size := range []int{api.MaxField, api.MaxField + 1} {
		plain := row[:size]
		id := seal.Id(someKeys, plain)
		same(t, "identifier", id[:], libMac(someKeys.Name, fields([]byte("chunk"), plain)))
		blob := seal.Seal(someKeys, api.KindChunk, nil, plain)
		same(t, "blob", blob, sealed(t, someKeys, api.KindChunk, nil, plain))
		same(t, "plain", opened(t, someKeys, api.KindChunk, nil, blob), plain)

		blob = seal.Seal(someKeys, api.KindChunk, plain, []byte("x"))
		same(t, "blob of a long context", blob, sealed(t, someKeys, api.KindChunk, plain, []byte("x")))
		same(t, "plain of a long context", opened(t, someKeys, api.KindChunk, plain, blob), []byte("x"))
	}
}

func TestEachPartMatters(t *testing.T) {
	kinds, contexts, plains := []byte{1, 2}, []string{"", "a", "ab"}, []string{"", "b", "ab", "abb"}
	seen := map[string]bool{}
	for _, kind := range kinds {
		for _, context := range contexts {
			for _, plain := range plains {
				seen[string(seal.Seal(someKeys, kind, []byte(context), []byte(plain))[1:13])] = true
			}
		}
	}
	if len(seen) != len(kinds)*len(contexts)*len(plains) {
		t.Error(len(seen), "nonces")
	}
}

func TestNilAndEmptyAreTheSame(t *testing.T) {
	empty := []byte{}
	blob := seal.Seal(someKeys, 2, nil, nil)
	same(t, "blob", seal.Seal(someKeys, 2, empty, empty), blob)
	if len(blob) != 45 {
		t.Error(len(blob))
	}
	if got := opened(t, someKeys, 2, empty, blob); len(got) != 0 {
		t.Errorf("%x", got)
	}
	if seal.Id(someKeys, nil) != seal.Id(someKeys, empty) {
		t.Error("identifiers")
	}
	refused(t, "nil", someKeys, 2, nil, nil)
	refused(t, "empty", someKeys, 2, nil, empty)
	refused(t, "empty", someKeys, 0, nil, empty)
}

// P5.2

func TestOpenOfShortRows(t *testing.T) {
	for n := range 45 {
		refused(t, "zeros", someKeys, 0, nil, make([]byte, n))
		// A row that has a right tag behind a kind and a piece of a nonce.
		if n >= 33 {
			head := append([]byte{2}, rising(3, n-33)...)
			tag := libMac(someKeys.Mac, fields([]byte{2}, nil, head[1:], nil))
			refused(t, "short", someKeys, 2, nil, append(head, tag...))
		}
	}
	blob := seal.Seal(someKeys, 2, nil, []byte("some plain bytes"))
	for n := range blob {
		refused(t, "cut behind", someKeys, 2, nil, blob[:n])
		refused(t, "cut ahead", someKeys, 2, nil, blob[n+1:])
	}
	refused(t, "longer", someKeys, 2, nil, append(slices.Clone(blob), 0))
	refused(t, "longer ahead", someKeys, 2, nil, append([]byte{2}, blob...))
}

func TestOpenNoticesEachBit(t *testing.T) {
	for _, plain := range []string{"", "x", "some plain bytes"} {
		context := []byte("context")
		blob := seal.Seal(someKeys, api.KindFoot, context, []byte(plain))
		for i := range blob {
			for bit := range 8 {
				blob[i] ^= 1 << bit
				refused(t, "one bit", someKeys, api.KindFoot, context, blob)
				if i == 0 {
					refused(t, "one bit of both kinds", someKeys, blob[0], context, blob)
				}
				blob[i] ^= 1 << bit
			}
		}
		for i := range context {
			for bit := range 8 {
				context[i] ^= 1 << bit
				refused(t, "one bit of the context", someKeys, api.KindFoot, context, blob)
				context[i] ^= 1 << bit
			}
		}
		refused(t, "shorter context", someKeys, api.KindFoot, context[:6], blob)
		refused(t, "no context", someKeys, api.KindFoot, nil, blob)
		same(t, "plain", opened(t, someKeys, api.KindFoot, context, blob), []byte(plain))
	}
}

func TestOpenWithAnotherKind(t *testing.T) {
	blob := seal.Seal(someKeys, 2, nil, []byte("x"))
	for kind := range 256 {
		if kind != 2 {
			refused(t, "kind", someKeys, byte(kind), nil, blob)
		}
	}
	// The tag is right for the kind that is asked for, the first byte isn't that kind.
	other := blobOf(someKeys, 3, nil, rising(9, 12), []byte("x"))
	other[0] = 2
	refused(t, "first byte", someKeys, 3, nil, other)
	refused(t, "first byte", someKeys, 2, nil, other)
}

func TestOpenWithOtherKeys(t *testing.T) {
	blob := seal.Seal(someKeys, 2, []byte("c"), []byte("plain"))
	k := someKeys
	k.Mac[31] ^= 1
	refused(t, "another Mac", k, 2, []byte("c"), blob)
	refused(t, "no keys", api.Keys{}, 2, []byte("c"), blob)
	// The tag alone decides: the other two keys aren't asked.
	k = someKeys
	k.Name[0] ^= 1
	same(t, "another Name", opened(t, k, 2, []byte("c"), blob), []byte("plain"))
	k.Cipher[0] ^= 1
	same(t, "another Cipher", opened(t, k, 2, []byte("c"), blob), ciphered(t, k, blob[1:13], blob[13:18]))
}

// Seal would never make such blobs: their nonces are any. The tag alone decides.
func TestOpenTakesAnyNonce(t *testing.T) {
	r := rand.New(rand.NewPCG(5, 4))
	for n := range 200 {
		k, kind, context := randomKeys(r), byte(r.Uint32()), random(r, r.IntN(30))
		nonce, body := random(r, 12), random(r, n)
		blob := blobOf(k, kind, context, nonce, body)
		same(t, "plain", opened(t, k, kind, context, blob), ciphered(t, k, nonce, body))
		blob[1+r.IntN(len(blob)-1)] ^= 1 << r.IntN(8)
		refused(t, "one bit", k, kind, context, blob)
	}
}

// The bounds between kind, context, nonce and body are under the tag as well.
func TestOpenKeepsThePartsApart(t *testing.T) {
	blob := seal.Seal(someKeys, 2, []byte("ab"), []byte("cd"))
	refused(t, "a byte from nonce to context", someKeys, 2, append([]byte("ab"), blob[1]), slices.Concat(blob[:1], blob[2:]))
	refused(t, "a byte from context to nonce", someKeys, 2, []byte("a"), slices.Concat(blob[:1], []byte("b"), blob[1:]))
	plainTag := libMac(someKeys.Mac, slices.Concat([]byte{2}, []byte("ab"), blob[1:15]))
	refused(t, "a tag of parts without bounds", someKeys, 2, []byte("ab"), slices.Concat(blob[:15], plainTag))
}

// P5.4

// roomy is m with spare room behind it; whole shows the room as well.
func roomy(m []byte) (part, whole []byte) {
	whole = append(slices.Clone(m), bytes.Repeat([]byte{0xee}, 80)...)
	return whole[:len(m)], whole
}

func TestArgumentsStayAsTheyAre(t *testing.T) {
	blobWas := sealed(t, someKeys, 2, rising(2, 9), rising(4, 100))
	file := locked(t, "secret", someSalt, someMaster)
	var rows, wholes, were [][]byte
	for _, row := range [][]byte{rising(2, 9), rising(4, 100), blobWas, file, blobWas[:50]} {
		part, whole := roomy(row)
		rows, wholes, were = append(rows, part), append(wholes, whole), append(were, slices.Clone(whole))
	}
	context, plain, blob := rows[0], rows[1], rows[2]
	for range 2 {
		same(t, "blob", seal.Seal(someKeys, 2, context, plain), blobWas)
		opened(t, someKeys, 2, context, blob)
		refused(t, "kind", someKeys, 3, context, blob)
		refused(t, "a piece", someKeys, 2, context, rows[4])
		seal.Id(someKeys, plain)
		if _, err := seal.Unlock("secret", rows[3]); err != nil {
			t.Error(err)
		}
		if _, err := seal.Unlock("Secret", rows[3]); err != api.ErrCorrupt {
			t.Error(err)
		}
	}
	for i := range wholes {
		same(t, "handed in", wholes[i], were[i])
	}
}

func TestOneRowAsContextAndPlain(t *testing.T) {
	row := rising(4, 100)
	want := sealed(t, someKeys, 2, row[:60], row[40:])
	same(t, "blob", seal.Seal(someKeys, 2, row[:60], row[40:]), want)
	same(t, "plain", opened(t, someKeys, 2, row[:60], want), row[40:])
}

func TestAnswersAreNewMemory(t *testing.T) {
	context, plain := rising(2, 9), rising(4, 100)
	want := sealed(t, someKeys, 2, context, plain)
	blob, again := seal.Seal(someKeys, 2, context, plain), seal.Seal(someKeys, 2, context, plain)
	clear(blob[:cap(blob)])
	same(t, "second blob", again, want)
	same(t, "plain handed in", plain, rising(4, 100))
	clear(plain)
	same(t, "second blob", again, want)

	first, second := opened(t, someKeys, 2, context, again), opened(t, someKeys, 2, context, again)
	clear(first[:cap(first)])
	same(t, "blob handed in", again, want)
	clear(again)
	same(t, "second plain", second, rising(4, 100))

	file, err := seal.Lock("secret", someSalt, someMaster)
	if err != nil {
		t.Fatal(err)
	}
	other, err := seal.Lock("secret", someSalt, someMaster)
	if err != nil {
		t.Fatal(err)
	}
	clear(file[:cap(file)])
	same(t, "second key file", other, locked(t, "secret", someSalt, someMaster))
	master, err := seal.Unlock("secret", other)
	clear(other)
	if err != nil || master != someMaster {
		t.Error(master, err)
	}
}
