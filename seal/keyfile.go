package seal

import (
	"slices"

	"amphora/api"
)

const (
	mark       = "amphora1" // what a key file begins with
	saltLen    = 16
	saltAt     = len(mark)
	blobAt     = saltAt + saltLen
	keyFileLen = blobAt + extra + keyLen
)

// Lock is a key file.
func Lock(password string, salt [16]byte, master [32]byte) ([]byte, error) {
	if !mayBePassword(password) {
		return nil, api.ErrForm
	}
	blob := Seal(passwordKeys(password, salt), api.KindKey, salt[:], master[:])
	return slices.Concat([]byte(mark), salt[:], blob), nil
}

// Unlock is a key file's master.
func Unlock(password string, file []byte) ([32]byte, error) {
	if !mayBePassword(password) {
		return [32]byte{}, api.ErrForm
	}
	if len(file) != keyFileLen || string(file[:saltAt]) != mark {
		return [32]byte{}, api.ErrCorrupt
	}
	salt := [saltLen]byte(file[saltAt:blobAt])
	master, err := Open(passwordKeys(password, salt), api.KindKey, salt[:], file[blobAt:])
	if err != nil {
		return [32]byte{}, err
	}
	return [keyLen]byte(master), nil // the file's length leaves just so many bytes to the body
}

func mayBePassword(password string) bool {
	return password != "" && len(password) <= api.MaxSecret
}

// passwordKeys are the keys that a key file's blob is sealed under.
func passwordKeys(password string, salt [saltLen]byte) api.Keys {
	return FromMaster(derived(salt[:], []byte(password), "key"))
}
