package image

import (
	"unfold/api"
	"unfold/number"
	"unfold/table"
)

// Encode writes an image.
func Encode(i api.Image) ([]byte, api.Errno) {
	if !WellFormed(i) {
		return nil, api.ErrImage
	}
	var b []byte
	for _, c := range head {
		b = append(b, c)
	}
	b = append(b, number.Bytes(len(i.Funcs))...)
	var files []string
	for _, f := range i.Funcs {
		file := placeOf(f.File, files)
		isNew := file == len(files)
		b = append(b, entryBytes(f, file, isNew)...)
		if isNew {
			files = append(files, f.File)
		}
	}
	return b, api.OK
}

// entryBytes writes a function whose file has a number, and its text if it is a new one.
func entryBytes(f api.Entry, file int, isNew bool) []byte {
	b := textBytes(f.Name)
	b = append(b, number.Bytes(file)...)
	if isNew {
		b = append(b, textBytes(f.File)...)
	}
	b = append(b, table.Bytes(f.Lines)...)
	b = append(b, table.Bytes(f.Index)...)
	for _, n := range f.Tree {
		b = append(b, number.Bytes(n.Func)...)
		b = append(b, number.Bytes(n.Pc)...)
	}
	return b
}

func textBytes(s string) []byte {
	b := number.Bytes(len(s))
	return append(b, s...)
}
