package reading

import "restante/api"

// maxLetters is the greatest number of letters of an alternative.
const maxLetters = 3

// IsLetter reports whether a byte is a letter of the alphabet.
func IsLetter(c byte) bool {
	return c >= 'a' && c <= 'z' || c >= '0' && c <= '9' || c == ' ' || c == '-'
}

// IsName reports whether a string is a name.
func IsName(s string) bool {
	if len(s) == 0 || len(s) > api.MaxName {
		return false
	}
	return allLetters(s) && s[0] != ' ' && s[len(s)-1] != ' '
}

func allLetters(s string) bool {
	for i := range len(s) {
		if !IsLetter(s[i]) {
			return false
		}
	}
	return true
}

// CheckCells returns the error of a list of cells.
func CheckCells(cells []api.Cell) api.Errno {
	if len(cells) > api.MaxCells {
		return api.ErrLimit
	}
	for _, cell := range cells {
		if !validCell(cell) {
			return api.ErrArg
		}
	}
	return api.OK
}

func validCell(cell api.Cell) bool {
	if len(cell.Alts) == 0 || len(cell.Alts) > api.MaxAlts {
		return false
	}
	for i, alt := range cell.Alts {
		if _, twice := find(cell.Alts[:i], alt.Letters); twice || !validAlt(alt) {
			return false
		}
	}
	return true
}

func validAlt(alt api.Alt) bool {
	return len(alt.Letters) <= maxLetters && allLetters(alt.Letters) && alt.Cost >= 0 && alt.Cost <= api.MaxAlt
}

// find returns the alternative with these letters.
func find(alts []api.Alt, letters string) (api.Alt, bool) {
	for _, alt := range alts {
		if alt.Letters == letters {
			return alt, true
		}
	}
	return api.Alt{}, false
}

// Narrow returns the cells that say what both lists of cells may say, each at the greater cost.
func Narrow(worn, clear []api.Cell) ([]api.Cell, api.Errno) {
	if e := CheckCells(worn); e != api.OK {
		return nil, e
	}
	if e := CheckCells(clear); e != api.OK {
		return nil, e
	}
	if len(worn) != len(clear) {
		return nil, api.ErrArg
	}
	var cells []api.Cell
	for i := range worn {
		cell := narrowCell(worn[i], clear[i])
		if len(cell.Alts) == 0 {
			return nil, api.ErrState
		}
		cells = append(cells, cell)
	}
	return cells, api.OK
}

func narrowCell(worn, clear api.Cell) api.Cell {
	var cell api.Cell
	for _, alt := range worn.Alts {
		if other, found := find(clear.Alts, alt.Letters); found {
			alt.Cost = max(alt.Cost, other.Cost)
			cell.Alts = append(cell.Alts, alt)
		}
	}
	return cell
}
