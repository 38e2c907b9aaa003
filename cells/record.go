package cells

import (
	"synodal/api"
)

// records are cells as the log has them: of each a byte that is its N, then its own bytes.
func records(l ...api.Cell) [][]byte {
	var rows [][]byte
	for _, x := range l {
		rows = append(rows, append([]byte{byte(x.N)}, x.Data...))
	}
	return rows
}

// parsed are the cells that records say. A row that is no cell's was not written by cells; it says none.
func parsed(rows ...[]byte) []api.Cell {
	var l []api.Cell
	for _, row := range rows {
		if len(row) == 0 || !isCell(int(row[0])) {
			continue
		}
		l = append(l, api.Cell{N: int(row[0]), Data: row[1:]})
	}
	return l
}

func isCell(n int) bool { return n >= 0 && n < api.MaxCells }
