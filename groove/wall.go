package groove

import "lacquer/api"

// WidthsOf returns the widths of walls (P2.7).
func WidthsOf(walls []api.GrooveWalls) ([]int, api.Errno) {
	return converted(walls, checkWalls, func(w api.GrooveWalls) int { return matrixOf(w).Vertical })
}

// MatrixOf returns the matrices of walls (P2.7).
func MatrixOf(walls []api.GrooveWalls) ([]api.GrooveMatrix, api.Errno) {
	return converted(walls, checkWalls, matrixOf)
}

// WallsOf returns the walls with these matrices (P2.7).
func WallsOf(l []api.GrooveMatrix) ([]api.GrooveWalls, api.Errno) {
	return converted(l, checkMatrix, wallsOf)
}

// converted returns what each item becomes, if no item has an error.
func converted[A, B any](l []A, check func(A) api.Errno, convert func(A) B) ([]B, api.Errno) {
	if len(l) > api.MaxGrooveList {
		return nil, api.ErrLarge
	}
	var result []B
	for _, item := range l {
		if e := check(item); e != api.OK {
			return nil, e
		}
		result = append(result, convert(item))
	}
	return result, api.OK
}

func checkWalls(w api.GrooveWalls) api.Errno {
	switch {
	case !areAtMost(api.MaxGroovePosition, w.Left, w.Right):
		return api.ErrRange
	case w.Left > w.Right:
		return api.ErrOrder
	}
	return api.OK
}

func checkMatrix(m api.GrooveMatrix) api.Errno {
	walls := wallsOf(m)
	switch {
	case !areAtMost(maxDifference, m.Lateral, m.Vertical):
		return api.ErrRange
	case matrixOf(walls) != m:
		return api.ErrForm
	case m.Vertical < 0:
		return api.ErrOrder
	case !areAtMost(api.MaxGroovePosition, walls.Left, walls.Right):
		return api.ErrBreak
	}
	return api.OK
}

func matrixOf(w api.GrooveWalls) api.GrooveMatrix {
	return api.GrooveMatrix{Lateral: w.Left + w.Right, Vertical: w.Right - w.Left}
}

// wallsOf reverses matrixOf, if whole walls have this matrix.
func wallsOf(m api.GrooveMatrix) api.GrooveWalls {
	return api.GrooveWalls{Left: (m.Lateral - m.Vertical) / 2, Right: (m.Lateral + m.Vertical) / 2}
}
