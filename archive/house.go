package archive

import (
	"slices"

	"lacquer/api"
)

// CheckHouse returns the error of a house, and the index of the person that has it (P10.1).
func CheckHouse(h api.ArchiveHouse) (int, api.Errno) {
	e := firstError(
		when(len(h.People) == 0, api.ErrShape),
		when(len(h.People) > api.MaxArchivePeople, api.ErrLarge))
	if e != api.OK {
		return 0, e
	}
	i, e := checkItems(len(h.People), func(i int) api.Errno { return checkPerson(h.People, i) })
	if e != api.OK {
		return i, e
	}
	return 0, when(!slices.ContainsFunc(h.People, isKeeper), api.ErrNone)
}

func checkPerson(people []api.ArchivePerson, index int) api.Errno {
	person := people[index]
	_, isKnown := personNamed(people[:index], person.Name)
	return firstError(
		checkName(person.Name),
		when(isKnown, api.ErrExists),
		when(person.Role < 0 || person.Role >= api.ArchiveRoles, api.ErrKind))
}

func isKeeper(person api.ArchivePerson) bool {
	return person.Role == api.ArchiveKeeper
}

func personNamed(people []api.ArchivePerson, name string) (api.ArchivePerson, bool) {
	for _, person := range people {
		if person.Name == name {
			return person, true
		}
	}
	return api.ArchivePerson{}, false
}
