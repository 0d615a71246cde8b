package herald

// These calls are beside the document's own, for those who show messages or write rules, and are answered by the tables that init has filled.

// NameOfFacility tells the name of a facility; ErrArg, if there is none of that number.
func NameOfFacility(number int) (string, Errno) {
	if number < 0 || number >= facilities {
		return "", ErrArg
	}
	return facilityNames[number], OK
}

// NumberOfFacility tells the number of a facility; ErrArg, if none has that name.
func NumberOfFacility(name string) (int, Errno) {
	number, named := facilityNumbers[name]
	return numberIf(named, number)
}

// NumberOfSeverity tells the number of a severity; ErrArg, if none has that name.
func NumberOfSeverity(name string) (int, Errno) {
	number, named := severityNumbers[name]
	return numberIf(named, number)
}

// NumberOfMonth tells the number of a month, 1 to 12; ErrArg, if none has that name.
func NumberOfMonth(name string) (int, Errno) {
	number, named := monthNumbers[name]
	return numberIf(named, number)
}

func numberIf(named bool, number int) (int, Errno) {
	if !named {
		return 0, ErrArg
	}
	return number, OK
}
