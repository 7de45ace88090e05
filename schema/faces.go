package schema

import (
	"seine/api"
	"seine/defs"
	"seine/wrap"
)

// facesAreThere is rule 5.
func facesAreThere(s api.Schema) bool {
	for _, d := range s.Defs {
		own := byName(d.Faces, itself)
		for _, name := range d.Faces {
			face, _ := defs.Find(s, name)
			if face.Kind != api.Face || name == d.Name || !includes(own, face.Faces) {
				return false
			}
		}
	}
	return true
}

// facesAreKept is rule 6.
func facesAreKept(s api.Schema) bool {
	for _, d := range s.Defs {
		own := byName(d.Fields, fieldName)
		for _, name := range d.Faces {
			face, _ := defs.Find(s, name)
			for _, asked := range face.Fields {
				f, has := own[asked.Name]
				if !has || !defs.Sub(s, f.T, asked.T) || !canStandFor(f.Params, asked.Params) {
					return false
				}
			}
		}
	}
	return true
}

// includes reports whether all has each of the names.
func includes(all map[string]string, names []string) bool {
	for _, name := range names {
		if _, found := all[name]; !found {
			return false
		}
	}
	return true
}

// canStandFor reports whether a field with the Params own may be asked as one with
// the Params asked.
func canStandFor(own, asked []api.Param) bool {
	has := byName(own, paramName)
	for _, p := range asked {
		if q, found := has[p.Name]; !found || q.T != p.T {
			return false
		}
		delete(has, p.Name)
	}
	for _, further := range has {
		if wrap.Is(further.T) && !further.Has {
			return false
		}
	}
	return true
}
