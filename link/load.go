package link

import (
	"slices"
	"strings"

	"shackle/api"
	"shackle/bind"
	"shackle/object"
	"shackle/place"
	"shackle/search"
)

// add adds a file, asked for by a name, by an object, and tells its number.
func (l *Link) add(f api.File, name string, by int) (int, error) {
	alive := 0
	for i, x := range l.objects {
		if x.gone {
			continue
		}
		if x.ino == f.Ino {
			return i, nil
		}
		alive++
	}
	if alive >= api.MaxObjects {
		return 0, fault(f.Path, "", api.ErrLong)
	}
	o, err := object.Parse(f.Data)
	if err != nil {
		return 0, fault(f.Path, "", err)
	}
	from := uint64(api.MainBase)
	if by != nobody {
		if o.Head.Type != api.Shared {
			return 0, fault(f.Path, "", api.ErrForm)
		}
		from = api.LibBase
	}
	base, err := place.Map(l.mem, o, from)
	if err != nil {
		return 0, fault(f.Path, "", err)
	}
	l.files = append(l.files, o)
	l.objects = append(l.objects, entry{path: f.Path, name: name, ino: f.Ino, loader: by, base: base})
	i := len(l.objects) - 1
	l.hear(api.Audit{Kind: api.Opened, Object: i})
	return i, nil
}

// find finds a name that an object asks for.
func (l *Link) find(name string, by int) (int, error) {
	for i, x := range l.objects {
		if !x.gone && l.goesBy(i, name) {
			return i, nil
		}
	}
	f, err := search.Find(l.tree, l.ask(name, by))
	if err != nil {
		return 0, fault(l.objects[by].path, name, api.ErrFind)
	}
	return l.add(f, name, by)
}

// goesBy tells whether an object goes by a name.
func (l *Link) goesBy(i int, name string) bool {
	o := &l.files[i]
	return l.objects[i].name == name || o.Dyn.HasSoname && o.Soname == name
}

// ask is what is asked of search, when an object asks for a name.
func (l *Link) ask(name string, by int) api.Ask {
	a := api.Ask{Name: name, Env: l.setup.Library, Secure: l.secure}
	for i := by; i != nobody; i = l.objects[i].loader {
		o := &l.files[i]
		a.Chain = append(a.Chain, api.Origin{
			Path: l.objects[i].path, Rpath: o.Rpath, Runpath: o.Runpath,
			HasRpath: o.Dyn.HasRpath, HasRunpath: o.Dyn.HasRunpath,
		})
	}
	return a
}

// preload adds what is preloaded. In secure mode that must stand in a default directory, and have Setuid.
func (l *Link) preload() error {
	ends := func(r rune) bool { return r == ':' || r == ' ' }
	for _, name := range strings.FieldsFunc(l.setup.Preload, ends) {
		a := l.ask(name, program)
		if l.secure {
			if strings.Contains(name, "/") {
				continue
			}
			a.Chain = nil
		}
		f, err := search.Find(l.tree, a)
		if err != nil || l.secure && !f.Setuid {
			continue
		}
		i, err := l.add(f, name, program)
		if err != nil {
			return err
		}
		l.depend(program, i)
	}
	return nil
}

// gather finds what each object from one on needs, also those that are added meanwhile.
func (l *Link) gather(from int) error {
	for i := from; i < len(l.objects); i++ {
		for _, name := range l.files[i].Needed {
			d, err := l.find(name, i)
			if err != nil {
				return err
			}
			l.depend(i, d)
		}
	}
	return nil
}

// depend notes that an object depends on another one.
func (l *Link) depend(i, on int) {
	x := &l.objects[i]
	if !slices.Contains(x.deps, on) {
		x.deps = append(x.deps, on)
	}
}

// versions asks whether all versions that are needed are there. What is gone is still among the objects, at its number, without a name.
func (l *Link) versions() error {
	names := make([]string, len(l.objects))
	for i, x := range l.objects {
		if !x.gone {
			names[i] = x.name
		}
	}
	if i, want, ok := bind.Versions(l.files, names); !ok {
		return fault(l.objects[i].path, want.Version, api.ErrVersion)
	}
	return nil
}
