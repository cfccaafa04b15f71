"""The thirteen kinds of finite lots of two columns."""

from keptbowls.errors import InvalidKind, NotPlane
from keptbowls.grids import across
from keptbowls.kept import kept_rows
from keptbowls.leads import least_lead
from keptbowls.least import least_rows
from keptbowls.lots import Lot, check_finite, check_lot
from keptbowls.parts import same_members, turned_lot
from keptbowls.tables import Table, idle, rests_alike
from keptbowls.verdicts import kept_bowl

# The rows of the makers of the told lots.
TOLD = {
    "1": (((1, 0), (0, 1)),),
    "2": (((-1, 0), (0, -1)),),
    "3": (((-1, -1), (1, 0)),),
    "4": (((0, -1), (1, 0)),),
    "6": (((0, -1), (1, 1)),),
    "m": (((1, 0), (0, -1)),),
    "c": (((0, 1), (1, 0)),),
    "2mm": (((-1, 0), (0, -1)), ((1, 0), (0, -1))),
    "c2mm": (((-1, 0), (0, -1)), ((0, 1), (1, 0))),
    "3m1": (((-1, -1), (1, 0)), ((0, 1), (1, 0))),
    "31m": (((-1, -1), (1, 0)), ((0, -1), (-1, 0))),
    "4mm": (((0, -1), (1, 0)), ((1, 0), (0, -1))),
    "6mm": (((0, -1), (1, 1)), ((0, 1), (1, 0))),
}


def told_lot(kind):
    """The told Lot of the kind."""
    if not isinstance(kind, str) or kind not in TOLD:
        raise InvalidKind(kind)
    return Lot([Table(rows) for rows in TOLD[kind]])


def plane_kind(lot):
    """The kind of a finite lot of two columns."""
    _check_plane(lot)
    turns, mirrors = _with_determinant(lot, 1), _with_determinant(lot, -1)
    if len(mirrors) == 0:
        return str(len(turns))
    if len(turns) == 3:
        return "31m" if _keeps_one(mirrors[0], least_rows(kept_bowl(lot))) else "3m1"
    if len(turns) > 3:
        return f"{len(turns)}mm"
    straight, leaning = ("m", "c") if len(turns) == 1 else ("2mm", "c2mm")
    return straight if rests_alike(mirrors[0], idle(2), 2) else leaning


def kind_lead(lot):
    """A kind lead of a finite lot of two columns, a Table."""
    kind = plane_kind(lot)
    if kind in ("m", "c", "2mm", "c2mm"):
        return Table(across(_mirrored_rows(_with_determinant(lot, -1)[0], kind))).undone()
    # With three turns or more all kept bowls are multiples of one another; so the least form of the kept
    # bowl is what the told lot keeps, and only the kind tells which of its keepers are members. Lots of the
    # kinds 1 and 2 are turned into the told ones by any table.
    return least_lead(kept_bowl(lot)).undone()


def is_kind_lead(lot, value):
    """Whether the value is a kind lead of a finite lot of two columns."""
    _check_plane(lot)
    if not isinstance(value, Table) or value.size != 2:
        return False
    return same_members(turned_lot(lot, value), told_lot(plane_kind(lot)))


def _check_plane(lot):
    check_lot(lot)
    if lot.size != 2:
        raise NotPlane()
    check_finite(lot)


def _with_determinant(lot, whole):
    return [member for member in lot.members() if member.determinant == whole]


def _keeps_one(table, rows):
    return any([table.lead(row) == row for row in rows])


def _mirrored_rows(mirror, kind):
    """The columns of a table that, undone, turns the mirror into the one of the kind's told lot."""
    contrary = Table([[-number for number in row] for row in mirror.rows])
    kept, turned_back = kept_rows([mirror])[0], kept_rows([contrary])[0]
    if kind in ("m", "2mm"):
        return [kept, turned_back]
    # The mirror exchanges the two rows of which these are the sum and the difference.
    pairs = list(zip(kept, turned_back))
    return [tuple([(one + other) // 2 for one, other in pairs]), tuple([(one - other) // 2 for one, other in pairs])]
