/- Short names of laws of the library. -/
import Derived.RowKit
import Derived.Laws.OwnMore
namespace Go.Proofs.YtfocdefchbnkpaaGreatDoor
open Go.RowKit
def Y (p : Prop) : Prop := p
theorem Y.o {p : Prop} (h : Y p) : p := h
theorem J {p : Prop} (h : p) : Y p := h
abbrev zJ := @World.grownBy_alloc
abbrev qh := @World.ownsRow.lt
abbrev xX := @World.ownsRow.alloc
abbrev xd := @World.ownsRow.cellAt
abbrev xS := @World.ownsRow_nil
abbrev zW := @List.length_append
abbrev xY := @List.append_assoc
abbrev qw := @List.length_map
abbrev qc := @Value.slice.injEq
abbrev qk := @Option.some.inj
abbrev yU := @Nat.lt_of_lt_of_le
abbrev qN := @List.getElem?_eq_getElem
abbrev zp := @Nat.le_trans
abbrev zZ := @Nat.le_refl
abbrev zm := @List.length_cons
abbrev qi := @List.length_nil
abbrev zl := @Nat.zero_le
abbrev jS := @List.take_of_length_le
abbrev xP := @List.flatten_cons
abbrev xO := @Bool.false_eq_true
abbrev j6 := @List.take_succ_eq_append_getElem
abbrev jt := @List.flatten_append
abbrev xy := @List.map_append
abbrev xn := @List.append_nil
abbrev xi := @List.map_cons
end Go.Proofs.YtfocdefchbnkpaaGreatDoor
