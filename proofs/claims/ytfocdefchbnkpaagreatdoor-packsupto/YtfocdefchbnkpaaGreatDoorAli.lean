/- Short names of laws of the library. -/
import Derived.RowKit
import Derived.Laws.OwnMore
namespace Go.Proofs.YtfocdefchbnkpaaGreatDoor
open Go.RowKit
def Y (p : Prop) : Prop := p
theorem Y.o {p : Prop} (h : Y p) : p := h
theorem J {p : Prop} (h : p) : Y p := h
abbrev zL := @World.grownBy_alloc
abbrev zx := @World.ownsRow.lt
abbrev qK := @World.ownsRow.alloc
abbrev qR := @World.ownsRow.cellAt
abbrev xd := @World.ownsRow_nil
abbrev zh := @List.length_append
abbrev x4 := @List.append_assoc
abbrev xW := @List.length_map
abbrev qQ := @Value.slice.injEq
abbrev x5 := @Option.some.inj
abbrev vQ := @Nat.lt_of_lt_of_le
abbrev xo := @List.getElem?_eq_getElem
abbrev qf := @Nat.le_trans
abbrev zw := @Nat.le_refl
abbrev zoF := @List.length_cons
abbrev zmU := @List.length_nil
abbrev zo := @Nat.zero_le
abbrev tW := @List.take_of_length_le
abbrev zf7 := @List.flatten_cons
abbrev zb2 := @Bool.false_eq_true
abbrev uo := @List.take_succ_eq_append_getElem
abbrev yj := @List.flatten_append
abbrev fJ := @List.map_append
abbrev zb3 := @List.append_nil
abbrev xl := @List.map_cons
end Go.Proofs.YtfocdefchbnkpaaGreatDoor
