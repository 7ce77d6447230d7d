import Derived.Test.YtfocdefchbnkpaaGreatDoorYdE
set_option maxRecDepth 100000
set_option maxHeartbeats 20000000
namespace Go.Proofs.YtfocdefchbnkpaaGreatDoor
open Go.RowKit Tryz
structure G3 (w:World):Prop where
 glob:Glob w
 ge:GE w
 gt:GT w
theorem zcR {w:World}{a:Addr}{v:Value}(h:w.cell? a=some v):a.block<w.heap.size:=by
 rcases Nat.lt_or_ge a.block w.heap.size with q|q
 ·exact q
 ·simp[World.cell?,Array.getElem?_eq_none q] at h
theorem G3.low {w:World}(h:G3 w):0<w.heap.size/\Tryz.laysC172_ren.g 15<w.heap.size/\GTB w.heap.size:=by
 obtain⟨m,a⟩:=h.glob;obtain⟨c,b,_⟩:=h.ge;exact⟨zcR a,zcR b,h.gt.bound⟩
end Go.Proofs.YtfocdefchbnkpaaGreatDoor
