import Derived.Test.YtfocdefchbnkpaaGreatDoorRows
import Derived.Test.YtfocdefchbnkpaaGreatDoorPrB
import Derived.Deep.Strs
set_option maxRecDepth 100000
set_option maxHeartbeats 20000000
namespace Go.Proofs.YtfocdefchbnkpaaGreatDoor
open Go.ChangeShapes Go.WideShapes Go.RowKit Go.Deep Proofs.Tryz
theorem mq {H:Type}{d:DataW H}:∀{l:List (DataW H)},d∈l->Rows.uptoBulk d<=Rows.uptoBulkAll l
 | [],h=>by cases h
 | x :: r,h=>by
  rw[Rows.uptoBulkAll];rcases En.1 h with rfl | h
  ·omega
  ·have:=mq h;omega
theorem zh0 {H:Type}(d:DataW H):0<Rows.uptoBulk d:=by
 cases d with
 | lit x=>cases x <;> simp[Rows.uptoBulk]
 | _=>simp[Rows.uptoBulk]
theorem mp {H:Type}:∀(l:List (DataW H)),l.length<=Rows.uptoBulkAll l
 | []=>Ax _
 | x :: r=>by
  rw[Rows.uptoBulkAll,Bb];have a:=zh0 x;have b:=mp r
  omega
def zjG (W:World)(v:Value)(n:Nat):Prop:=∃(sa:Option Addr) (sc:Nat) (l:List UInt8),v = .slice sa l.length sc/\l.length<=n/\RdO W (.slice sa l.length sc) l/\(l≠[]->∀g o,sa=some ⟨g,o,none⟩->g<W.heap.size)/\(sa=none->l=[])
end Go.Proofs.YtfocdefchbnkpaaGreatDoor
