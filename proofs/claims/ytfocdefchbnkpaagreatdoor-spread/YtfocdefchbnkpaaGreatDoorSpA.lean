/- Spread: the tokens of its policy, for any weights. -/
import Derived.Test.YtfocdefchbnkpaaGreatDoorAli
import Derived.Test.YtfocdefchbnkpaaGreatDoorYpF
set_option maxRecDepth 100000
set_option maxHeartbeats 20000000
namespace Go.Proofs.YtfocdefchbnkpaaGreatDoor
open Go.RowKit
def Sp.t (x y z u:UInt8):List UInt8:=[104,111,115,116,34,42,34,123,114,117,108,101,32,49,123,112,97,116,104,34,47,111,110,101,34,59,116,111,34,111,110,101,34,57,44,34,110,111,110,101,34,48,59,125,114,117,108,101,32,50,123,112,97,116,104,34,47,34,59,116,111,32,34,97,34,x,44,34,98,34,y,44,34,99,34,z,44,34,100,34,u,59,125,125]
def Sp.tk (x y z u:UInt8):List R.Tok:=[⟨119,[104,111,115,116],0⟩,⟨34,[42],4⟩,⟨115,[123],7⟩,⟨119,[114,117,108,101],8⟩,⟨49,[49],13⟩,⟨115,[123],14⟩,⟨119,[112,97,116,104],15⟩,⟨34,[47,111,110,101],19⟩,⟨115,[59],25⟩,⟨119,[116,111],26⟩,⟨34,[111,110,101],28⟩,⟨49,[57],33⟩,⟨115,[44],34⟩,⟨34,[110,111,110,101],35⟩,⟨49,[48],41⟩,⟨115,[59],42⟩,⟨115,[125],43⟩,⟨119,[114,117,108,101],44⟩,⟨49,[50],49⟩,⟨115,[123],50⟩,⟨119,[112,97,116,104],51⟩,⟨34,[47],55⟩,⟨115,[59],58⟩,⟨119,[116,111],59⟩,⟨34,[97],62⟩,⟨49,[x],65⟩,⟨115,[44],66⟩,⟨34,[98],67⟩,⟨49,[y],70⟩,⟨115,[44],71⟩,⟨34,[99],72⟩,⟨49,[z],75⟩,⟨115,[44],76⟩,⟨34,[100],77⟩,⟨49,[u],80⟩,⟨115,[59],81⟩,⟨115,[125],82⟩,⟨115,[125],83⟩,⟨0,[],84⟩]
def Sp.dig (x:UInt8):Prop:=x=48\/x=49\/x=50\/x=51\/x=52\/x=53\/x=54\/x=55\/x=56
theorem q1q {l:List UInt8}{n i j:Nat}{T:R.Tok}(h:i<l.length)(hb:decide (R.at0 l i=32\/R.at0 l i=10)=false)(hk:decide ((R.tend l i).2=120)=false)(ht:R.tok l i=T)(hj:(R.tend l i).1=j):R.toksGo (n+1) l i=T :: R.toksGo n l j:=by
 rw[R.toksGo_good h (of_decide_eq_false hb) (of_decide_eq_false hk),ht,hj]
theorem q15q {l:List UInt8}{n i:Nat}(h:i<l.length)(hb:decide (R.at0 l i=32\/R.at0 l i=10)=true):R.toksGo (n+1) l i=R.toksGo n l (i+1):=R.toksGo_blank h (of_decide_eq_true hb)
theorem zsH (x y z u:UInt8):R.toksGo 85 (Sp.t x y z u) 0=⟨119,[104,111,115,116],0⟩ :: R.toksGo 84 (Sp.t x y z u) 4:=by
 exact q1q (by show 0<84;decide) (by kernel_rfl) (by kernel_rfl) (by kernel_rfl) (by kernel_rfl)
theorem zsI (x y z u:UInt8):R.toksGo 84 (Sp.t x y z u) 4=⟨34,[42],4⟩ :: R.toksGo 83 (Sp.t x y z u) 7:=by
 exact q1q (by show 4<84;decide) (by kernel_rfl) (by kernel_rfl) (by kernel_rfl) (by kernel_rfl)
theorem zsJ (x y z u:UInt8):R.toksGo 83 (Sp.t x y z u) 7=⟨115,[123],7⟩ :: R.toksGo 82 (Sp.t x y z u) 8:=by
 exact q1q (by show 7<84;decide) (by kernel_rfl) (by kernel_rfl) (by kernel_rfl) (by kernel_rfl)
theorem zsK (x y z u:UInt8):R.toksGo 82 (Sp.t x y z u) 8=⟨119,[114,117,108,101],8⟩ :: R.toksGo 81 (Sp.t x y z u) 12:=by
 exact q1q (by show 8<84;decide) (by kernel_rfl) (by kernel_rfl) (by kernel_rfl) (by kernel_rfl)
theorem ztW (x y z u:UInt8):R.toksGo 81 (Sp.t x y z u) 12=R.toksGo 80 (Sp.t x y z u) 13:=q15q (by show 12<84;decide) (by kernel_rfl)
theorem zsL (x y z u:UInt8):R.toksGo 80 (Sp.t x y z u) 13=⟨49,[49],13⟩ :: R.toksGo 79 (Sp.t x y z u) 14:=by
 exact q1q (by show 13<84;decide) (by kernel_rfl) (by kernel_rfl) (by kernel_rfl) (by kernel_rfl)
theorem zsM (x y z u:UInt8):R.toksGo 79 (Sp.t x y z u) 14=⟨115,[123],14⟩ :: R.toksGo 78 (Sp.t x y z u) 15:=by
 exact q1q (by show 14<84;decide) (by kernel_rfl) (by kernel_rfl) (by kernel_rfl) (by kernel_rfl)
theorem zsN (x y z u:UInt8):R.toksGo 78 (Sp.t x y z u) 15=⟨119,[112,97,116,104],15⟩ :: R.toksGo 77 (Sp.t x y z u) 19:=by
 exact q1q (by show 15<84;decide) (by kernel_rfl) (by kernel_rfl) (by kernel_rfl) (by kernel_rfl)
theorem zsO (x y z u:UInt8):R.toksGo 77 (Sp.t x y z u) 19=⟨34,[47,111,110,101],19⟩ :: R.toksGo 76 (Sp.t x y z u) 25:=by
 exact q1q (by show 19<84;decide) (by kernel_rfl) (by kernel_rfl) (by kernel_rfl) (by kernel_rfl)
theorem zsP (x y z u:UInt8):R.toksGo 76 (Sp.t x y z u) 25=⟨115,[59],25⟩ :: R.toksGo 75 (Sp.t x y z u) 26:=by
 exact q1q (by show 25<84;decide) (by kernel_rfl) (by kernel_rfl) (by kernel_rfl) (by kernel_rfl)
theorem zsQ (x y z u:UInt8):R.toksGo 75 (Sp.t x y z u) 26=⟨119,[116,111],26⟩ :: R.toksGo 74 (Sp.t x y z u) 28:=by
 exact q1q (by show 26<84;decide) (by kernel_rfl) (by kernel_rfl) (by kernel_rfl) (by kernel_rfl)
theorem q91q (x y z u:UInt8):R.toksGo 74 (Sp.t x y z u) 28=⟨34,[111,110,101],28⟩ :: R.toksGo 73 (Sp.t x y z u) 33:=by
 exact q1q (by show 28<84;decide) (by kernel_rfl) (by kernel_rfl) (by kernel_rfl) (by kernel_rfl)
theorem q92q (x y z u:UInt8):R.toksGo 73 (Sp.t x y z u) 33=⟨49,[57],33⟩ :: R.toksGo 72 (Sp.t x y z u) 34:=by
 exact q1q (by show 33<84;decide) (by kernel_rfl) (by kernel_rfl) (by kernel_rfl) (by kernel_rfl)
theorem q93q (x y z u:UInt8):R.toksGo 72 (Sp.t x y z u) 34=⟨115,[44],34⟩ :: R.toksGo 71 (Sp.t x y z u) 35:=by
 exact q1q (by show 34<84;decide) (by kernel_rfl) (by kernel_rfl) (by kernel_rfl) (by kernel_rfl)
theorem q94q (x y z u:UInt8):R.toksGo 71 (Sp.t x y z u) 35=⟨34,[110,111,110,101],35⟩ :: R.toksGo 70 (Sp.t x y z u) 41:=by
 exact q1q (by show 35<84;decide) (by kernel_rfl) (by kernel_rfl) (by kernel_rfl) (by kernel_rfl)
theorem q95q (x y z u:UInt8):R.toksGo 70 (Sp.t x y z u) 41=⟨49,[48],41⟩ :: R.toksGo 69 (Sp.t x y z u) 42:=by
 exact q1q (by show 41<84;decide) (by kernel_rfl) (by kernel_rfl) (by kernel_rfl) (by kernel_rfl)
theorem q96q (x y z u:UInt8):R.toksGo 69 (Sp.t x y z u) 42=⟨115,[59],42⟩ :: R.toksGo 68 (Sp.t x y z u) 43:=by
 exact q1q (by show 42<84;decide) (by kernel_rfl) (by kernel_rfl) (by kernel_rfl) (by kernel_rfl)
theorem q97q (x y z u:UInt8):R.toksGo 68 (Sp.t x y z u) 43=⟨115,[125],43⟩ :: R.toksGo 67 (Sp.t x y z u) 44:=by
 exact q1q (by show 43<84;decide) (by kernel_rfl) (by kernel_rfl) (by kernel_rfl) (by kernel_rfl)
theorem q98q (x y z u:UInt8):R.toksGo 67 (Sp.t x y z u) 44=⟨119,[114,117,108,101],44⟩ :: R.toksGo 66 (Sp.t x y z u) 48:=by
 exact q1q (by show 44<84;decide) (by kernel_rfl) (by kernel_rfl) (by kernel_rfl) (by kernel_rfl)
theorem ztX (x y z u:UInt8):R.toksGo 66 (Sp.t x y z u) 48=R.toksGo 65 (Sp.t x y z u) 49:=q15q (by show 48<84;decide) (by kernel_rfl)
theorem q99q (x y z u:UInt8):R.toksGo 65 (Sp.t x y z u) 49=⟨49,[50],49⟩ :: R.toksGo 64 (Sp.t x y z u) 50:=by
 exact q1q (by show 49<84;decide) (by kernel_rfl) (by kernel_rfl) (by kernel_rfl) (by kernel_rfl)
theorem q100q (x y z u:UInt8):R.toksGo 64 (Sp.t x y z u) 50=⟨115,[123],50⟩ :: R.toksGo 63 (Sp.t x y z u) 51:=by
 exact q1q (by show 50<84;decide) (by kernel_rfl) (by kernel_rfl) (by kernel_rfl) (by kernel_rfl)
theorem q101q (x y z u:UInt8):R.toksGo 63 (Sp.t x y z u) 51=⟨119,[112,97,116,104],51⟩ :: R.toksGo 62 (Sp.t x y z u) 55:=by
 exact q1q (by show 51<84;decide) (by kernel_rfl) (by kernel_rfl) (by kernel_rfl) (by kernel_rfl)
theorem q102q (x y z u:UInt8):R.toksGo 62 (Sp.t x y z u) 55=⟨34,[47],55⟩ :: R.toksGo 61 (Sp.t x y z u) 58:=by
 exact q1q (by show 55<84;decide) (by kernel_rfl) (by kernel_rfl) (by kernel_rfl) (by kernel_rfl)
theorem q103q (x y z u:UInt8):R.toksGo 61 (Sp.t x y z u) 58=⟨115,[59],58⟩ :: R.toksGo 60 (Sp.t x y z u) 59:=by
 exact q1q (by show 58<84;decide) (by kernel_rfl) (by kernel_rfl) (by kernel_rfl) (by kernel_rfl)
theorem q104q (x y z u:UInt8):R.toksGo 60 (Sp.t x y z u) 59=⟨119,[116,111],59⟩ :: R.toksGo 59 (Sp.t x y z u) 61:=by
 exact q1q (by show 59<84;decide) (by kernel_rfl) (by kernel_rfl) (by kernel_rfl) (by kernel_rfl)
theorem ztY (x y z u:UInt8):R.toksGo 59 (Sp.t x y z u) 61=R.toksGo 58 (Sp.t x y z u) 62:=q15q (by show 61<84;decide) (by kernel_rfl)
theorem q105q (x y z u:UInt8):R.toksGo 58 (Sp.t x y z u) 62=⟨34,[97],62⟩ :: R.toksGo 57 (Sp.t x y z u) 65:=by
 exact q1q (by show 62<84;decide) (by kernel_rfl) (by kernel_rfl) (by kernel_rfl) (by kernel_rfl)
theorem q106q (x y z u:UInt8)(h:Sp.dig x):R.toksGo 57 (Sp.t x y z u) 65=⟨49,[x],65⟩ :: R.toksGo 56 (Sp.t x y z u) 66:=by
 rcases h with h | h | h | h | h | h | h | h | h <;> subst h <;> exact q1q (by show 65<84;decide) (by kernel_rfl) (by kernel_rfl) (by kernel_rfl) (by kernel_rfl)
theorem q107q (x y z u:UInt8):R.toksGo 56 (Sp.t x y z u) 66=⟨115,[44],66⟩ :: R.toksGo 55 (Sp.t x y z u) 67:=by
 exact q1q (by show 66<84;decide) (by kernel_rfl) (by kernel_rfl) (by kernel_rfl) (by kernel_rfl)
theorem q108q (x y z u:UInt8):R.toksGo 55 (Sp.t x y z u) 67=⟨34,[98],67⟩ :: R.toksGo 54 (Sp.t x y z u) 70:=by
 exact q1q (by show 67<84;decide) (by kernel_rfl) (by kernel_rfl) (by kernel_rfl) (by kernel_rfl)
theorem q109q (x y z u:UInt8)(h:Sp.dig y):R.toksGo 54 (Sp.t x y z u) 70=⟨49,[y],70⟩ :: R.toksGo 53 (Sp.t x y z u) 71:=by
 rcases h with h | h | h | h | h | h | h | h | h <;> subst h <;> exact q1q (by show 70<84;decide) (by kernel_rfl) (by kernel_rfl) (by kernel_rfl) (by kernel_rfl)
theorem q110q (x y z u:UInt8):R.toksGo 53 (Sp.t x y z u) 71=⟨115,[44],71⟩ :: R.toksGo 52 (Sp.t x y z u) 72:=by
 exact q1q (by show 71<84;decide) (by kernel_rfl) (by kernel_rfl) (by kernel_rfl) (by kernel_rfl)
theorem q111q (x y z u:UInt8):R.toksGo 52 (Sp.t x y z u) 72=⟨34,[99],72⟩ :: R.toksGo 51 (Sp.t x y z u) 75:=by
 exact q1q (by show 72<84;decide) (by kernel_rfl) (by kernel_rfl) (by kernel_rfl) (by kernel_rfl)
theorem q112q (x y z u:UInt8)(h:Sp.dig z):R.toksGo 51 (Sp.t x y z u) 75=⟨49,[z],75⟩ :: R.toksGo 50 (Sp.t x y z u) 76:=by
 rcases h with h | h | h | h | h | h | h | h | h <;> subst h <;> exact q1q (by show 75<84;decide) (by kernel_rfl) (by kernel_rfl) (by kernel_rfl) (by kernel_rfl)
theorem q113q (x y z u:UInt8):R.toksGo 50 (Sp.t x y z u) 76=⟨115,[44],76⟩ :: R.toksGo 49 (Sp.t x y z u) 77:=by
 exact q1q (by show 76<84;decide) (by kernel_rfl) (by kernel_rfl) (by kernel_rfl) (by kernel_rfl)
theorem q114q (x y z u:UInt8):R.toksGo 49 (Sp.t x y z u) 77=⟨34,[100],77⟩ :: R.toksGo 48 (Sp.t x y z u) 80:=by
 exact q1q (by show 77<84;decide) (by kernel_rfl) (by kernel_rfl) (by kernel_rfl) (by kernel_rfl)
theorem q115q (x y z u:UInt8)(h:Sp.dig u):R.toksGo 48 (Sp.t x y z u) 80=⟨49,[u],80⟩ :: R.toksGo 47 (Sp.t x y z u) 81:=by
 rcases h with h | h | h | h | h | h | h | h | h <;> subst h <;> exact q1q (by show 80<84;decide) (by kernel_rfl) (by kernel_rfl) (by kernel_rfl) (by kernel_rfl)
theorem q116q (x y z u:UInt8):R.toksGo 47 (Sp.t x y z u) 81=⟨115,[59],81⟩ :: R.toksGo 46 (Sp.t x y z u) 82:=by
 exact q1q (by show 81<84;decide) (by kernel_rfl) (by kernel_rfl) (by kernel_rfl) (by kernel_rfl)
theorem q117q (x y z u:UInt8):R.toksGo 46 (Sp.t x y z u) 82=⟨115,[125],82⟩ :: R.toksGo 45 (Sp.t x y z u) 83:=by
 exact q1q (by show 82<84;decide) (by kernel_rfl) (by kernel_rfl) (by kernel_rfl) (by kernel_rfl)
theorem q118q (x y z u:UInt8):R.toksGo 45 (Sp.t x y z u) 83=⟨115,[125],83⟩ :: R.toksGo 44 (Sp.t x y z u) 84:=by
 exact q1q (by show 83<84;decide) (by kernel_rfl) (by kernel_rfl) (by kernel_rfl) (by kernel_rfl)
theorem zsR {x y z u:UInt8}(hx:Sp.dig x)(hy:Sp.dig y)(hz:Sp.dig z)(hu:Sp.dig u):R.toks (Sp.t x y z u)=Sp.tk x y z u:=by
 unfold R.toks
 have e:(Sp.t x y z u).length+1=85:=rfl
 have e2:R.toksGo 44 (Sp.t x y z u) 84=[⟨0,[],84⟩]:=R.toksGo_end (by show ¬84<84;decide)
 rw[e,zsH x y z u,zsI x y z u,zsJ x y z u,zsK x y z u,ztW x y z u,zsL x y z u,zsM x y z u,zsN x y z u,zsO x y z u,zsP x y z u,zsQ x y z u,q91q x y z u,q92q x y z u,q93q x y z u,q94q x y z u,q95q x y z u,q96q x y z u,q97q x y z u,q98q x y z u,ztX x y z u,q99q x y z u,q100q x y z u,q101q x y z u,q102q x y z u,q103q x y z u,q104q x y z u,ztY x y z u,q105q x y z u,q106q x y z u hx,q107q x y z u,q108q x y z u,q109q x y z u hy,q110q x y z u,q111q x y z u,q112q x y z u hz,q113q x y z u,q114q x y z u,q115q x y z u hu,q116q x y z u,q117q x y z u,q118q x y z u,e2]
 rfl
def Sp.w (x:UInt8):Int:=(x.toNat:Int) - 48
def Sp.add (acc:List (List UInt8×Int))(nm:List UInt8)(x:UInt8):List (List UInt8×Int):=if x=48 then acc else acc++[(nm,Sp.w x)]
def Sp.tg (x y z u:UInt8):List (List UInt8×Int):=Sp.add (Sp.add (Sp.add (Sp.add [] [97] x) [98] y) [99] z) [100] u
theorem q2q {x:UInt8}(h:Sp.dig x):R.num [x]=Sp.w x/\0<=Sp.w x/\Sp.w x<=8/\(x=48↔Sp.w x=0):=by
 rcases h with h | h | h | h | h | h | h | h | h <;> subst h <;> decide +kernel
theorem q76q {x:UInt8}(y z u:UInt8)(h:Sp.dig x)(acc:List (List UInt8×Int)):zo (Sp.tk x y z u) ⟨24,-1,0,0⟩ 0 acc=(⟨26,-1,0,0⟩,Sp.add acc [97] x):=by
 rcases h with h | h | h | h | h | h | h | h | h <;> subst h <;> kernel_rfl
theorem q77q {y:UInt8}(x z u:UInt8)(h:Sp.dig y)(acc:List (List UInt8×Int)):zo (Sp.tk x y z u) ⟨27,-1,0,0⟩ 1 acc=(⟨29,-1,0,0⟩,Sp.add acc [98] y):=by
 rcases h with h | h | h | h | h | h | h | h | h <;> subst h <;> kernel_rfl
theorem q78q {z:UInt8}(x y u:UInt8)(h:Sp.dig z)(acc:List (List UInt8×Int)):zo (Sp.tk x y z u) ⟨30,-1,0,0⟩ 2 acc=(⟨32,-1,0,0⟩,Sp.add acc [99] z):=by
 rcases h with h | h | h | h | h | h | h | h | h <;> subst h <;> kernel_rfl
theorem q79q {u:UInt8}(x y z:UInt8)(h:Sp.dig u)(acc:List (List UInt8×Int)):zo (Sp.tk x y z u) ⟨33,-1,0,0⟩ 3 acc=(⟨35,-1,0,0⟩,Sp.add acc [100] u):=by
 rcases h with h | h | h | h | h | h | h | h | h <;> subst h <;> kernel_rfl
theorem q14q {ts:List R.Tok}{n i:Nat}{st st' st'':R.St}{acc acc':List (List UInt8×Int)}(h0:decide (st.bad<0)=true)(h:zo ts st i acc=(st',acc'))(h1:R.isB st' (R.cur ts st') [44]=true)(h2:R.needS ts st' [44]=st''):R.tgLoop ts (n+1) st i acc=R.tgLoop ts n st'' (i+1) acc':=by
 rw[R.tgLoop,if_pos (of_decide_eq_true h0),h]
 show(if R.isB st' (R.cur ts st') [44]=true then _ else _)=_
 rw[if_pos h1,h2]
theorem q72q {ts:List R.Tok}{n i:Nat}{st st':R.St}{acc acc':List (List UInt8×Int)}(h0:decide (st.bad<0)=true)(h:zo ts st i acc=(st',acc'))(h1:R.isB st' (R.cur ts st') [44]=false):R.tgLoop ts (n+1) st i acc=(acc',st'):=by
 rw[R.tgLoop,if_pos (of_decide_eq_true h0),h]
 show(if R.isB st' (R.cur ts st') [44]=true then _ else _)=_
 rw[if_neg (by rw[h1];decide)]
theorem zsD {x y z u:UInt8}(hx:Sp.dig x)(hy:Sp.dig y)(hz:Sp.dig z)(hu:Sp.dig u):R.tgLoop (Sp.tk x y z u) 40 ⟨24,-1,0,0⟩ 0 []=(Sp.tg x y z u,⟨35,-1,0,0⟩):=by
 rw[q14q (by decide) (q76q y z u hx []) (by kernel_rfl) (st'':=⟨27,-1,0,0⟩) (by kernel_rfl)]
 rw[q14q (by decide) (q77q x z u hy _) (by kernel_rfl) (st'':=⟨30,-1,0,0⟩) (by kernel_rfl)]
 rw[q14q (by decide) (q78q x y u hz _) (by kernel_rfl) (st'':=⟨33,-1,0,0⟩) (by kernel_rfl)]
 rw[q72q (by decide) (q79q x y z hu _) (by kernel_rfl)]
 rfl
theorem zu1 {x y z u:UInt8}(hx:Sp.dig x)(hy:Sp.dig y)(hz:Sp.dig z)(hu:Sp.dig u):yB ((Sp.tk x y z u).drop 24)=Sp.w x+Sp.w y+Sp.w z+Sp.w u:=by
 have e0:yB ((Sp.tk x y z u).drop 36)=0:=by
  show yB [_,_,_]=0
  rw[yB,if_neg (by simp)]
 rw[zdK _ 24 (by show 25<39;decide) rfl rfl,zdK _ 27 (by show 28<39;decide) rfl rfl,zdK _ 30 (by show 31<39;decide) rfl rfl,zdK _ 33 (by show 34<39;decide) rfl rfl,e0]
 show R.num [x]+(R.num [y]+(R.num [z]+(R.num [u]+0)))=_
 rw[(q2q hx).1,(q2q hy).1,(q2q hz).1,(q2q hu).1]
 omega
theorem q63q {x y z u:UInt8}(hx:Sp.dig x)(hy:Sp.dig y)(hz:Sp.dig z)(hu:Sp.dig u)(h0:u≠48):R.targetsS (Sp.tk x y z u) ⟨23,-1,0,0⟩=(Sp.tg x y z u,⟨36,-1,0,0⟩):=by
 have e1:R.needS (Sp.tk x y z u) ⟨23,-1,0,0⟩ [116,111]=⟨24,-1,0,0⟩:=by kernel_rfl
 have hp:0<yB ((Sp.tk x y z u).drop 24):=by
  rw[zu1 hx hy hz hu]
  have h1:=(q2q hx).2;have h2:=(q2q hy).2;have h3:=(q2q hz).2;have h4:=(q2q hu).2
  have:Sp.w u≠0:=fun e=>h0 (h4.2.2.2 e)
  omega
 have e3:(Sp.tk x y z u).length+1=40:=rfl
 unfold R.targetsS
 rw[e1,e3]
 show((R.tgLoop _ 40 (R.notS ⟨24,-1,0,0⟩ (decide (0<yB ((Sp.tk x y z u).drop 24))) 4 _) 0 []).1,R.needS _ (R.tgLoop _ 40 (R.notS ⟨24,-1,0,0⟩ (decide (0<yB ((Sp.tk x y z u).drop 24))) 4 _) 0 []).2 [59])=_
 rw[decide_eq_true hp]
 have e2:∀a,R.notS ⟨24,-1,0,0⟩ true 4 a=⟨24,-1,0,0⟩:=fun a=>rfl
 rw[e2,zsD hx hy hz hu]
 have e4:R.needS (Sp.tk x y z u) ⟨35,-1,0,0⟩ [59]=⟨36,-1,0,0⟩:=by kernel_rfl
 rw[e4]
def Sp.r1:R.Rl:=⟨1,[47,111,110,101],[],[([111,110,101],9)],false,[],[],[]⟩
def Sp.r2 (tg:List (List UInt8×Int)):R.Rl:=⟨2,[47],[],tg,false,[],[],[]⟩
def Sp.p1:P.Rl:=⟨1,[47,111,110,101],[],[([111,110,101],9)],[],[],[]⟩
def Sp.p2 (tg:List (List UInt8×Int)):P.Rl:=⟨2,[47],[],tg,[],[],[]⟩
def Sp.hs (tg:List (List UInt8×Int)):List P.Hst:=[⟨[42],[Sp.p1,Sp.p2 tg]⟩]
theorem zsG (x y z u:UInt8):yB ((Sp.tk x y z u).drop 10)=9:=by
 have e0:yB ((Sp.tk x y z u).drop 16)=0:=by
  show yB (_ :: _ :: _)=0
  rw[yB,if_neg (by simp)]
 rw[zdK _ 10 (by show 11<39;decide) rfl rfl,zdK _ 13 (by show 14<39;decide) rfl rfl,e0]
 show R.num [57]+(R.num [48]+0)=9
 decide +kernel
theorem q59q (x y z u:UInt8):R.targetsS (Sp.tk x y z u) ⟨9,-1,0,0⟩=([([111,110,101],9)],⟨16,-1,0,0⟩):=by
 have e1:R.needS (Sp.tk x y z u) ⟨9,-1,0,0⟩ [116,111]=⟨10,-1,0,0⟩:=by kernel_rfl
 have hp:0<yB ((Sp.tk x y z u).drop 10):=by rw[zsG];decide
 have e3:(Sp.tk x y z u).length+1=40:=rfl
 unfold R.targetsS
 rw[e1,e3]
 show((R.tgLoop _ 40 (R.notS ⟨10,-1,0,0⟩ (decide (0<yB ((Sp.tk x y z u).drop 10))) 4 _) 0 []).1,R.needS _ (R.tgLoop _ 40 (R.notS ⟨10,-1,0,0⟩ (decide (0<yB ((Sp.tk x y z u).drop 10))) 4 _) 0 []).2 [59])=_
 rw[decide_eq_true hp]
 have e2:∀a,R.notS ⟨10,-1,0,0⟩ true 4 a=⟨10,-1,0,0⟩:=fun a=>rfl
 have e5:R.tgLoop (Sp.tk x y z u) 40 ⟨10,-1,0,0⟩ 0 []=([([111,110,101],9)],⟨15,-1,0,0⟩):=by
  rw[q14q (by decide) (st':=⟨12,-1,0,0⟩) (acc':=[([111,110,101],9)]) (by kernel_rfl) (by kernel_rfl) (st'':=⟨13,-1,0,0⟩) (by kernel_rfl)]
  rw[q72q (by decide) (st':=⟨15,-1,0,0⟩) (acc':=[([111,110,101],9)]) (by kernel_rfl) (by kernel_rfl)]
 rw[e2,e5]
 have e4:R.needS (Sp.tk x y z u) ⟨15,-1,0,0⟩ [59]=⟨16,-1,0,0⟩:=by kernel_rfl
 rw[e4]
theorem q69q {ts:List R.Tok}{st s1 s2 s3 s4 s5:R.St}{i:Nat}{aa:List Int}{n:Int}{p:List UInt8}{m:List R.Mt}{t:List (List UInt8×Int)}{r:R.Rl}(h1:R.rlA ts st i aa=(n,s1))(h2:R.rlB ts s1=(p,s2))(h3:R.matchesS ts s2=(m,s3))(h4:R.targetsS ts s3=(t,s4))(h5:R.ruleE ts n p m (t,s4)=(r,s5)):R.ruleS ts st i aa=(r,s5):=by
 unfold R.ruleS R.ruleT
 rw[h1]
 show R.ruleE ts n (R.rlB ts s1).1 (R.matchesS ts (R.rlB ts s1).2).1 (R.targetsS ts (R.matchesS ts (R.rlB ts s1).2).2)=_
 rw[h2]
 show R.ruleE ts n p (R.matchesS ts s2).1 (R.targetsS ts (R.matchesS ts s2).2)=_
 rw[h3]
 show R.ruleE ts n p m (R.targetsS ts s3)=_
 rw[h4,h5]
theorem q87q (x y z u:UInt8):R.ruleS (Sp.tk x y z u) ⟨3,-1,0,0⟩ 0 []=(Sp.r1,⟨17,-1,0,0⟩):=
 q69q (s1:=⟨5,-1,0,0⟩) (n:=1) (p:=[47,111,110,101]) (s2:=⟨9,-1,0,0⟩) (m:=[]) (s3:=⟨9,-1,0,0⟩) (by kernel_rfl) (by kernel_rfl) (by kernel_rfl) (q59q x y z u) (by kernel_rfl)
theorem q88q {x y z u:UInt8}(hx:Sp.dig x)(hy:Sp.dig y)(hz:Sp.dig z)(hu:Sp.dig u)(h0:u≠48):R.ruleS (Sp.tk x y z u) ⟨17,-1,0,0⟩ 1 [1]=(Sp.r2 (Sp.tg x y z u),⟨37,-1,0,0⟩):=by
 refine q69q (s1:=⟨19,-1,0,0⟩) (n:=2) (p:=[47]) (s2:=⟨23,-1,0,0⟩) (m:=[]) (s3:=⟨23,-1,0,0⟩) (by kernel_rfl) (by kernel_rfl) (by kernel_rfl) (q63q hx hy hz hu h0) ?_
 generalize Sp.tg x y z u=tg
 kernel_rfl
theorem q68q {ts:List R.Tok}{n:Nat}{st st':R.St}{acc:List R.Rl}{r:R.Rl}(h:R.isB st (R.cur ts st) qm=true)(h2:R.ruleS ts st acc.length (acc.map R.Rl.number)=(r,st')):R.rlLoop ts (n+1) st acc=R.rlLoop ts n st' (acc++[r]):=by
 rw[R.rlLoop,if_pos h,h2]
theorem zs6 {ts:List R.Tok}{n:Nat}{st:R.St}{acc:List R.Rl}(h:R.isB st (R.cur ts st) qm=false):R.rlLoop ts (n+1) st acc=(acc,st):=by
 rw[R.rlLoop,if_neg (by rw[h];decide)]
theorem zrG {ts:List R.Tok}{st s1 s2 s3 s4:R.St}{aa:List (List UInt8)}{nm:List UInt8}{rs:List R.Rl}(h1:R.hsA ts st aa=(nm,s1))(h2:R.needS ts s1 [123]=s2)(h3:R.rlLoop ts (ts.length+1) s2 []=(rs,s3))(h4:R.needS ts s3 [125]=s4):R.hostS ts st aa=(⟨nm,rs⟩,s4):=by
 unfold R.hostS R.hsB
 rw[h1]
 simp only
 rw[h2,h3]
 simp only
 rw[h4]
theorem q89q {x y z u:UInt8}(hx:Sp.dig x)(hy:Sp.dig y)(hz:Sp.dig z)(hu:Sp.dig u)(h0:u≠48):R.rlLoop (Sp.tk x y z u) 40 ⟨3,-1,0,0⟩ []=([Sp.r1,Sp.r2 (Sp.tg x y z u)],⟨37,-1,0,0⟩):=by
 have e1:=q68q (n:=39) (acc:=[]) (st:=⟨3,-1,0,0⟩) (by kernel_rfl) (q87q x y z u)
 have e2:=q68q (n:=38) (acc:=[Sp.r1]) (st:=⟨17,-1,0,0⟩) (by kernel_rfl) (q88q hx hy hz hu h0)
 have e3:=zs6 (n:=37) (acc:=[Sp.r1,Sp.r2 (Sp.tg x y z u)]) (ts:=Sp.tk x y z u) (st:=⟨37,-1,0,0⟩) (by kernel_rfl)
 exact e1.trans (e2.trans e3)
theorem zsC {x y z u:UInt8}(hx:Sp.dig x)(hy:Sp.dig y)(hz:Sp.dig z)(hu:Sp.dig u)(h0:u≠48):R.hostS (Sp.tk x y z u) ⟨0,-1,0,0⟩ []=(⟨[42],[Sp.r1,Sp.r2 (Sp.tg x y z u)]⟩,⟨38,-1,0,0⟩):=
 zrG (nm:=[42]) (s1:=⟨2,-1,0,0⟩) (s2:=⟨3,-1,0,0⟩) (by kernel_rfl) (by kernel_rfl) (q89q hx hy hz hu h0) (by kernel_rfl)
theorem q71q {x y z u:UInt8}(hx:Sp.dig x)(hy:Sp.dig y)(hz:Sp.dig z)(hu:Sp.dig u)(h0:u≠48):R.readS (Sp.t x y z u)=([⟨[42],[Sp.r1,Sp.r2 (Sp.tg x y z u)]⟩],⟨38,-1,0,0⟩):=by
 unfold R.readS
 rw[zsR hx hy hz hu]
 have e3:(Sp.tk x y z u).length+2=41:=rfl
 rw[e3,R.hsLoop,if_pos ⟨by decide,fun h=>absurd h (by show ¬((119:Int)=0);decide)⟩]
 show R.hsLoop _ 40 (R.hostS (Sp.tk x y z u) ⟨0,-1,0,0⟩ []).2 ([]++[(R.hostS (Sp.tk x y z u) ⟨0,-1,0,0⟩ []).1])=_
 rw[zsC hx hy hz hu h0,R.hsLoop,if_neg (fun h=>h.2 rfl)]
 rfl
theorem q86q {x y z u:UInt8}(hx:Sp.dig x)(hy:Sp.dig y)(hz:Sp.dig z)(hu:Sp.dig u)(h0:u≠48):xm (Sp.t x y z u)=(0,0):=by
 unfold xm
 rw[q71q hx hy hz hu h0]
 rfl
theorem zsE {x y z u:UInt8}(hx:Sp.dig x)(hy:Sp.dig y)(hz:Sp.dig z)(hu:Sp.dig u)(h0:u≠48):xG (Sp.t x y z u)=qE (Sp.hs (Sp.tg x y z u)):=by
 unfold xG
 rw[q86q hx hy hz hu h0,q71q hx hy hz hu h0,if_pos rfl,<-zn5]
 generalize Sp.tg x y z u=tg
 have e:jH [⟨[42],[Sp.r1,Sp.r2 tg]⟩]=(Sp.hs tg).map toR:=by kernel_rfl
 show zb2 (jH [⟨[42],[Sp.r1,Sp.r2 tg]⟩])=_
 rw[e]
theorem q12q {acc:List (List UInt8×Int)}{nm:List UInt8}{x:UInt8}{t:List UInt8×Int}(h:t∈Sp.add acc nm x):t∈acc\/(t=(nm,Sp.w x)/\x≠48):=by
 unfold Sp.add at h
 split at h
 ·exact Or.inl h
 ·rename_i q
  rcases List.mem_append.1 h with h | h
  ·exact Or.inl h
  ·exact Or.inr ⟨List.mem_singleton.1 h,q⟩
theorem q11q (acc:List (List UInt8×Int))(nm:List UInt8)(x:UInt8):(Sp.add acc nm x).length<=acc.length+1:=by
 unfold Sp.add
 split
 ·omega
 ·rw[zW];exact zZ _
theorem q7q {x:UInt8}(hx:Sp.dig x)(h:x≠48)(nm:List UInt8)(hn:R.upstream nm=true)(hl:nm.length<=24):VTg (nm,Sp.w x):=by
 have:=(q2q hx).2
 have h9:Sp.w x≠0:=fun e=>h (this.2.2.2 e)
 exact⟨hn,hl,by show 1<=Sp.w x;omega,by show Sp.w x<=1000;omega⟩
theorem zu2 {x y z u:UInt8}(hx:Sp.dig x)(hy:Sp.dig y)(hz:Sp.dig z)(hu:Sp.dig u):∀t∈Sp.tg x y z u,VTg t:=fun t ht=>by
 unfold Sp.tg at ht
 rcases q12q ht with ht | ⟨rfl,hn⟩
 ·rcases q12q ht with ht | ⟨rfl,hn⟩
  ·rcases q12q ht with ht | ⟨rfl,hn⟩
   ·rcases q12q ht with ht | ⟨rfl,hn⟩
    ·cases ht
    ·exact q7q hx hn _ (by decide +kernel) (by decide)
   ·exact q7q hy hn _ (by decide +kernel) (by decide)
  ·exact q7q hz hn _ (by decide +kernel) (by decide)
 ·exact q7q hu hn _ (by decide +kernel) (by decide)
theorem q80q (x y z u:UInt8):(Sp.tg x y z u).length<=4:=by
 unfold Sp.tg
 have h1:=q11q (Sp.add (Sp.add (Sp.add [] [97] x) [98] y) [99] z) [100] u
 have h2:=q11q (Sp.add (Sp.add [] [97] x) [98] y) [99] z
 have h3:=q11q (Sp.add [] [97] x) [98] y
 have h4:=q11q [] [97] x
 simp only[qi] at h4
 omega
theorem q90q {x y z u:UInt8}(h0:u≠48):Sp.tg x y z u≠[]:=by
 unfold Sp.tg
 rw[Sp.add,if_neg h0]
 simp
theorem q119q {tg:List (List UInt8×Int)}(h1:tg≠[])(h2:tg.length<=4)(h3:∀t∈tg,VTg t):VHs (Sp.hs tg) where
 hl:=by show 1<=4;decide
 ord:=List.pairwise_singleton _ _
 hosts:=fun h hh=>by
  rcases List.mem_singleton.1 hh with rfl
  exact {
   name:=by show R.named [42] false=true;decide +kernel
   nl:=by show 1<=24;decide
   rl:=by show 2<=6;decide
   ord:=by show List.Pairwise (·<·) [(1:Int),2];decide
   rules:=fun r hr=>by
    rcases List.mem_cons.1 hr with rfl | hr
    ·exact { num:=by decide,path:=by decide +kernel,pl:=by decide,ml:=by decide,ms:=fun m hm=>(by cases hm),t0:=by decide,tl:=by decide,tg:=fun t ht=>(by rcases List.mem_singleton.1 ht with rfl;exact⟨by decide +kernel,by decide,by decide,by decide⟩),rep:=Or.inl rfl,sl:=by decide,sets:=fun s hs=>(by cases hs),dl:=by decide,drops:=fun s hs=>(by cases hs),once:=by decide }
    ·rcases List.mem_singleton.1 hr with rfl
     exact { num:=(by show 0<=(2:Int)/\(2:Int)<=65535;decide),path:=(by show R.path [47]=true;decide +kernel),pl:=(by show 1<=24;decide),ml:=(by show 0<=3;decide),ms:=fun m hm=>(by cases hm),t0:=h1,tl:=h2,tg:=h3,rep:=Or.inl rfl,sl:=(by show 0<=3;decide),sets:=fun s hs=>(by cases hs),dl:=(by show 0<=3;decide),drops:=fun s hs=>(by cases hs),once:=List.Pairwise.nil } }
theorem q70q (tg:List (List UInt8×Int)):Fits (Sp.hs tg):=zoX (by kernel_rfl)
def Sp.req:List UInt8:=[71,69,84,32,47,111,110,101,32,72,84,84,80,47,49,46,49,13,10,104,111,115,116,58,32,104,13,10,13,10,71,69,84,32,47,32,72,84,84,80,47,49,46,49,13,10,104,111,115,116,58,32,104,13,10,13,10]
def Sp.d1:List UInt8:=[71,69,84,32,47,111,110,101,32,72,84,84,80,47,49,46,49,13,10,104,111,115,116,58,32,104,13,10,13,10]
def Sp.d2:List UInt8:=[71,69,84,32,47,32,72,84,84,80,47,49,46,49,13,10,104,111,115,116,58,32,104,13,10,13,10]
theorem ztZ (tg:List (List UInt8×Int))(ds:List UInt64):(⟨ds,[some (.hd Rq.zero)],[]⟩:Yd).fedP (Sp.hs tg) 0 Sp.req=⟨Tr.left ds tg,[some (.hd Rq.zero)],[⟨1,[111,110,101],Sp.d1⟩,⟨1,Tr.target (ds.headD 0) tg,Sp.d2⟩]⟩:=by
 kernel_rfl
def Sp.cnt (p:Nat->Bool)(b:Nat):Nat->Nat
 | 0=>0
 | n+1=>Sp.cnt p b n+(if p (b+n)=true then 1 else 0)
theorem q40q (p:Nat->Bool)(b:Nat):∀n,Sp.cnt p b (n+1)=(if p b=true then 1 else 0)+Sp.cnt p (b+1) n
 | 0=>by show 0+(if p (b+0)=true then 1 else 0)=_;rw[Nat.add_zero];exact(Nat.zero_add _).trans (Nat.add_zero _).symm
 | n+1=>by
  rw[Sp.cnt,q40q p b n,Sp.cnt,show b+(n+1)=b+1+n by omega]
  omega
theorem q65q (p:Nat->Bool)(b:Nat)(m:Nat):∀n,Sp.cnt p b (m+n)=Sp.cnt p b m+Sp.cnt p (b+m) n
 | 0=>rfl
 | n+1=>by
  rw[<-Nat.add_assoc,Sp.cnt,Sp.cnt,q65q p b m n,Nat.add_assoc b m n]
  omega
theorem q5q {p q:Nat->Bool}{b c:Nat}:∀n,(∀i,i<n->p (b+i)=q (c+i))->Sp.cnt p b n=Sp.cnt q c n
 | 0,_=>rfl
 | n+1,h=>by rw[Sp.cnt,Sp.cnt,q5q n (fun i hi=>h i (by omega)),h n (by omega)]
theorem q66q (p:Nat->Bool)(s:Nat)(hp:∀i,p (i+s)=p i):∀b,Sp.cnt p b s=Sp.cnt p 0 s
 | 0=>rfl
 | b+1=>by
  rw[<-q66q p s hp b]
  have h1:=q40q p b s
  have h2:Sp.cnt p b (s+1)=Sp.cnt p b s+(if p (b+s)=true then 1 else 0):=rfl
  rw[hp b] at h2
  omega
theorem q43q (p:Nat->Bool)(b:Nat)(v:Bool):∀n,(∀i,i<n->p (b+i)=v)->Sp.cnt p b n=if v=true then n else 0
 | 0,_=>by show 0=_;split <;> rfl
 | n+1,h=>by
  rw[Sp.cnt,q43q p b v n (fun i hi=>h i (by omega)),h n (by omega)]
  cases v <;> rfl
def Sp.of (nm:List UInt8)(tg:List (List UInt8×Int)):Nat:=(tg.map fun t=>if t.1=nm then t.2.toNat else 0).sum
theorem q42q (nm:List UInt8):∀tg:List (List UInt8×Int),Sp.cnt (fun i=>decide (Tr.share i tg=nm)) 0 (Tr.sum tg)=Sp.of nm tg
 | []=>rfl
 | t :: r=>by
  have e:Tr.sum (t :: r)=t.2.toNat+Tr.sum r:=rfl
  rw[e,q65q]
  have h1:Sp.cnt (fun i=>decide (Tr.share i (t :: r)=nm)) 0 t.2.toNat=if t.1=nm then t.2.toNat else 0:=by
   rw[q43q _ 0 (decide (t.1=nm)) _ (fun i hi=>by
    show decide (Tr.share (0+i) (t :: r)=nm)=_
    rw[Nat.zero_add,Tr.share,if_pos hi])]
   simp
  have h2:Sp.cnt (fun i=>decide (Tr.share i (t :: r)=nm)) (0+t.2.toNat) (Tr.sum r)=Sp.cnt (fun i=>decide (Tr.share i r=nm)) 0 (Tr.sum r):=q5q _ (fun i hi=>by
   show decide (Tr.share (0+t.2.toNat+i) (t :: r)=nm)=decide (Tr.share (0+i) r=nm)
   rw[Tr.share,if_neg (by omega),show 0+t.2.toNat+i - t.2.toNat=0+i by omega])
  rw[h1,h2,q42q nm r]
  rfl
theorem q44q (nm q:List UInt8)(acc:List (List UInt8×Int))(x:UInt8)(hx:Sp.dig x):Sp.of nm (Sp.add acc q x)=Sp.of nm acc+(if q=nm then (Sp.w x).toNat else 0):=by
 unfold Sp.add
 split
 ·rename_i h
  have:Sp.w x=0:=(q2q hx).2.2.2.1 h
  rw[this];split <;> rfl
 ·unfold Sp.of
  rw[xy,List.sum_append]
  rfl
theorem q13q (q:List UInt8)(acc:List (List UInt8×Int))(x:UInt8)(hx:Sp.dig x):Tr.sum (Sp.add acc q x)=Tr.sum acc+(Sp.w x).toNat:=by
 unfold Sp.add
 split
 ·rename_i h
  have:Sp.w x=0:=(q2q hx).2.2.2.1 h
  rw[this];rfl
 ·unfold Tr.sum
  rw[xy,List.sum_append]
  rfl
def Sp.nm (k:Nat):List UInt8:=[97+UInt8.ofNat k]
def Sp.dg (x y z u:UInt8)(k:Nat):UInt8:=if k=0 then x else if k=1 then y else if k=2 then z else u
theorem zu5 {x y z u:UInt8}(hx:Sp.dig x)(hy:Sp.dig y)(hz:Sp.dig z)(hu:Sp.dig u):Tr.sum (Sp.tg x y z u)=(Sp.w x).toNat+(Sp.w y).toNat+(Sp.w z).toNat+(Sp.w u).toNat:=by
 unfold Sp.tg
 rw[q13q _ _ _ hu,q13q _ _ _ hz,q13q _ _ _ hy,q13q _ _ _ hx]
 show 0+_+_+_+_=_
 omega
theorem zuF {x y z u:UInt8}(hx:Sp.dig x)(hy:Sp.dig y)(hz:Sp.dig z)(hu:Sp.dig u):∀k,k<4->Sp.of (Sp.nm k) (Sp.tg x y z u)=(Sp.w (Sp.dg x y z u k)).toNat:=by
 intro k hk
 unfold Sp.tg
 rw[q44q _ _ _ _ hu,q44q _ _ _ _ hz,q44q _ _ _ _ hy,q44q _ _ _ _ hx]
 have e:Sp.of (Sp.nm k) []=0:=rfl
 rw[e]
 match k,hk with
 | 0,_=>rw[if_pos (by decide),if_neg (by decide),if_neg (by decide),if_neg (by decide)];simp only[Nat.zero_add,Nat.add_zero];rfl
 | 1,_=>rw[if_neg (by decide),if_pos (by decide),if_neg (by decide),if_neg (by decide)];simp only[Nat.zero_add,Nat.add_zero];rfl
 | 2,_=>rw[if_neg (by decide),if_neg (by decide),if_pos (by decide),if_neg (by decide)];simp only[Nat.zero_add,Nat.add_zero];rfl
 | 3,_=>rw[if_neg (by decide),if_neg (by decide),if_neg (by decide),if_pos (by decide)];simp only[Nat.zero_add,Nat.add_zero];rfl
theorem q64q (nm:List UInt8)(tg:List (List UInt8×Int))(b:Nat)(d:Nat->UInt64)(hd:∀i,i<Tr.sum tg->(d i).toNat=b+i):Sp.cnt (fun i=>decide (Tr.target (d i) tg=nm)) 0 (Tr.sum tg)=Sp.of nm tg:=by
 by_cases h1:tg.length=1
 ·match tg,h1 with
  | [t],_=>
   rw[q43q _ 0 (decide (t.1=nm)) _ (fun i _=>rfl)]
   have e:Tr.sum [t]=t.2.toNat:=rfl
   have e2:Sp.of nm [t]=(if t.1=nm then t.2.toNat else 0)+0:=rfl
   rw[e,e2,Nat.add_zero]
   simp
 ·rw[<-q42q nm tg]
  have e:Sp.cnt (fun i=>decide (Tr.target (d i) tg=nm)) 0 (Tr.sum tg)=Sp.cnt (fun i=>decide (Tr.share (i % Tr.sum tg) tg=nm)) b (Tr.sum tg):=q5q _ (fun i hi=>by
   show decide (Tr.target (d (0+i)) tg=nm)=decide (Tr.share ((b+i) % Tr.sum tg) tg=nm)
   rw[Nat.zero_add,Tr.target_many h1,hd i hi])
  rw[e,q66q _ _ (fun i=>by show decide (Tr.share ((i+Tr.sum tg) % Tr.sum tg) tg=nm)=_;rw[Nat.add_mod_right]) b]
  exact q5q _ (fun i hi=>by
   show decide (Tr.share ((0+i) % Tr.sum tg) tg=nm)=decide (Tr.share (0+i) tg=nm)
   rw[Nat.zero_add,Nat.mod_eq_of_lt hi])
structure Stx (w:World) (yb:Nat) (ps:List (Option Nat)) (b:Nat) (s:List UInt8):Prop where
 cell:w.cell? ⟨b,1,none⟩=some (.string (R.str s))
 ap:¬YF w yb ps b
 lt:b<w.heap.size
theorem q3q (a b:List UInt8):R.str a++R.str b=R.str (a++b):=by
 apply zjA
 rw[q57q,R.str_toList,R.str_toList,R.str_toList]
theorem q6q:∀(os:List Obj) (w:World),w.grownBy (os.foldl World.alloc w) none
 | [],_=>zM _ _
 | o :: os,w=>zA (zJ w o none) (q6q os (w.alloc o))
theorem q4q:∀(os:List Obj) (w:World) (i:Nat) (o:Obj),os[i]?=some o->(os.foldl World.alloc w).heap[w.heap.size+i]?=some o
 | [],_,_,_,h=>by simp at h
 | a :: os,w,0,o,h=>by
  have e:a=o:=by simpa using h
  subst e
  have hb:(w.alloc a).heap[w.heap.size]?=some a:=heap_alloc_new w a
  have:=(q6q os (w.alloc a)).block w.heap.size (by simp) (by simp)
  exact this.trans hb
 | a :: os,w,i+1,o,h=>by
  have h1:=q4q os (w.alloc a) i o (by simpa using h)
  have e:(w.alloc a).heap.size+i=w.heap.size+(i+1):=by simp;omega
  rw[e] at h1
  exact h1
def Zs (w:World)(ao:Option Addr)(zs:List Int):Prop:=∀i (h:i<zs.length),∃b o,ao=some ⟨b,o,none⟩/\w.cell? ⟨b,o+i,none⟩=some (.int .i64 zs[i])/\-9223372036854775808<=zs[i]/\zs[i]<=9223372036854775807
def Ed.A3 (f:Nat->Value):Array Value:=#[f 0,f 1,f 2]
theorem at3 (f:Nat->Value):∀n,n<3->(Ed.A3 f)[n]?=some (f n)
 | 0,_=>rfl
 | 1,_=>rfl
 | 2,_=>rfl
 | n+3,h=>by omega
structure Ed.Blk (w2 wr:World) (gn gs gd gz:Nat) (se:Nat->List UInt8) (dr dn:Nat->Bool):Prop where
 gr:w2.grownBy wr none
 nm:wr.heap[gn]?=some (.cells (Ed.A3 fun n=>.string (R.str (Ed.nm n))) 9)
 st:wr.heap[gs]?=some (.cells (Ed.A3 fun n=>.string (R.str (se n))) 9)
 dr:wr.heap[gd]?=some (.cells (Ed.A3 fun n=>.bool (dr n)) 4)
 dn:wr.heap[gz]?=some (.cells (Ed.A3 fun n=>.bool (dn n)) 4)
def Ed.objs (s:Nat):List Obj:=[.cells #[.string ⟨#[47,111,108,100,47,49,63,47,111,108,100]⟩,.string ⟨#[47,110,101,119,47,49,63,47,111,108,100]⟩,.string ⟨#[47,111,108,100,47,49,63,47,111,108,100]⟩,.string ⟨#[47,47,49,63,47,111,108,100]⟩] 9,.cells #[.string ⟨#[97]⟩,.string ⟨#[98]⟩,.string ⟨#[99]⟩] 9,.cells #[.string ⟨#[]⟩,.string ⟨#[57]⟩,.string ⟨#[]⟩] 9,.cells #[.string ⟨#[]⟩,.string ⟨#[]⟩,.string ⟨#[]⟩] 9,.cells #[.string ⟨#[]⟩,.string ⟨#[]⟩,.string ⟨#[]⟩] 9,.cells #[.string ⟨#[120,32,121]⟩,.string ⟨#[]⟩,.string ⟨#[55]⟩] 9,.cells #[.slice (some ⟨s+1+1,0,none⟩) 3 3,.slice (some ⟨s+1+1+1,0,none⟩) 3 3,.slice (some ⟨s+1+1+1+1,0,none⟩) 3 3,.slice (some ⟨s+1+1+1+1+1,0,none⟩) 3 3] 22,.cells #[.bool false,.bool false,.bool true] 4,.cells #[.bool false,.bool false,.bool false] 4,.cells #[.bool true,.bool true,.bool false] 4,.cells #[.bool false,.bool false,.bool false] 4,.cells #[.slice (some ⟨s+1+1+1+1+1+1+1,0,none⟩) 3 3,.slice (some ⟨s+1+1+1+1+1+1+1+1,0,none⟩) 3 3,.slice (some ⟨s+1+1+1+1+1+1+1+1+1,0,none⟩) 3 3,.slice (some ⟨s+1+1+1+1+1+1+1+1+1+1,0,none⟩) 3 3] 63,.cells #[.bool false,.bool false,.bool false] 4]
structure Ed.Pol (k:Nat) (t:List UInt8) (h:List P.Hst) (dr:Nat->Bool) (se:Nat->List UInt8) (ob x:List UInt8) (rep ed pa:ByteArray):Prop where
 err:xm t=(0,0)
 pack:xG t=qE h
 valid:VHs h
 fits:Fits h
 sent:∀ns:List Nat,(∀n∈ns,n<3)->ns.length<=11->(Ed.y0.fedP h 0 (Ed.inb++Ed.txt 0 ns++[13,10])).sent=[⟨1,[117],ob++(Ed.run dr se ns).1++Ed.end se (Ed.run dr se ns).2.1 3++x++[13,10]⟩]
 tl:t.length<=1000000
 obl:ob.length<=40
 sel:∀n,n<3->(se n).length<=3
 zr:rep.size<=20
 ze:ed.size<=40
 zp:pa.size<=20
 tx:(⟨#[104,111,115,116,34,42,34,123,114,117,108,101,32,49,123,112,97,116,104,34,47,111,108,100,34,59,116,111,34,117,34,49,59]⟩:ByteArray)++rep++ed++⟨#[125,125]⟩=R.str t
 op:(⟨#[71,69,84,32]⟩:ByteArray)++pa++⟨#[32,72,84,84,80,47,49,46,49,13,10,104,111,115,116,58,32,104,13,10]⟩=R.str ob
 xe:x=if k=1 then [110,58,32,13,10] else []
 cr:(#[.string ⟨#[]⟩,.string ⟨#[114,101,112,108,97,99,101,34,47,110,101,119,34,59]⟩,.string ⟨#[]⟩,.string ⟨#[114,101,112,108,97,99,101,34,47,34,59]⟩]:Array Value)[k]?=some (.string rep)
 ce:(#[.string ⟨#[115,101,116,34,66,34,61,34,57,34,59,100,114,111,112,34,99,34,59]⟩,.string ⟨#[115,101,116,34,110,34,61,34,34,59]⟩,.string ⟨#[100,114,111,112,34,65,34,59,100,114,111,112,34,98,34,59]⟩,.string ⟨#[115,101,116,34,97,34,61,34,120,32,121,34,59,115,101,116,34,99,34,61,34,55,34,59]⟩]:Array Value)[k]?=some (.string ed)
 cp:(#[.string ⟨#[47,111,108,100,47,49,63,47,111,108,100]⟩,.string ⟨#[47,110,101,119,47,49,63,47,111,108,100]⟩,.string ⟨#[47,111,108,100,47,49,63,47,111,108,100]⟩,.string ⟨#[47,47,49,63,47,111,108,100]⟩]:Array Value)[k]?=some (.string pa)
 cs:∀s:Nat,(#[.slice (some ⟨s+1+1,0,none⟩) 3 3,.slice (some ⟨s+1+1+1,0,none⟩) 3 3,.slice (some ⟨s+1+1+1+1,0,none⟩) 3 3,.slice (some ⟨s+1+1+1+1+1,0,none⟩) 3 3]:Array Value)[k]?=some (.slice (some ⟨s+(2+k),0,none⟩) 3 3)
 cd:∀s:Nat,(#[.slice (some ⟨s+1+1+1+1+1+1+1,0,none⟩) 3 3,.slice (some ⟨s+1+1+1+1+1+1+1+1,0,none⟩) 3 3,.slice (some ⟨s+1+1+1+1+1+1+1+1+1,0,none⟩) 3 3,.slice (some ⟨s+1+1+1+1+1+1+1+1+1+1,0,none⟩) 3 3]:Array Value)[k]?=some (.slice (some ⟨s+(7+k),0,none⟩) 3 3)
 os:∀s:Nat,(Ed.objs s)[2+k]?=some (.cells (Ed.A3 fun n=>.string (R.str (se n))) 9)
 od:∀s:Nat,(Ed.objs s)[7+k]?=some (.cells (Ed.A3 fun n=>.bool (dr n)) 4)
end Go.Proofs.YtfocdefchbnkpaaGreatDoor
