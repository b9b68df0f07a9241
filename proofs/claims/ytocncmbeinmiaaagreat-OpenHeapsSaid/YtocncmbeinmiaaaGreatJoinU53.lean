/- Parts. No condition. -/
import Derived.Test.YtocncmbeinmiaaaGreatJoinU36
import Derived.Test.YtocncmbeinmiaaaGreatJoinU52
import Derived.Test.YtocncmbeinmiaaaGreatJoinU34
set_option linter.unusedVariables false
set_option maxRecDepth 100000
set_option maxHeartbeats 8000000
namespace Go.Proofs.YtocncmbeinmiaaaGreat
open Go Go.RowKit
def wrL(b:Int)(ws:List Nat):List (Int×Nat):=(List.range ws.length).map λ(i:Nat)=>(b+(i:Int),ws.getD i 0)
theorem WrSt.cells{V:World}{bg bw bs K cW B:Nat}{s l r:Int}{AW:Option Addr}{ws:List Nat}(h:WrSt V bg bw bs s l r AW K cW B ws):V.cell? ⟨bg,0,none⟩=some (.int .i64 s)/\V.cell? ⟨bg,1,none⟩=some (.int .i64 l)/\V.cell? ⟨bg,2,none⟩=some (.int .i64 r)/\V.cell? ⟨bw,0,none⟩=some (.slice AW K cW):=
 ⟨h.geo.cells.1,h.geo.cells.2.1,h.geo.cells.2.2.1,h.box.cell⟩
theorem WrSt.below{V V':World}{bg bw bs K cW B:Nat}{s l r:Int}{AW:Option Addr}{ws:List Nat}(h:WrSt V bg bw bs s l r AW K cW B ws)(hb:Below V.heap.size V V'):WrSt V' bg bw bs s l r AW K cW B ws:=
 ⟨h.geo.below hb h.geo.lt,(hb.block _ h.box.lt).trans h.box,qaf h.row hb,(hb.block _ h.store.lt).trans h.store⟩
theorem WrSt.drew{V:World}{bg bw bs K cW B:Nat}{s l r:Int}{AW:Option Addr}{ws:List Nat}(h:WrSt V bg bw bs s l r AW K cW B ws):WrSt V.drew bg bw bs s l r AW K cW B ws:=⟨h.geo,h.box,h.row,h.store⟩
def PartsR(B:Nat)(s l r t:Int)(ev:Value)(es:List (Int×Nat))(g:Nat)(v1 v2 v4:Value)(V:World):Prop:=
 B<=g/\V.heap[g]? =some (.cells #[v1,v2,ev,v4] 138 (0,0))/\V.ownsRow B 152 2 v1 (logW es).length (eV (wrL (entN s l r t 0) (logW es)))/\V.ownsRow B 152 2 v2 1 (eV [(qbl s l r t,qiz es)])/\V.ownsRow B 152 2 v4 1 (eV [(qbl s l r t,0)])
theorem PartsR.below{B:Nat}{s l r t:Int}{ev:Value}{es:List (Int×Nat)}{g:Nat}{v1 v2 v4:Value}{V V':World}(h:PartsR B s l r t ev es g v1 v2 v4 V)(hb:Below V.heap.size V V'):PartsR B s l r t ev es g v1 v2 v4 V':=
 ⟨h.1,(hb.block g (wal.1 h.2.1).1).trans h.2.1,qaf h.2.2.1 hb,qaf h.2.2.2.1 hb,qaf h.2.2.2.2 hb⟩
section
variable {τ α β:Type} {s s' s2:DM×τ}
end
section
variable {τ:Type} {ws:List Nat} {s l r:Int} {n nl:Nat} {who:Int}
end
def qab9:List (Int×Nat):=[(8,7)]
def RunT(B p:Nat)(df:Value->World->Prop)(v:Value)(V:World):Prop:=∃X tp tg d,v= .pointer (some ⟨X,0,none⟩)/\(B<=X/\B<=tp/\B<=tg)/\RnP V X p tp 0 d (.slice none 0 0) [] false (.slice none 0 0)/\LkR V tp tg 1 [-1]/\df d V
theorem RunT.upd{B p:Nat}{df:Value->World->Prop}{v:Value}{V V':World}(h:RunT B p df v V)(hu:Upd (λ_=>False) V V')(hd:∀d,df d V->df d V'):RunT B p df v V':=by
 obtain⟨X,tp,tg,d,e,h0,h1,h2,h3⟩:=h;exact⟨X,tp,tg,d,e,h0,h1.upd hu (λe=>e) (λ_ _ e=>e),h2.upd hu (λe=>e) (λe=>e),hd d h3⟩
def AlvE(v:Value)(V:World):Prop:=∃g,v= .slice (some ⟨g,0,none⟩) 1 1/\EsRd V (some ⟨g,0,none⟩) 1 qab9/\∃Cs,V.heap[g]? =some (.cells Cs 152 (0,0))
theorem AlvE.upd{v:Value}{V V':World}(h:AlvE v V)(hu:Upd (λ_=>False) V V'):AlvE v V':=by
 obtain⟨g,e,h1,Cs,h2⟩:=h;exact⟨g,e,h1.upd hu (λ_ _ _ e=>e),Cs,(hu.block g (wal.1 h2).1 (λe=>e)).trans h2⟩
section
variable {pl:List Nat->Option (Int×Int×Int×List (Int×Nat))} {w:World} {X p gs gk m n tp tg nl:Nat} {D:DM}
end
theorem RunO.upd{B p N:Nat}{v:Value}{V V':World}(h:RunO B p N v V)(hu:Upd (λ_=>False) V V'):RunO B p N v V':=by
 obtain⟨X,tp,tg,b1,e,h0,h1,h2,h3⟩:=h;exact⟨X,tp,tg,b1,e,h0,h1.upd hu (λe=>e) (λ_ _ e=>e),h2.upd hu (λe=>e) (λe=>e),qal h3 hu (λe=>e)⟩
theorem qoq(w:World)(A:Option Addr)(n c:Nat)(ws:List Nat)(hn:ws.length=n)(hm:n<=maxLen)(hc:n<=c)(hA:(A=none/\n=0/\c=0)\/∃q,A=some q)(hr:Rd w A n (u64V ws))(hw:∀x∈ws,x<18446744073709551616):
  Calls Tryz.prog 8 #[.slice A n c] w λe w'=>e= .returned (.bool true)/\Below w.heap.size w w':=by
 subst hn;by_cases hl:ws.length<=2000
 ·by_cases h:∃s l r hs,Hit ws s l r/\qa3 s l r ws=some hs
  ·obtain⟨s,l,r,hs,hh,hhd⟩:=h
   have hb:=qaw (fitB_iff.2 ⟨hh.1,hh.2.1⟩:fitB s l r ws.length=true);obtain⟨S,rfl⟩:=waz (show 0<=s by omega);obtain⟨L,rfl⟩:=waz (show 0<=l by omega);exact qxm qcw hr hc hl hw hh hhd
  ·exact q5b qcw hr hc hl hw h
 ·exact qz1 qcw hl
end Go.Proofs.YtocncmbeinmiaaaGreat
