/- Parts. No condition. -/
import Derived.Test.YtocncmbeinmiaaaGreatJoinU42
import Derived.Test.YtocncmbeinmiaaaGreatJoinU34
set_option linter.unusedVariables false
set_option maxRecDepth 100000
set_option maxHeartbeats 8000000
namespace Go.Proofs.YtocncmbeinmiaaaGreat
open Go Go.RowKit
section
variable {ws:List Nat} {s l r s' l' r':Int} {fx fx':List (Int×Nat)}
end
section
variable {τ:Type}
end
theorem quk{rr v:List Nat}(hl:v.length=rr.length):∀m,m<=rr.length->∀i,(putE rr (qba rr v m))[i]? =if i<m then v[i]? else rr[i]?
 |0,_,i=>by rw[if_neg Zo];rfl
 |m+1,hm,i=>by
  have ih:=quk hl m Zo i;have hv:v[m]? =some (v.getD m 0):=by rw[wax,waj Zo];rfl
  have hr:rr[m]? =some (rr.getD m 0):=by rw[wax,waj Zo];rfl
  rw[qj2];by_cases he:v.getD m 0=rr.getD m 0
  ·rw[if_pos he,wbl,ih]
   by_cases h1:i<m
   ·rw[if_pos h1,if_pos Zo]
   ·by_cases h2:i=m
    ·subst h2
     rw[if_neg h1,if_pos Zo,hv,hr,he]
    ·rw[if_neg h1,if_neg Zo]
  ·rw[if_neg he,qo5]
   show((putE rr (qba rr v m)).set ((m:Nat):Int).toNat (v.getD m 0))[i]? =_
   rw[wam];by_cases h2:m=i
   ·subst h2
    rw[wb3 (by rw[qi0];omega),if_pos Zo,hv]
   ·rw[wbe h2,ih]
    by_cases h1:i<m
    ·rw[if_pos h1,if_pos Zo]
    ·rw[if_neg h1,if_neg Zo]
theorem qabo{rr v:List Nat}(hl:v.length=rr.length):putE rr (qba rr v rr.length)=v:=by
 apply wa3
 intro i;rw[quk hl _ (wab _)];by_cases h:i<rr.length
 ·rw[if_pos h]
 ·rw[if_neg h,wbp Zo,wbp Zo]
theorem q8r(fx:List (Int×Nat))(S:List Nat):putP (qi7 fx) S=putE S fx:=by
 unfold qi7;by_cases h:fx=[]
 ·rw[if_pos h,h];rfl
 ·rw[if_neg h];rfl
section
variable {τ:Type} {pl:List Nat->Option (Int×Int×Int×List (Int×Nat))} {ws rr v:List Nat} {s l r:Int} {n nl:Nat} {who:Int}
theorem qhh(h:StandR rr v):v.length=rr.length:=by
 obtain⟨s,l,r,hs,L,h1,h2,rfl⟩:=h;exact qs7 ..
theorem qny(hh:Hit ws s l r)(hp:repF s l r ws l.toNat=some rr)(hn:n*8=ws.length):∀p∈qcl ws l rr v,∀e∈p,0<=e.1/\e.1<((n*8:Nat):Int):=by
 obtain⟨hf,hrl⟩:=qg3 hh hp;have hb:=qaw hf;intro p hpm e he;rcases wa6.1 hpm with hpm|hpm
 ·exact ql6 hf hn l.toNat rr Zo hp p hpm e he
 ·unfold qi7 at hpm
  split at hpm
  ·cases hpm
  ·obtain rfl:p=_:=by simpa using hpm
   obtain⟨a,ha,rfl⟩:=qia he;simp only
   omega
theorem qpo(hh:Hit ws s l r)(hp:repF s l r ws l.toNat=some rr)(hst:StandR rr v):putP (qcl ws l rr v) ws=v:=by
 obtain⟨hf,hrl⟩:=qg3 hh hp;have hb:=qaw hf;unfold qcl;rw[qf5,qgb hf l.toNat rr Zo hp,q8r,<-hrl,qabo (qhh hst)]
theorem que(hh:Hit ws s l r)(hp:repF s l r ws l.toNat=some rr)(hst:StandR rr v)(hn:n*8=ws.length):(runL n (ofD ws n nl) (qbf (qcl ws l rr v))).S=v/\(runL n (ofD ws n nl) (qbf (qcl ws l rr v))).K=v:=by
 obtain⟨hf,hrl⟩:=qg3 hh hp;have hb:=qaw hf;obtain⟨N,e1,e2⟩:=qj7 (n:=n) Zo (qcl ws l rr v) (ofD ws n nl) (qkg hn.symm) (qny hh hp hn);unfold qbf;rw[e1];exact⟨qpo hh hp hst,qpo hh hp hst⟩
end
section
variable {A:Option Addr} {cap:Nat} {ws:List Nat} {w:World}
theorem qjb{n:Nat}(h1:8<=n)(h2:n<=2000)(h3:n%8=0)(w:World):Calls Tryz.prog 23 #[.slice A n cap] w λe w'=>e= .returned (.bool true)/\w=w':=by
 have z1:(8:Int)<=(n:Int):=Zo
 have z2:(n:Int)<=2000:=Zo
 have z3:(n:Int)%8=0:=Zo
 clear h1 h2 h3;go_enter wgn,wgo;go_wp2_with fail;go_ret;exact⟨rfl,rfl⟩
theorem qw1{n:Nat}(h:¬(8<=n/\n<=2000/\n%8=0))(w:World):Calls Tryz.prog 23 #[.slice A n cap] w λe w'=>e= .returned (.bool false)/\w=w':=by
 by_cases h1:8<=n
 ·have z1:(8:Int)<=(n:Int):=Zo
  by_cases h2:n<=2000
  ·have z2:(n:Int)<=2000:=Zo
   have z3:¬(n:Int)%8=0:=Zo
   have z4:((n:Int)%8==0)=false:=beq_eq_false_iff_ne.2 z3;clear h h1 h2;go_enter wgn,wgo;go_wp2_with fail;go_ret;exact⟨rfl,rfl⟩
  ·have z2:¬(n:Int)<=2000:=Zo
   clear h h1 h2;go_enter wgn,wgo;go_wp2_with fail;go_ret;exact⟨rfl,rfl⟩
 ·have z1:¬(8:Int)<=(n:Int):=Zo
  clear h h1;go_enter wgn,wgo;go_wp2_with fail;go_ret;exact⟨rfl,rfl⟩
theorem qjl{n:Nat}{vs:List Nat}(hl:vs.length=n)(hn:n<=2000)(B C:Option Addr)(d e:Nat)(V:World)(hB:Rd V B n (u64V vs))(hC:Rd V C n (u64V vs)):Calls Tryz.prog 19 #[.slice B n d,.slice C n e] V λe w'=>e= .returned (.bool true)/\Below V.heap.size V w':=by
 subst hl;refine(qzj B C d e vs vs V hB hC Zo Zo).mono λe w' ⟨he,t,ht⟩=>⟨?_,?_⟩
 ·rw[he,decide_eq_true rfl]
 ·rw[<-ht];exact qad (wac _ _) t
end
end Go.Proofs.YtocncmbeinmiaaaGreat
