/- Parts. No condition. -/
import Derived.Test.YtgjhkafggagniaaGreatJoinV50
set_option linter.unusedVariables false
set_option maxRecDepth 100000
set_option maxHeartbeats 8000000
namespace Go.Proofs.YtgjhkafggagniaaGreat
open Go Go.RowKit
def qhg(B:Nat):Value:= .func (.func 69) #[] #[.pointer (some ⟨B,0,none⟩),.pointer (some ⟨B+1,0,none⟩),.pointer (some ⟨B+2,0,none⟩)]
def dbH(X p gs gk m tp tg:Nat)(df:Value)(base hb:Nat):DB HS where
 X:=X
 p:=p
 gs:=gs
 gk:=gk
 m:=m
 n:=16
 tp:=tp
 tg:=tg
 nl:=2
 who:=0
 df:=df
 Ex:=HpX base hb 1 1 1
 exUpd:=λ_ _ _ _ _ h hu hG=>h.upd hu hG
 exLt:=λ_ _ _ _ h hk=>h.lt hk
 exNot:=λ_ _ _ _ _ _ _ h hk hb=>by
  rcases h.not hk hb with e|e|e|e<;>(rw[e];decide)
structure St19 (p gs gk m hb tp tg base nW nA N0 C:Nat) (s:DM×HS) (G:Nat->Prop) (w:World):Prop where
 ps:PsR w p gs gk m 16 tp tg 2 C s.1
 hx:HpX base hb 1 1 1 s.2 G w
 gn:∀k,G k->¬psF p gs gk m tp tg k
 gl:∀k,G k->k<nA\/N0<=k
 pl:∀k,psF p gs gk m tp tg k->k<nA
 nn:nA<=N0/\N0<=w.heap.size
 tl:qbx s.2
 lo:nW<=nA/\∀k,psF p gs gk m tp tg k\/G k->nW<=k
def Rn19(p hb tp nA N0:Nat)(kind words:Int)(X B:Nat)(w:World):Prop:=
 RnP w X p tp 0 (qhg B) (.slice none 0 0) [] false (.slice none 0 0)/\Gi w B 1 1 1/\Boxed w (B+1) 54 (.pointer (some ⟨hb,0,none⟩))/\
  w.heap[B+2]? =some (.cells #[.int .i64 kind,.int .i64 0,.bool true,.int .i64 0,.int .i64 0,.int .i64 words,.int .i64 0,.int .i64 0,.int .i64 0,.int .u64 0,.slice none 0 0] 43 (0,0))/\(nA<=X/\X<N0)/\nA<=B/\B+2<N0
def An19(p tp N0 X:Nat)(T:List Nat)(w:World):Prop:=
 ∃df lv l an,RnP w X p tp 0 df lv l true an/\(w.ownsRow (X+1) 40 1 an T.length (u64V T)/\(T.length=0->an= .slice none 0 0))/\(∀k,lv.ownBlock=some k->N0<=k)/\(∀k,an.ownBlock=some k->N0<=k)
def tr19(p gs gk m tp tg X:Nat)(G:Nat->Prop)(k:Nat):Prop:=psF p gs gk m tp tg k\/G k\/k=X
section
variable {p gs gk m hb tp tg base nW nA N0 C X B X2 B2:Nat} {s s':DM×HS} {G:Nat->Prop} {w w':World} {kind words kind2 words2:Int} {T:List Nat}
theorem qex(h:St19 p gs gk m hb tp tg base nW nA N0 C s G w){k:Nat}(h1:nA<=k/\k<N0)(h2:k≠X):¬tr19 p gs gk m tp tg X G k:=by
 rintro(e|e|e)
 ·have:=h.pl k e;omega
 ·have:=h.gl k e;omega
 ·exact h2 e
theorem Rn19.upd(h:Rn19 p hb tp nA N0 kind words X2 B2 w)(hs:St19 p gs gk m hb tp tg base nW nA N0 C s G w)(hu:Upd (tr19 p gs gk m tp tg X G) w w')(h1:X2≠X)(h2:X<B2\/B2+2<X):Rn19 p hb tp nA N0 kind words X2 B2 w':=by
 obtain⟨r1,r2,r3,r4,r5,r6,r7⟩:=h;exact⟨r1.upd hu (qex hs r5 h1) (λk hk=>by cases hk),(hu.block B2 r2.lt (qex hs ⟨r6,Zo⟩ Zo)).trans r2,qac r3 hu (qex hs ⟨Zo,Zo⟩ Zo),(hu.block (B2+2) (waj.1 r4).1 (qex hs ⟨Zo,r7⟩ Zo)).trans r4,r5,r6,r7⟩
theorem An19.upd(h:An19 p tp N0 X2 T w)(hX:nA<=X2/\X2<N0)(hX1:X<N0)(hs:St19 p gs gk m hb tp tg base nW nA N0 C s G w)(hu:Upd (tr19 p gs gk m tp tg X G) w w')(h1:X2≠X):An19 p tp N0 X2 T w':=by
 obtain⟨df,lv,l,an,r1,⟨r2,r3⟩,r4,r5⟩:=h;have hno:∀(v:Value) (ty:TypeId) (sz n:Nat) (xs:List Value),w.ownsRow (X2+1) ty sz v n xs->(ty≠139/\ty≠134/\ty≠137/\ty≠3)->(∀k,v.ownBlock=some k->N0<=k)->∀k,v.ownBlock=some k->¬tr19 p gs gk m tp tg X G k:=by
  intro v ty sz n xs hr hty hN k hk e;rcases e with e|e|e
  ·have h1:=hs.pl k e
   have h2:=hN k hk;have h3:=hs.nn;omega
  ·rcases hr.2 with ⟨rfl,-⟩|⟨g,cap,cur,rfl,-,hg,-⟩
   ·cases hk
   ·have hk':g=k:=by injection hk
    rw[hk'] at hg;rcases hs.hx.not e hg with e|e|e|e
    ·exact hty.1 e
    ·exact hty.2.1 e
    ·exact hty.2.2.1 e
    ·exact hty.2.2.2 e
  ·have:=hN k hk;omega
 exact⟨df,lv,l,an,r1.upd hu (qex hs hX h1) (hno lv _ _ _ _ r1.2 Zd r4),⟨qa5 r2 hu (hno an _ _ _ _ r2 Zd r5),r3⟩,r4,r5⟩
theorem qqu(n:Nat):qa0 (-1) n=λ_=>false:=by
 funext k
 unfold qa0;simp
theorem qxm{E:DP HS}(hr:run19 E kind words s=some (T,s'))(ht:qbx s.2):(∃i l,l.length<=90000/\deed19 (A19 kind words) (E19 E) 1 1 (qa0 (-1) 0) 0 [] s= .done T i l s')/\qbx s'.2:=by
 unfold run19 at hr;rw[qqu];obtain⟨h1,h2⟩:=qts (A19 kind words) (E19 E) 1 1 rfl (λ_=>false) 0 [] s ht;cases hd:deed19C (A19 kind words) (E19 E) 1 1 (λ_=>false) 0 [] s with
 |done a i l s1=>
  rw[hd] at hr;simp only at hr;split at hr
  ·rename_i hl
   injection hr with hr;injection hr with e1 e2;subst e1 e2;exact⟨⟨i,l,hl,by rw[h1,hd]⟩,h2 a i l s1 hd⟩
  ·cases hr
 |stop bl l s1=>rw[hd] at hr;cases hr
 |wild=>rw[hd] at hr;cases hr
theorem qlb{E:DP HS}(hs:St19 p gs gk m hb tp tg base nW nA N0 C s G w)(hR:Rn19 p hb tp nA N0 kind words X B w)(hC:C+100000<maxLen)(hr:run19 E kind words s=some (T,s')):
  Calls Tryz.prog 16 #[.pointer (some ⟨X,0,none⟩),.int .i64 (-1)] w λe w'=>e= .returned (.int .i64 0)/\(∃C' G',C'<=C+90001/\St19 p gs gk m hb tp tg base nW nA N0 C' s' G' w')/\An19 p tp N0 X T w'/\Upd (tr19 p gs gk m tp tg X G) w w':=by
 obtain⟨r1,r2,r3,r4,r5,r6,r7⟩:=hR;obtain⟨⟨i,l,hl,hd⟩,htl⟩:=qxm hr hs.tl;have hAt:=DB.At.make (B:=dbH X p gs gk m tp tg (qhg B) base hb) (s:=s) (C:=C) (G:=G) r1 hs.ps hs.hx hs.gn;have hall:=qxf (t:=deed19 (A19 kind words) (E19 E) 1 1) (DF:=69) (λ_ _=>rfl) hAt hC Zs (-1) rfl;have hw:deed19 (A19 kind words) (E19 E) 1 1 (qa0 (-1) ([]:List Nat).length) 0 [] s≠ .wild:=by
  show deed19 (A19 kind words) (E19 E) 1 1 (qa0 (-1) 0) 0 [] s≠ .wild
  rw[hd];exact λe=>by cases e
 refine(hall hw ?_).mono ?_
 ·intro eb a b c fs V F' hu hI hF'
  have hsame:=qnv (A19 kind words) V.heap.size eb hb (E19 E) ((dbH X p gs gk m tp tg (qhg B) base hb).env eb a b c fs (-1) 0 C) 1 1 rfl rfl rfl;have hwd:=hw;rw[<-hsame] at hwd;have:=qud (A:=(A19 kind words).to V.heap.size eb hb) (E:=(dbH X p gs gk m tp tg (qhg B) base hb).env eb a b c fs (-1) 0 C) (base:=base) (n:=1) (L:=1) hI rfl rfl ⟨rfl,rfl,rfl,rfl⟩ ((hu.block B r2.lt (λe=>e)).trans r2) (qac r3 hu (λe=>e)) (eX:=none) (en:=0) (ec:=0) rfl ((hu.block (B+2) (waj.1 r4).1 (λe=>e)).trans r4) ⟨(by show(-9223372036854775808:Int)<=0;decide),(by show(0:Int)<=9223372036854775807;decide)⟩ hwd
  rw[hsame] at this;exact this
 ·rintro e w' ⟨hu,ho⟩
  change DB.AllO _ _ _ _ _ _ (deed19 (A19 kind words) (E19 E) 1 1 (qa0 (-1) 0) 0 [] s) at ho;rw[hd] at ho;obtain⟨he,F',⟨lv,G',an,k1,⟨k2,k3⟩,⟨k4,k5,k6⟩,k7,k8⟩,hG⟩:=ho;have hnew:∀k,F' k->psF p gs gk m tp tg k\/(G k\/w.heap.size<=k)\/k=X:=λk hk=>by
   rcases hG k hk with (e|e|e)|e
   ·exact .inl e
   ·exact .inr (.inl (.inl e))
   ·exact .inr (.inr e)
   ·exact .inr (.inl (.inr e))
  have hrow:∀k,F' k->X+1<=k->N0<=k:=λk hk hX=>by
   have hn:=hs.nn;rcases hnew k hk with e|(e|e)|e
   ·have:=hs.pl k e;omega
   ·have:=hs.gl k e;omega
   ·omega
   ·omega
  refine⟨he,⟨C+l.length+1,G',Zo,k2,k3,k6,λk hk=>?_,hs.pl,⟨hs.nn.1,wam hs.nn.2 hu.size⟩,htl,hs.lo.1,λk hk=>?_⟩,⟨_,lv,l,an,k1,k7 rfl,λk hk=>hrow k (k4 k (.inr (.inr (.inr (.inl hk))))) (k1.2.lt k hk).1,λk hk=>hrow k (k4 k (.inr (.inr (.inr (.inr hk))))) ((k7 rfl).1.lt k hk).1⟩,hu⟩
  ·have hn:=hs.nn
   rcases hnew k (k4 k (.inr (.inl hk))) with e|(e|e)|e
   ·exact absurd e (k6 k hk)
   ·exact hs.gl k e
   ·exact .inr Zo
   ·subst e
    exact absurd rfl ((dbH k p gs gk m tp tg (qhg B) base hb).exNot s'.2 G' w' k _ _ _ k3 hk k1.1).2.1
  ·have hn:=hs.nn
   have hlo:=hs.lo;rcases hk with hk|hk
   ·exact hlo.2 k (.inl hk)
   ·rcases hnew k (k4 k (.inr (.inl hk))) with e|(e|e)|e
    ·exact hlo.2 k (.inl e)
    ·exact hlo.2 k (.inr e)
    ·omega
    ·omega
theorem St19.low(h:St19 p gs gk m hb tp tg base nW nA N0 C s G w)(hX:nA<=X):∀k,tr19 p gs gk m tp tg X G k->nW<=k:=by
 have hlo:=h.lo;rintro k (e|e|e)
 ·exact hlo.2 k (.inl e)
 ·exact hlo.2 k (.inr e)
 ·omega
theorem An19.new(h:An19 p tp N0 X T w)(hu:Upd (λ_=>False) w w'):An19 p tp N0 X T w':=by
 obtain⟨df,lv,l,an,r1,⟨r2,r3⟩,r4,r5⟩:=h;exact⟨df,lv,l,an,r1.upd hu (λe=>e) (λ_ _ e=>e),⟨qa5 r2 hu (λ_ _ e=>e),r3⟩,r4,r5⟩
theorem qfz(h:An19 p tp N0 X T w)(hT:T.length<=2000):Calls Tryz.prog 20 #[.pointer (some ⟨X,0,none⟩)] w λe w'=>∃v,e= .returned v/\AnsV w w' v T:=by
 obtain⟨df,lv,l,an,hR,k7,-,-⟩:=h;obtain⟨-,-,-,-,-,-,x6,-⟩:=hR.cells;have hcl:Calls Tryz.prog 43 #[an] w λe w'=>∃v',e= .returned v'/\AnsV w w' v' T:=by
  unfold AnsV;exact qii k7.1 k7.2 hT
 obtain⟨Y,c,rfl,-⟩:=Rd.of_own k7.1;replace hcl:=waa hcl;clear hR k7;generalize T.length=NV at hcl x6 ⊢;go_enter Tryz.func20,Tryz.ntmps20;go_wp2_with fail;refine hcl.out.mono ?_;rintro e w' ⟨v,rfl,h1⟩;obtain⟨AV,cV,rfl,-⟩:=Rd.of_own h1.1;generalize T.length=NV2 at h1 ⊢;replace h1:=waa h1;clear hcl;go_wp2_with fail;go_ret;exact⟨_,rfl,h1.out⟩
end
theorem q0j{s l r:Int}(hm:mayB s l r=true):∀x∈qbn s l r,x<18446744073709551616:=by
 intro x hx;rcases wbu.1 hx with h|h
 ·exact q15 hm x h
 ·rw[(wfb.1 h).2];decide
theorem qy7(E:DP HS):∃s1 s2 s3 s4,run19 E 1 3 (ofD (qbn 1 1 1) 16 2,frH 1,λ_=>[])=some ([0,76,0],s1)/\run19 E 1 3 s1=some ([5,0,0],s2)/\run19 E 2 0 s2=some ([0,76,0],s3)/\run19 E 2 0 s3=some ([6,0,0],s4):=by
 have h:=qzj E;unfold four19 at h;split at h
 ·rename_i a s1 h1
  split at h
  ·rename_i b s2 h2
   split at h
   ·rename_i c s3 h3
    split at h
    ·rename_i d s4 h4
     injection h with h;injection h with e1 h;injection h with e2 h;injection h with e3 h;injection h with e4 h;subst e1 e2 e3 e4;exact⟨s1,s2,s3,s4,h1,h2,h3,h4⟩
    ·cases h
   ·cases h
  ·cases h
 ·cases h
def E00:DP HS:=(dbH 0 0 0 0 0 0 0 .nilFunc 0 0).env 0 0 0 0 .nilFunc 0 0 0
theorem qyx:anX (qfw [0,76,0])= .agg #[.int .i64 0,.int .i64 76,.int .u64 0]:=by kernel_rfl
theorem q2n:anX (qfw [5,0,0])= .agg #[.int .i64 5,.int .i64 0,.int .u64 0]:=by kernel_rfl
theorem q2q:anX (qfw [6,0,0])= .agg #[.int .i64 6,.int .i64 0,.int .u64 0]:=by kernel_rfl
theorem qmg(c:Int)(V:World):(Instr.field 60 (.agg #[.int .i64 c,.int .i64 0,.int .u64 0]) 0).run Tryz.prog V= .ok (.int .i64 c) V:=by kernel_rfl
theorem qfv{w:World}{A:Option Addr}{cap:Nat}{T:List Nat}{v:Value}(hr:Rd w A 3 (u64V T))(hv:anX (qfw T)=v):Calls Tryz.prog 19 #[.slice A 3 cap] w λe w'=>e= .returned v/\Below w.heap.size w w':=by
 rw[<-hv];exact qf3 A 3 cap T w hr
theorem qhq(w:World):Calls Tryz.prog 11 #[] w λe w'=>e= .returned (.bool true)/\Below w.heap.size w w':=by
 have hlen:(qbn 1 1 1).length=16*8:=by
  have h1:=qky (s:=1) (l:=1) (r:=1) Zd;have h2:=qfq (s:=1) (l:=1) (r:=1) Zd;omega
 have hlt:∀x∈qbn 1 1 1,x<18446744073709551616:=q0j Zd;have hB0:=(wai w.heap.size w).alloc (wah _) (.cells #[.int .i64 1,.int .i64 1,.int .i64 1] 36);have hnw:=waa (qyi (s:=1) (L:=1) (r:=1) (n:=16) (w.alloc (.cells #[.int .i64 1,.int .i64 1,.int .i64 1] 36)) Zd Zo hlen Zo hlt);obtain⟨s1,s2,s3,s4,q1,q2,q3,q4⟩:=qy7 E00;replace q1:=waa q1;replace q2:=waa q2;replace q3:=waa q3;replace q4:=waa q4;replace hlt:=waa hlt;replace hB0:=waa hB0;have hf5:=qmg 5;have hf6:=qmg 6;clear hlen;go_enter Tryz.func11,Tryz.ntmps11;go_wp2_with fail;refine hnw.out.mono ?_;rintro e w1 ⟨wb,rfl,⟨p,gs,gk,m,hb,tp,tg,G,b0,base,b1,b2,hWd,hq,hx,hl,k1,k2,k3,k4,k5,k6⟩,hB1⟩;obtain⟨W2,hW2⟩:∃W2,W2=(w1.alloc (.cells #[.int .i64 1,.int .i64 0,.bool true,.int .i64 0,.int .i64 0,.int .i64 3,.int .i64 0,.int .i64 0,.int .i64 0,.int .u64 0,.slice none 0 0] 43)).alloc (.cells #[.int .i64 2,.int .i64 0,.bool true,.int .i64 0,.int .i64 0,.int .i64 0,.int .i64 0,.int .i64 0,.int .i64 0,.int .u64 0,.slice none 0 0] 43):=⟨_,rfl⟩
 have hU12:Upd (λ_=>False) w1 W2:=by rw[hW2];exact((Upd.refl _ w1).alloc _).alloc _
 have hm1:W2.heap[w1.heap.size]? =some (.cells #[.int .i64 1,.int .i64 0,.bool true,.int .i64 0,.int .i64 0,.int .i64 3,.int .i64 0,.int .i64 0,.int .i64 0,.int .u64 0,.slice none 0 0] 43 (0,0)):=by rw[hW2];exact qag (qad rfl _ _) _
 have hf1:W2.heap[w1.heap.size+1]? =some (.cells #[.int .i64 2,.int .i64 0,.bool true,.int .i64 0,.int .i64 0,.int .i64 0,.int .i64 0,.int .i64 0,.int .i64 0,.int .u64 0,.slice none 0 0] 43 (0,0)):=by rw[hW2];exact qad Zs _ _
 have y1:w1.cell? ⟨wb,3,none⟩=some (.pointer (some ⟨p,0,none⟩)):=qab hWd 3;have y2:w1.cell? ⟨wb,4,none⟩=some (.pointer (some ⟨hb,0,none⟩)):=qab hWd 4;have y3:w1.cell? ⟨wb,5,none⟩=some (.pointer (some ⟨tp,0,none⟩)):=qab hWd 5;have hs2:W2.heap.size=w1.heap.size+2:=by rw[hW2];simp
 have hWd2:=hU12.block2 hWd (λe=>e);have hPs:PsR W2 p gs gk m 16 tp tg 2 0 (ofD (qbn 1 1 1) 16 2):=(q2i hq hl hlt.out).upd hU12 (λ_ _ e=>e);have hHx:=hx.upd hU12 (λ_ _ e=>e);have hpl:∀k,psF p gs gk m tp tg k->k<W2.heap.size/\w.heap.size<=k:=λk hk=>⟨hPs.lts hk,by
  have:=hB0.out.size
  rcases hk with e|rfl|rfl
  ·have:=k1 k e;omega
  ·omega
  ·omega⟩
 have hgl:∀k,G k->k<W2.heap.size/\w.heap.size<=k/\¬psF p gs gk m tp tg k:=λk hk=>⟨hHx.lt hk,by
  have:=hB0.out.size
  have:=k2 k hk
  omega,by
  have:=k2 k hk
  rintro(e|rfl|rfl)
  ·have:=k1 k e;omega
  ·omega
  ·omega⟩
 have hLw:=waa ((hB0.out.trans (hB1.mono hB0.out.size)).trans (hU12.below (λk e=>e.elim) (hB0.out.trans (hB1.mono hB0.out.size)).size));obtain⟨zm,hzm⟩:∃zm,zm=w1.heap.size:=⟨_,rfl⟩
 rw[<-hzm] at hm1 hf1 hs2;have hS:=waa (λ(U:World) (hU:Upd (λ_=>False) W2 U)=>show U.cell? ⟨zm,0,none⟩=some (.int .i64 1)/\U.cell? ⟨zm,1,none⟩=some (.int .i64 0)/\U.cell? ⟨zm,2,none⟩=some (.bool true)/\U.cell? ⟨zm,3,none⟩=some (.int .i64 0)/\U.cell? ⟨zm,4,none⟩=some (.int .i64 0)/\U.cell? ⟨zm,5,none⟩=some (.int .i64 3)/\U.cell? ⟨zm,6,none⟩=some (.int .i64 0)/\U.cell? ⟨zm,7,none⟩=some (.int .i64 0)/\U.cell? ⟨zm,8,none⟩=some (.int .i64 0)/\U.cell? ⟨zm,9,none⟩=some (.int .u64 0)/\U.cell? ⟨zm,10,none⟩=some (.slice none 0 0)/\U.cell? ⟨zm+1,0,none⟩=some (.int .i64 2)/\U.cell? ⟨zm+1,1,none⟩=some (.int .i64 0)/\U.cell? ⟨zm+1,2,none⟩=some (.bool true)/\U.cell? ⟨zm+1,3,none⟩=some (.int .i64 0)/\U.cell? ⟨zm+1,4,none⟩=some (.int .i64 0)/\U.cell? ⟨zm+1,5,none⟩=some (.int .i64 0)/\U.cell? ⟨zm+1,6,none⟩=some (.int .i64 0)/\U.cell? ⟨zm+1,7,none⟩=some (.int .i64 0)/\U.cell? ⟨zm+1,8,none⟩=some (.int .i64 0)/\U.cell? ⟨zm+1,9,none⟩=some (.int .u64 0)/\U.cell? ⟨zm+1,10,none⟩=some (.slice none 0 0) from⟨qab (hU.block2 hm1 (λe=>e)) 0,qab (hU.block2 hm1 (λe=>e)) 1,qab (hU.block2 hm1 (λe=>e)) 2,qab (hU.block2 hm1 (λe=>e)) 3,qab (hU.block2 hm1 (λe=>e)) 4,qab (hU.block2 hm1 (λe=>e)) 5,qab (hU.block2 hm1 (λe=>e)) 6,qab (hU.block2 hm1 (λe=>e)) 7,qab (hU.block2 hm1 (λe=>e)) 8,qab (hU.block2 hm1 (λe=>e)) 9,qab (hU.block2 hm1 (λe=>e)) 10,qab (hU.block2 hf1 (λe=>e)) 0,qab (hU.block2 hf1 (λe=>e)) 1,qab (hU.block2 hf1 (λe=>e)) 2,qab (hU.block2 hf1 (λe=>e)) 3,qab (hU.block2 hf1 (λe=>e)) 4,qab (hU.block2 hf1 (λe=>e)) 5,qab (hU.block2 hf1 (λe=>e)) 6,qab (hU.block2 hf1 (λe=>e)) 7,qab (hU.block2 hf1 (λe=>e)) 8,qab (hU.block2 hf1 (λe=>e)) 9,qab (hU.block2 hf1 (λe=>e)) 10⟩);have hWd:=waa hWd2;replace hW2:=waa hW2;replace hPs:=waa hPs;replace hHx:=waa hHx;replace hpl:=waa hpl;replace hgl:=waa hgl;replace hzm:=waa hzm;replace hs2:=waa hs2;clear hnw hq hx hl k1 k2 k3 k4 k5 k6 hB1 hU12 hm1 hf1 hWd2 hB0;go_wp2_with fail;rw[<-hW2.out,<-hzm.out];refine wp_region_held_drew (S:=(λU=>U.cell? ⟨zm,0,none⟩=some (.int .i64 1)/\U.cell? ⟨zm,1,none⟩=some (.int .i64 0)/\U.cell? ⟨zm,2,none⟩=some (.bool true)/\U.cell? ⟨zm,3,none⟩=some (.int .i64 0)/\U.cell? ⟨zm,4,none⟩=some (.int .i64 0)/\U.cell? ⟨zm,5,none⟩=some (.int .i64 3)/\U.cell? ⟨zm,6,none⟩=some (.int .i64 0)/\U.cell? ⟨zm,7,none⟩=some (.int .i64 0)/\U.cell? ⟨zm,8,none⟩=some (.int .i64 0)/\U.cell? ⟨zm,9,none⟩=some (.int .u64 0)/\U.cell? ⟨zm,10,none⟩=some (.slice none 0 0)/\U.cell? ⟨zm+1,0,none⟩=some (.int .i64 2)/\U.cell? ⟨zm+1,1,none⟩=some (.int .i64 0)/\U.cell? ⟨zm+1,2,none⟩=some (.bool true)/\U.cell? ⟨zm+1,3,none⟩=some (.int .i64 0)/\U.cell? ⟨zm+1,4,none⟩=some (.int .i64 0)/\U.cell? ⟨zm+1,5,none⟩=some (.int .i64 0)/\U.cell? ⟨zm+1,6,none⟩=some (.int .i64 0)/\U.cell? ⟨zm+1,7,none⟩=some (.int .i64 0)/\U.cell? ⟨zm+1,8,none⟩=some (.int .i64 0)/\U.cell? ⟨zm+1,9,none⟩=some (.int .u64 0)/\U.cell? ⟨zm+1,10,none⟩=some (.slice none 0 0))) Zk (hS.out _ (Upd.refl (λ_=>False) W2).drew) (λhHeld=>?_);refine wpAnyH_take (i:=0) (v:=?_) rfl Zk Zk Zk (λ_ _ _ h=>h) (Or.inl ⟨by rfl,?_⟩) Za ?_;rotate_left;(·intro u h;(try dsimp only at h);(try simp only[wab,wac]);go_simp;try with_reducible rfl);try simp only[Act.put,waf,wae,wag,wab,wac]
 refine wpAnyH_take (i:=1) (v:=?_) rfl Zk Zk Zk (λ_ _ _ h=>h) (Or.inl ⟨by rfl,?_⟩) Za ?_;rotate_left;(·intro u h;(try dsimp only at h);(try simp only[wab,wac,wad]);go_simp;try with_reducible rfl);try simp only[Act.put,waf,wae,wag,wab,wac,wad]
 refine wpAnyH_take (i:=3) (v:=?_) rfl Zk Zk Zk (λ_ _ _ h=>h) (Or.inl ⟨by rfl,?_⟩) Za ?_;rotate_left;(·intro u h;(try dsimp only at h);(try simp only[wab,wac,wad]);go_simp;try with_reducible rfl);try simp only[Act.put,waf,wae,wag,wab,wac,wad]
 refine wpAnyH_take (i:=4) (v:=?_) rfl Zk Zk Zk (λ_ _ _ h=>h) (Or.inl ⟨by rfl,?_⟩) Za ?_;rotate_left;(·intro u h;(try dsimp only at h);(try simp only[wab,wac,wad]);go_simp;try with_reducible rfl);try simp only[Act.put,waf,wae,wag,wab,wac,wad]
 refine wpAnyH_take (i:=6) (v:=?_) rfl Zk Zk Zk (λ_ _ _ h=>h) (Or.inl ⟨by rfl,?_⟩) Za ?_;rotate_left;(·intro u h;(try dsimp only at h);(try simp only[wab,wac,wad]);go_simp;try with_reducible rfl);try simp only[Act.put,waf,wae,wag,wab,wac,wad]
 refine wpAnyH_take (i:=7) (v:=?_) rfl Zk Zk Zk (λ_ _ _ h=>h) (Or.inl ⟨by rfl,?_⟩) Za ?_;rotate_left;(·intro u h;(try dsimp only at h);(try simp only[wab,wac,wad]);go_simp;try with_reducible rfl);try simp only[Act.put,waf,wae,wag,wab,wac,wad]
 refine wpAnyH_take (i:=9) (v:=?_) rfl Zk Zk Zk (λ_ _ _ h=>h) (Or.inl ⟨by rfl,?_⟩) Za ?_;rotate_left;(·intro u h;(try dsimp only at h);(try simp only[wab,wac,wad]);go_simp;try with_reducible rfl);try simp only[Act.put,waf,wae,wag,wab,wac,wad]
 refine wpAnyH_take (i:=10) (v:=?_) rfl Zk Zk Zk (λ_ _ _ h=>h) (Or.inl ⟨by rfl,?_⟩) Za ?_;rotate_left;(·intro u h;(try dsimp only at h);(try simp only[wab,wac,wad]);go_simp;try with_reducible rfl);try simp only[Act.put,waf,wae,wag,wab,wac,wad]
 refine wpAnyH_ready (rs:=[2]) Zk Zs ?_;refine AllReadyH.cons rfl (λK hK=>?_) AllReadyH.nil
 (try simp only[wab,wac,wad])
 go_simp
 refine(qf4 wb 1 1 1 p hb tp 1 0 0 0 3 0 0 0 true 0 W2.drew (((Upd.refl (λ_=>False) W2).drew).block2 hWd.out (λe=>e))).mono ?_;rintro e v1 ⟨X1,B1,rfl,hX1,hB1,r1,g1,h1,c1,u1⟩;have hU1:Upd (λ_=>False) W2 v1:=((Upd.refl (λ_=>False) W2).drew).trans u1;go_wp2_with fail;refine hK.out _ _ (hS.out _ hU1) (λhHeld2=>?_);clear hK K hHeld;have hHeld:=hHeld2;clear hHeld2;try simp only[Act.put,waf,wae,wag,wab,wac,wad]
 refine wpAnyH_ready (rs:=[5]) Zk Zs ?_;refine AllReadyH.cons rfl (λK hK=>?_) AllReadyH.nil
 (try simp only[wab,wac,wad])
 go_simp
 refine(qf4 wb 1 1 1 p hb tp 1 0 0 0 3 0 0 0 true 0 v1 ((hU1).block2 hWd.out (λe=>e))).mono ?_;rintro e v2 ⟨X2,B2,rfl,hX2,hB2,r2,g2,h2,c2,u2⟩;have hU2:Upd (λ_=>False) W2 v2:=(hU1).trans u2;go_wp2_with fail;refine hK.out _ _ (hS.out _ hU2) (λhHeld2=>?_);clear hK K hHeld;have hHeld:=hHeld2;clear hHeld2;try simp only[Act.put,waf,wae,wag,wab,wac,wad]
 refine wpAnyH_ready (rs:=[8]) Zk Zs ?_;refine AllReadyH.cons rfl (λK hK=>?_) AllReadyH.nil
 (try simp only[wab,wac,wad])
 go_simp
 refine(qf4 wb 1 1 1 p hb tp 2 0 0 0 0 0 0 0 true 0 v2 ((hU2).block2 hWd.out (λe=>e))).mono ?_;rintro e v3 ⟨X3,B3,rfl,hX3,hB3,r3,g3,h3,c3,u3⟩;have hU3:Upd (λ_=>False) W2 v3:=(hU2).trans u3;go_wp2_with fail;refine hK.out _ _ (hS.out _ hU3) (λhHeld2=>?_);clear hK K hHeld;have hHeld:=hHeld2;clear hHeld2;try simp only[Act.put,waf,wae,wag,wab,wac,wad]
 refine wpAnyH_ready (rs:=[11]) Zk Zs ?_;refine AllReadyH.cons rfl (λK hK=>?_) AllReadyH.nil
 (try simp only[wab,wac,wad])
 go_simp
 refine(qf4 wb 1 1 1 p hb tp 2 0 0 0 0 0 0 0 true 0 v3 ((hU3).block2 hWd.out (λe=>e))).mono ?_;rintro e v4 ⟨X4,B4,rfl,hX4,hB4,r4,g4,h4,c4,u4⟩;have hU4:Upd (λ_=>False) W2 v4:=(hU3).trans u4;go_wp2_with fail;refine hK.out _ _ (hS.out _ hU4) (λhHeld2=>?_);clear hK K hHeld;have hHeld:=hHeld2;clear hHeld2;try simp only[Act.put,waf,wae,wag,wab,wac,wad]
 refine wpAnyH_take (i:=12) (v:=?_) rfl Zk Zk Zk (λ_ _ _ h=>h) (Or.inl ⟨by rfl,?_⟩) Za ?_;rotate_left;(·intro u h;(try dsimp only at h);(try simp only[wab,wac,wad]);go_simp;try with_reducible rfl);try simp only[Act.put,waf,wae,wag,wab,wac,wad]
 refine wpAnyH_take (i:=13) (v:=?_) rfl Zk Zk Zk (λ_ _ _ h=>h) (Or.inl ⟨by rfl,?_⟩) Za ?_;rotate_left;(·intro u h;(try dsimp only at h);(try simp only[wab,wac,wad]);go_simp;try with_reducible rfl);try simp only[Act.put,waf,wae,wag,wab,wac,wad]
 refine wpAnyH_take (i:=14) (v:=?_) rfl Zk Zk Zk (λ_ _ _ h=>h) (Or.inl ⟨by rfl,?_⟩) Za ?_;rotate_left;(·intro u h;(try dsimp only at h);(try simp only[wab,wac,wad]);go_simp;try with_reducible rfl);try simp only[Act.put,waf,wae,wag,wab,wac,wad]
 refine wpAnyH_take (i:=15) (v:=?_) rfl Zk Zk Zk (λ_ _ _ h=>h) (Or.inl ⟨by rfl,?_⟩) Za ?_;rotate_left;(·intro u h;(try dsimp only at h);(try simp only[wab,wac,wad]);go_simp;try with_reducible rfl);try simp only[Act.put,waf,wae,wag,wab,wac,wad]
 refine wpAnyH_done Zk ?_ _;have n1:X1<v1.heap.size/\B1+2<v1.heap.size:=⟨r1.lt,(waj.1 c1).1⟩
 have n2:X2<v2.heap.size/\B2+2<v2.heap.size:=⟨r2.lt,(waj.1 c2).1⟩
 have n3:X3<v3.heap.size/\B3+2<v3.heap.size:=⟨r3.lt,(waj.1 c3).1⟩
 have n4:X4<v4.heap.size/\B4+2<v4.heap.size:=⟨r4.lt,(waj.1 c4).1⟩
 have o1:W2.heap.size<=X1/\W2.heap.size<=B1:=⟨hX1,hB1⟩
 have z2:=u2.size;have z3:=u3.size;have z4:=u4.size;have zz:=hU4.size;have zw:=hLw.out.size;have hnF:∀k:Nat,(λ_:Nat=>False) k->w.heap.size<=k:=λk e=>e.elim
 have hlow:=hLw.out.trans (hU4.below (B:=w.heap.size) hnF zw);have hSt:St19 p gs gk m hb tp tg base w.heap.size W2.heap.size v4.heap.size 0 (ofD (qbn 1 1 1) 16 2,frH 1,λ_=>[]) G v4:=
  ⟨hPs.out.upd hU4 (λ_ _ e=>e),hHx.out.upd hU4 (λ_ _ e=>e),λk hk=>(hgl.out k hk).2.2,λk hk=> .inl (hgl.out k hk).1,λk hk=>(hpl.out k hk).1,⟨zz,wah _⟩,λj _=>rfl,zw,λk hk=>hk.elim (λe=>(hpl.out k e).2) (λe=>(hgl.out k e).2.1)⟩
 have mk:∀(kind words:Int) (X B:Nat) (V:World),RnP V X p tp 0 (qhg B) (.slice none 0 0) [] false (.slice none 0 0)->Gi V B 1 1 1->Boxed V (B+1) 54 (.pointer (some ⟨hb,0,none⟩))->V.heap[B+2]? =some (.cells #[.int .i64 kind,.int .i64 0,.bool true,.int .i64 0,.int .i64 0,.int .i64 words,.int .i64 0,.int .i64 0,.int .i64 0,.int .u64 0,.slice none 0 0] 43 (0,0))->Upd (λ_=>False) V v4->W2.heap.size<=X->W2.heap.size<=B->Rn19 p hb tp W2.heap.size v4.heap.size kind words X B v4:=λkind words X B V a1 a2 a3 a4 hu a5 a6=>
  have d4:=hu.block2 a4 (λe=>e)
  ⟨a1.upd hu (λe=>e) (λ_ _ e=>e),hu.block2 a2 (λe=>e),qac a3 hu (λe=>e),d4,⟨a5,wak a1.lt hu.size⟩,a6,(waj.1 d4).1⟩
 have R1:=waa (mk 1 3 X1 B1 v1 r1 g1 h1 c1 (u2.trans (u3.trans u4)) o1.1 o1.2);have R2:=waa (mk 1 3 X2 B2 v2 r2 g2 h2 c2 (u3.trans u4) Zo Zo);have R3:=waa (mk 2 0 X3 B3 v3 r3 g3 h3 c3 u4 Zo Zo);have R4:=waa (mk 2 0 X4 B4 v4 r4 g4 h4 c4 (Upd.refl _ _) Zo Zo);have hNN:(W2.heap.size<=X1/\X1<v4.heap.size)/\(W2.heap.size<=X2/\X2<v4.heap.size)/\(W2.heap.size<=X3/\X3<v4.heap.size)/\(W2.heap.size<=X4/\X4<v4.heap.size):=Zo
 have hXX:X2≠X1/\X3≠X1/\X4≠X1/\X3≠X2/\X4≠X2/\X4≠X3/\X1<B2/\X1<B3/\X1<B4/\X2<B3/\X2<B4/\X3<B4:=Zo
 clear mk r1 g1 h1 c1 r2 g2 h2 c2 r3 g3 h3 c3 r4 g4 h4 c4 u1 u2 u3 u4 hU1 hU2 hU3 n1 n2 n3 n4 o1 hX1 hB1 hX2 hB2 hX3 hB3 hX4 hB4 z2 z3 z4 zz hPs hHx hgl hpl hS hWd hHeld hW2 hzm hs2 y1 y2 y3;replace hSt:=waa hSt;replace hlow:=waa hlow;replace hNN:=waa hNN;replace hXX:=waa hXX;replace zw:=waa zw;clear hU4 hnF;generalize W2.heap.size=nA at hSt R1 R2 R3 R4 hNN zw ⊢;have ha:=waa (qlb (X:=X1) hSt.out R1.out (by simp only[maxLen];omega) q1.out);go_wp2_with fail;refine ha.out.mono ?_;rintro e x1 ⟨rfl,⟨C1,G1,hC1,hS1⟩,A1,hu1⟩;have hl1:=waa (hlow.out.trans (hu1.below (B:=w.heap.size) (hSt.out.low hNN.out.1.1) hlow.out.size));have P2:=waa (R2.out.upd hSt.out hu1 hXX.out.1 (.inl (by have:=hXX.out;omega)));have P3:=waa (R3.out.upd hSt.out hu1 hXX.out.2.1 (.inl (by have:=hXX.out;omega)));have P4:=waa (R4.out.upd hSt.out hu1 hXX.out.2.2.1 (.inl (by have:=hXX.out;omega)));replace A1:=waa A1;replace hS1:=waa hS1;clear ha hSt R1 R2 R3 R4 hu1 hlow q1;have ha:=waa (qlb (X:=X2) hS1.out P2.out (by simp only[maxLen];omega) q2.out);go_wp2_with fail;refine ha.out.mono ?_;rintro e x2 ⟨rfl,⟨C2,G2,hC2,hS2⟩,A2,hu2⟩;have hl2:=waa (hl1.out.trans (hu2.below (B:=w.heap.size) (hS1.out.low hNN.out.2.1.1) hl1.out.size));have A12:=waa (A1.out.upd hNN.out.1 hNN.out.2.1.2 hS1.out hu2 hXX.out.1.symm);have Q3:=waa (P3.out.upd hS1.out hu2 hXX.out.2.2.2.1 (.inl (by have:=hXX.out;omega)));have Q4:=waa (P4.out.upd hS1.out hu2 hXX.out.2.2.2.2.1 (.inl (by have:=hXX.out;omega)));replace A2:=waa A2;replace hS2:=waa hS2;clear ha hS1 P2 P3 P4 hu2 hl1 A1 q2;have ha:=waa (qlb (X:=X3) hS2.out Q3.out (by simp only[maxLen];omega) q3.out);go_wp2_with fail;refine ha.out.mono ?_;rintro e x3 ⟨rfl,⟨C3,G3,hC3,hS3⟩,A3,hu3⟩;have hl3:=waa (hl2.out.trans (hu3.below (B:=w.heap.size) (hS2.out.low hNN.out.2.2.1.1) hl2.out.size));have A13:=waa (A12.out.upd hNN.out.1 hNN.out.2.2.1.2 hS2.out hu3 hXX.out.2.1.symm);have A23:=waa (A2.out.upd hNN.out.2.1 hNN.out.2.2.1.2 hS2.out hu3 hXX.out.2.2.2.1.symm);have T4:=waa (Q4.out.upd hS2.out hu3 hXX.out.2.2.2.2.2.1 (.inl (by have:=hXX.out;omega)));replace A3:=waa A3;replace hS3:=waa hS3;clear ha hS2 Q3 Q4 hu3 hl2 A12 A2 q3;have ha:=waa (qlb (X:=X4) hS3.out T4.out (by simp only[maxLen];omega) q4.out);go_wp2_with fail;refine ha.out.mono ?_;rintro e x4 ⟨rfl,⟨C4,G4,hC4,hS4⟩,A4,hu4⟩;have hl4:=waa (hl3.out.trans (hu4.below (B:=w.heap.size) (hS3.out.low hNN.out.2.2.2.1) hl3.out.size));have A14:=waa (A13.out.upd hNN.out.1 hNN.out.2.2.2.2 hS3.out hu4 hXX.out.2.2.1.symm);have A24:=waa (A23.out.upd hNN.out.2.1 hNN.out.2.2.2.2 hS3.out hu4 hXX.out.2.2.2.2.1.symm);have A34:=waa (A3.out.upd hNN.out.2.2.1 hNN.out.2.2.2.2 hS3.out hu4 hXX.out.2.2.2.2.2.1.symm);replace A4:=waa A4;clear ha hS3 hS4 T4 hu4 hl3 A13 A23 A3 q4;have hb:=waa (qfz A14.out Zs);go_wp2_with fail;refine hb.out.mono ?_;rintro e y1 ⟨v,rfl,hrow,-,hBa⟩;obtain⟨VA,vc,rfl,hRd⟩:=Rd.of_own hrow;have hbb:=waa (qfv (cap:=vc) hRd qyx);have hla:=waa (hl4.out.trans (hBa.mono hl4.out.size));have E2:=waa (A24.out.new (Upd.of_below hBa (wah _)));have E3:=waa (A34.out.new (Upd.of_below hBa (wah _)));have E4:=waa (A4.out.new (Upd.of_below hBa (wah _)));clear hb hrow hRd hBa A14 A24 A34 A4 hl4;have l3:([0,76,0]:List Nat).length=3:=rfl;rw[l3];clear l3;go_wp2_with fail;refine hbb.out.mono ?_;rintro e y2 ⟨rfl,hBb⟩;have hlb:=waa (hla.out.trans (hBb.mono hla.out.size));have F2:=waa (E2.out.new (Upd.of_below hBb (wah _)));have F3:=waa (E3.out.new (Upd.of_below hBb (wah _)));have F4:=waa (E4.out.new (Upd.of_below hBb (wah _)));clear hbb hBb E2 E3 E4 hla;have hb:=waa (qfz F2.out Zs);go_wp2_with fail;refine hb.out.mono ?_;rintro e y3 ⟨v2,rfl,hrow,-,hBa⟩;obtain⟨VA2,vc2,rfl,hRd⟩:=Rd.of_own hrow;have hbb:=waa (qfv (cap:=vc2) hRd q2n);have hla:=waa (hlb.out.trans (hBa.mono hlb.out.size));have M20:=waa (F3.out.new (Upd.of_below hBa (wah _)));have M21:=waa (F4.out.new (Upd.of_below hBa (wah _)));clear hb hrow hRd hBa F2 F3 F4 hlb;have l3:([5,0,0]:List Nat).length=3:=rfl;rw[l3];clear l3;go_wp2_with fail;refine hbb.out.mono ?_;rintro e y4 ⟨rfl,hBb⟩;have lw2:=waa (hla.out.trans (hBb.mono hla.out.size));have K20:=waa (M20.out.new (Upd.of_below hBb (wah _)));have K21:=waa (M21.out.new (Upd.of_below hBb (wah _)));clear hbb hBb M20 M21 hla;have hb:=waa (qfz K20.out Zs);go_wp2_with fail;refine hb.out.mono ?_;rintro e y5 ⟨v3,rfl,hrow,-,hBa⟩;obtain⟨VA3,vc3,rfl,hRd⟩:=Rd.of_own hrow;have hbb:=waa (qfv (cap:=vc3) hRd qyx);have hla:=waa (lw2.out.trans (hBa.mono lw2.out.size));have M30:=waa (K21.out.new (Upd.of_below hBa (wah _)));clear hb hrow hRd hBa K20 K21 lw2;have l3:([0,76,0]:List Nat).length=3:=rfl;rw[l3];clear l3;go_wp2_with fail;refine hbb.out.mono ?_;rintro e y6 ⟨rfl,hBb⟩;have lw3:=waa (hla.out.trans (hBb.mono hla.out.size));have K30:=waa (M30.out.new (Upd.of_below hBb (wah _)));clear hbb hBb M30 hla;have hb:=waa (qfz K30.out Zs);go_wp2_with fail;refine hb.out.mono ?_;rintro e y7 ⟨v4,rfl,hrow,-,hBa⟩;obtain⟨VA4,vc4,rfl,hRd⟩:=Rd.of_own hrow;have hbb:=waa (qfv (cap:=vc4) hRd q2q);have hla:=waa (lw3.out.trans (hBa.mono lw3.out.size));clear hb hrow hRd hBa K30 lw3;have l3:([6,0,0]:List Nat).length=3:=rfl;rw[l3];clear l3;go_wp2_with fail;refine hbb.out.mono ?_;rintro e y8 ⟨rfl,hBb⟩;have lw4:=waa (hla.out.trans (hBb.mono hla.out.size));clear hbb hBb hla;go_wp2_with fail;go_ret;exact⟨rfl,lw4.out⟩
end Go.Proofs.YtgjhkafggagniaaGreat
