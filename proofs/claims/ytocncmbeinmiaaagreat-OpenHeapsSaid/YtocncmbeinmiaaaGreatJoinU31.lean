/- Parts. No condition. -/
import Derived.Test.YtocncmbeinmiaaaGreatJoinU30
set_option linter.unusedVariables false
set_option maxRecDepth 100000
set_option maxHeartbeats 8000000
namespace Go.Proofs.YtocncmbeinmiaaaGreat
open Go Go.RowKit
section
variable {τ:Type} {E:DP τ} {i:Nat} {l:List Nat} {s:DM×τ} {F:Nat->Prop} {w w':World}
def qc3(n nl:Nat)(who:Int)(gs gl gr gt:Int):AP (DM×τ) (Nat×List (Int×Nat)):=
 (qdl n nl who (qbl gs gl gr gt)).bind λx=>if x=0 then AP.ret (0,[]) else(qbg n nl who (qbm (entN gs gl gr gt 0) 32) []).bind λws=>AP.ret (x,(qbh x ws).getD [])
def qq6(E:DP τ)(o:Out (DM×τ) (Nat×List (Int×Nat)))(F:Nat->Prop)(w:World)(e:Ending)(w':World):Prop:=
 (∃x es i' l' s' F' v B,o= .done (x,es) i' l' s'/\e= .returned (.tuple #[.int .u64 (x:Int),v])/\E.In i' l' s' F' w'/\Grows F F' w/\Upd F w w'/\w'.ownsRow B 152 2 v es.length (eV es)/\(∀q,v.ownBlock=some q->¬F' q)/\(∀e∈es,0<=e.1/\e.1<4294967296/\e.2<18446744073709551616)/\es.length<=16)\/
  (∃bl l' s' F',o= .stop bl l' s'/\e= .panicked (qc8 E.eb)/\E.Off bl l' s' F' w'/\Grows F F' w/\Upd F w w')
structure LdSt (V:World) (be bg eb:Nat) (gs gl gr:Int):Prop where
 env:Boxed V be 136 (.pointer (some ⟨eb,0,none⟩))
 geo:Gi V bg gs gl gr
theorem LdSt.cells{V:World}{be bg eb:Nat}{gs gl gr:Int}(h:LdSt V be bg eb gs gl gr):V.cell? ⟨be,0,none⟩=some (.pointer (some ⟨eb,0,none⟩))/\V.cell? ⟨bg,0,none⟩=some (.int .i64 gs)/\V.cell? ⟨bg,1,none⟩=some (.int .i64 gl)/\V.cell? ⟨bg,2,none⟩=some (.int .i64 gr):=
 ⟨h.env.cell,h.geo.cells.1,h.geo.cells.2.1,h.geo.cells.2.2.1⟩
theorem LdSt.drew{V:World}{be bg eb:Nat}{gs gl gr:Int}(h:LdSt V be bg eb gs gl gr):LdSt V.drew be bg eb gs gl gr:=⟨h.env,h.geo⟩
theorem LdSt.upd{V V':World}{be bg eb:Nat}{gs gl gr:Int}{G:Nat->Prop}(h:LdSt V be bg eb gs gl gr)(hu:Upd G V V')(h1:¬G be)(h2:¬G bg):LdSt V' be bg eb gs gl gr:=⟨qal h.env hu h1,(hu.block _ h.geo.lt h2).trans h.geo⟩
theorem qabd{x:Nat}{ws:List Nat}(hws:∀y∈ws,y<18446744073709551616):(∀e∈(qbh x ws).getD [],0<=e.1/\e.1<4294967296/\e.2<18446744073709551616)/\((qbh x ws).getD []).length<=16:=by
 have key:∀(n:Nat) (us:List Nat),us.length<=2*n->(∀y∈us,y<18446744073709551616)->(∀e∈qa2 us,0<=e.1/\e.1<4294967296/\e.2<18446744073709551616)/\(qa2 us).length<=n:=by
  intro n;induction n with
  |zero=>
   intro us h _;obtain rfl:us=[]:=wdu Zo;exact⟨by simp[qa2],by simp[qa2]⟩
  |succ n ih=>
   intro us h hu;match us,h,hu with
   |[],_,_=>exact⟨by simp[qa2],by simp[qa2]⟩
   |[a],_,_=>exact⟨by simp[qa2],by simp[qa2]⟩
   |a::b::r,h,hu=>
    obtain⟨h1,h2⟩:=ih r (by simp only[way] at h;omega) (λy hy=>hu y (by simp[hy]));refine⟨λe he=>?_,by simp only[qa2,way];omega⟩;simp only[qa2,wbg] at he;rcases he with rfl|he
    ·exact⟨by simp only;omega,by simp only;omega,hu b Zs⟩
    ·exact h1 e he
 unfold qbh;split
 ·exact⟨by simp,by simp⟩
 ·split
  ·rename_i h
   have:=key 16 (ws.take (qa9 x)) (by rw[war];omega) (λy hy=>hws y (wb0 hy))
   simpa using this
  ·exact⟨by simp,by simp⟩
theorem q1o(h:E.In i l s F w)(gs gl gr gt:Int)(hw:qc3 E.n E.nl E.who gs gl gr gt E.sp i l s≠ .wild):
  Calls Tryz.prog 217 #[.pointer (some ⟨E.eb,0,none⟩),.agg #[.int .i64 gs,.int .i64 gl,.int .i64 gr],.int .i64 gt] w λe w'=>qq6 E (qc3 E.n E.nl E.who gs gl gr gt E.sp i l s) F w e w':=by
 have hmf:∀(fn:Fn) (first cap:Array Value) (w:World),(Instr.makeFunc fn first cap).run Tryz.prog w= .ok (.func fn first cap) w:=λ_ _ _ _=>rfl
 have huW:Upd (λ_=>False) w ((w.alloc (.cells #[.pointer (some ⟨E.eb,0,none⟩)] 136)).alloc (.cells #[.int .i64 gs,.int .i64 gl,.int .i64 gr] 23)):=((Upd.refl _ w).alloc _).alloc _;have hst:LdSt ((w.alloc (.cells #[.pointer (some ⟨E.eb,0,none⟩)] 136)).alloc (.cells #[.int .i64 gs,.int .i64 gl,.int .i64 gr] 23)) w.heap.size (w.heap.size+1) E.eb gs gl gr:=⟨qag (qan rfl _ _) _,qan Zs _ _⟩
 have hFl:=waa (λk (hk:F k)=>h.lt hk);have hnF:=waa (λk (hk:w.heap.size<=k)=>show ¬F k from λe=>by have:=hFl.out k e;omega);have hId:=h.new huW;have hsz:w.heap.size+2=((w.alloc (.cells #[.pointer (some ⟨E.eb,0,none⟩)] 136)).alloc (.cells #[.int .i64 gs,.int .i64 gl,.int .i64 gr] 23)).heap.size:=by simp
 replace hw:=waa hw;clear h;replace hst:=waa hst;replace huW:=waa huW;replace hId:=waa hId;replace hsz:=waa hsz;go_enter Tryz.func217,Tryz.ntmps217;go_wp2_with fail;generalize (w.alloc (.cells #[.pointer (some ⟨E.eb,0,none⟩)] 136)).alloc (.cells #[.int .i64 gs,.int .i64 gl,.int .i64 gr] 23)=W at hst huW hId hsz ⊢;generalize hbe:w.heap.size=be at hst hsz ⊢;generalize hbg:be+1=bg at hst ⊢;replace hbe:=waa hbe;replace hbg:=waa hbg;have hstd:=waa hst.out.drew;replace hId:=waa (hId.out.new (w':=W.drew) ((Upd.refl _ W).drew));refine wp_region_held_drew (S:=λV=>V.cell? ⟨be,0,none⟩=some (.pointer (some ⟨E.eb,0,none⟩))/\V.cell? ⟨bg,0,none⟩=some (.int .i64 gs)/\V.cell? ⟨bg,1,none⟩=some (.int .i64 gl)/\V.cell? ⟨bg,2,none⟩=some (.int .i64 gr)) Zk (hst.out.cells) (λhHeld=>?_);refine wpAnyH_take (i:=0) (v:=?_) rfl Zk Zk Zk (λ_ _ _ h=>h) (Or.inl ⟨by rfl,?_⟩) Za ?_;rotate_left;(·intro u h;(try dsimp only at h);(try simp only[wad,wae]);go_simp;try with_reducible rfl);try simp only[Act.put,wag,wah,wai,wad,wae]
 refine wpAnyH_take (i:=1) (v:=?_) rfl Zk Zk Zk (λ_ _ _ h=>h) (Or.inl ⟨by rfl,?_⟩) Za ?_;rotate_left;(·intro u h;(try dsimp only at h);(try simp only[wad,wae,waf]);go_simp;try with_reducible rfl);try simp only[Act.put,wag,wah,wai,wad,wae,waf]
 refine wpAnyH_take (i:=2) (v:=?_) rfl Zk Zk Zk (λ_ _ _ h=>h) (Or.inl ⟨by rfl,?_⟩) Za ?_;rotate_left;(·intro u h;(try dsimp only at h);(try simp only[wad,wae,waf]);go_simp;try with_reducible rfl);try simp only[Act.put,wag,wah,wai,wad,wae,waf]
 refine wpAnyH_ready (rs:=[3]) Zk Zs ?_;refine AllReadyH.cons rfl (λK hK=>?_) AllReadyH.nil
 (try simp only[wad,wae,waf])
 go_simp
 go_at_call 108
 refine(qfx gs gl gr gt _).mono ?_;rintro e w2 ⟨rfl,hB2⟩;have hu2:Upd (λ_=>False) W.drew w2:=Upd.of_below hB2 (wab _);have hst2:=waa (hstd.out.upd hu2 (λe=>e) (λe=>e));have hI2:=hId.out.new hu2;have x2:=hst2.out.cells;go_wp2_with fail;refine hK.out _ _ (x2) (λhHeld2=>?_);clear hK K hHeld;have hHeld:=hHeld2;clear hHeld2;try simp only[Act.put,wag,wah,wai,wad,wae,waf]
 refine wpAnyH_ready (rs:=[4]) Zk Zs ?_;refine AllReadyH.cons rfl (λK hK=>?_) AllReadyH.nil
 (try simp only[wad,wae,waf])
 go_simp
 go_at_call 163
 refine(qos hI2 (qbl gs gl gr gt) (AP.tame hw.out)).mono ?_;intro e w3 hpost;have hpost:=hpost.more hu2;rcases hpost.done (AP.tame hw.out) with ⟨y,i3,l3,s3,v3,F3,ho3,rfl,rfl,hI3,hg3,hu3⟩|⟨bl,l3,s3,F3,ho3,rfl,hO3,hg3,hu3⟩
 rotate_left
 ·exact⟨rfl,.inr ⟨bl,l3,s3,F3,AP.bind_stop ho3,rfl,hO3,(λk hk=>(hg3 k hk).imp id (λe=>wap huW.out.size e)),(huW.out.mono (G:=F) (λ_ e=>e.elim)).trans (show Upd F W w3 from((Upd.refl _ W).drew).trans hu3)⟩⟩
 have hst3:=waa (hstd.out.upd hu3 (hnF.out _ (by have:=hbe.out;omega)) (hnF.out _ (by have:=hbg.out;have:=hbe.out;omega)));have x3:=hst3.out.cells;go_wp2_with fail;refine hK.out _ _ (x3) (λhHeld2=>?_);clear hK K hHeld;have hHeld:=hHeld2;clear hHeld2;try simp only[Act.put,wag,wah,wai,wad,wae,waf]
 refine wpAnyH_take (i:=5) (v:=?_) rfl Zk Zk Zk (λ_ _ _ h=>h) (Or.inl ⟨by rfl,?_⟩) Za ?_;rotate_left;(·intro u h;(try dsimp only at h);(try simp only[wad,wae,waf]);go_simp;try with_reducible rfl);try simp only[Act.put,wag,wah,wai,wad,wae,waf]
 refine wpAnyH_done Zk ?_ _;have huT:Upd F w w3:=(huW.out.mono (G:=F) (λ_ e=>e.elim)).trans (show Upd F W w3 from((Upd.refl _ W).drew).trans hu3);have hgT:Grows F F3 w:=λk hk=>(hg3 k hk).imp id (λe=>wap huW.out.size e)
 have hy64:y<18446744073709551616:=hI3.words y (qot ho3);have hF3l:=waa (λk (hk:F3 k)=>hI3.lt hk);have hWs:W.heap.size<=w3.heap.size:=hu3.size;have hFe3:¬F3 be:=λe=>by
  rcases hg3 _ e with h1|h1
  ·exact hnF.out _ (by have:=hbe.out;omega) h1
  ·have h1:W.heap.size<=be:=h1
   have:=hsz.out;have:=hbe.out;omega
 replace huT:=waa huT;replace hgT:=waa hgT;replace hI3:=waa hI3;replace ho3:=waa (show qdl E.n E.nl E.who (qbl gs gl gr gt) E.sp i l s= .done y i3 l3 s3 from ho3);replace hFe3:=waa hFe3;replace hWs:=waa hWs;obtain⟨-,g0,g1,g2⟩:=hst3.out.cells;have gf:=λo=>hst3.out.geo.cells.2.2.2 o
 clear hpost hg3 hu3 hu2 hst2 hI2 x2 x3 hB2 hHeld hst hstd hId;by_cases hy:y=0
 ·subst hy
  have hfin:=waa (show qq6 E (qc3 E.n E.nl E.who gs gl gr gt E.sp i l s) F w (.returned (.tuple #[.int .u64 ((0:Nat):Int),.slice none 0 0])) w3 from
   .inl ⟨0,[],i3,l3,s3,F3,_,0,(AP.bind_done ho3.out).trans (by rw[if_pos rfl];rfl),rfl,hI3.out,hgT.out,huT.out,wa9 _ _ _ _,(λq hq=>by cases hq),by simp,by simp⟩)
  clear ho3 hI3;go_wp2_with fail;go_ret2;exact hfin.out
 ·have hwl:(qbg E.n E.nl E.who (qbm (entN gs gl gr gt 0) 32) []).bind (λws=>AP.ret (y,(qbh y ws).getD [])) E.sp i3 l3 s3≠ .wild:=by
   have h:=hw.out;unfold qc3 at h;rw[AP.bind_done ho3.out,if_neg hy] at h;exact h
  have hlane:qc3 E.n E.nl E.who gs gl gr gt E.sp i l s=((qbg E.n E.nl E.who (qbm (entN gs gl gr gt 0) 32) []).bind λws=>AP.ret (y,(qbh y ws).getD [])) E.sp i3 l3 s3:=(AP.bind_done ho3.out).trans (by rw[if_neg hy]);have hu4:Upd (λ_=>False) w3 (w3.alloc (.cells #[.slice none 0 0] 40)):=(Upd.refl _ w3).alloc _;have hbs4:Boxed (w3.alloc (.cells #[.slice none 0 0] 40)) w3.heap.size 40 (.slice none 0 0):=qan rfl _ _;have hst4:=hst3.out.upd hu4 (λe=>e) (λe=>e);have hent:=waa (qpa gs gl gr gt 0 (w3.alloc (.cells #[.slice none 0 0] 40)));have hbel:be<w3.heap.size:=hst3.out.env.lt;obtain⟨-,j0,j1,j2⟩:=hst4.cells;have jf:=λo=>hst4.geo.cells.2.2.2 o
  replace hwl:=waa hwl;replace hlane:=waa hlane;replace hu4:=waa hu4;replace hbs4:=waa hbs4;replace hst4:=waa hst4;have hyne:¬(y:Int)=0:=Zo
  clear hw ho3 g0 g1 g2 gf hst3;go_wp2_with fail;refine hent.out.mono ?_;rintro e w5 ⟨rfl,hB5⟩;have hfr:=waa (q2d (entN gs gl gr gt 0) 32 w5 Zo (q0j gs gl gr gt));replace hB5:=waa hB5;clear hent j0 j1 j2 jf;go_wp2_with fail;refine hfr.out.mono ?_;rintro e w6 ⟨ga,rfl,hrowA,hB6⟩;have hu56:Upd (λ_=>False) w3 w6:=(hu4.out.trans (Upd.of_below hB5.out (wab _))).trans (Upd.of_below hB6 (wab _));have hbs6:=qal (qal hbs4.out (Upd.of_below (F:=λ_=>False) hB5.out (wab _)) (λe=>e)) (Upd.of_below (F:=λ_=>False) hB6 (wab _)) (λe=>e);have hst6:=(hst4.out.upd (Upd.of_below (F:=λ_=>False) hB5.out (wab _)) (λe=>e) (λe=>e)).upd (Upd.of_below (F:=λ_=>False) hB6 (wab _)) (λe=>e) (λe=>e);have hga:w3.heap.size<=ga:=by
   have h1:=(hrowA.lt ga rfl).1;have h2:w3.heap.size<=(w3.alloc (.cells #[.slice none 0 0] 40)).heap.size:=hu4.out.size;have h3:=hB5.out.size;omega
  have hls:=waa (q1v (hI3.out.new hu56) hbs6 hst6.env hrowA Zo (λe=>by have:=hF3l.out _ e;omega) hFe3.out (λe=>by have:=hF3l.out _ e;omega) hbel (AP.tame hwl.out));have hu56':=waa hu56;clear hu56 hbs6 hst6 hrowA hB6 hfr;go_wp2_with fail;refine hls.out.mono ?_;rintro e w7 (⟨ws,i4,l4,s4,F4,v,ho4,rfl,hI4,hg4,hb4,hr4,hwl4,hws4,hF4,hu4'⟩|⟨bl,l4,s4,F4,ho4,rfl,hO4,hg4,hu4'⟩);rotate_left
  ·refine⟨rfl,.inr ⟨bl,l4,s4,F4,hlane.out.trans (AP.bind_stop ho4),rfl,hO4,?_,?_⟩⟩
   ·intro k hk
    rcases hg4 k hk with h1|h1
    ·exact hgT.out k h1
    ·exact .inr (by have:=hu56'.out.size;have:=huT.out.size;omega)
   ·refine(huT.out.trans (hu56'.out.mono (G:=F) (λ_ e=>e.elim))).after hu4' ?_
    rintro k (h1|h1)
    ·exact hgT.out k h1
    ·exact .inr (by have:=huT.out.size;omega)
  obtain⟨AV,cV,rfl,hcap,hRd⟩:=qcz hr4;have hrd:=waa (λ(u:Nat) (hu:ws.length=u)=>show Calls Tryz.prog 278 #[.int .u64 (y:Int),.slice AV u cV] w7 λe w'=>ReadE w7.heap.size (qbh y ws) e w'/\Below w7.heap.size w7 w' from by
   subst hu;exact qqb AV cV y ws w7 (by rw[hwl4];exact hRd) Zo Zo hy64 hws4)
  have hrd:=waa (hrd.out 32 hwl4);have hin:=waa (qabd (x:=y) hws4);have b4:=hb4.cell;have hgF:Grows F F4 w:=λk hk=>by
   rcases hg4 k hk with h1|h1
   ·exact hgT.out k h1
   ·exact .inr (by have:=hu56'.out.size;have:=huT.out.size;omega)
  have huF:Upd F w w7:=(huT.out.trans (hu56'.out.mono (G:=F) (λ_ e=>e.elim))).after hu4' (λk hk=>by
   rcases hk with h1|h1
   ·exact hgT.out k h1
   ·exact .inr (by have:=huT.out.size;omega))
  replace hgF:=waa hgF;replace huF:=waa huF;replace hI4:=waa hI4;have hF4l:=waa (λk (hk:F4 k)=>hI4.out.lt hk);have hlane2:=waa (hlane.out.trans (AP.bind_done ho4));clear hls ho4 hg4 hb4 hr4 hwl4 hws4 hF4 hu4' hRd hcap;go_wp2_with fail;refine hrd.out.mono ?_;rintro e w8 ⟨hE,hB8⟩;have hu8:Upd (λ_=>False) w7 w8:=Upd.of_below hB8 (wab _);have hI8:=waa (hI4.out.new hu8);have huF8:=waa (huF.out.trans (hu8.mono (G:=F) (λ_ e=>e.elim)));cases hro:qbh y ws with
  |none=>
   rw[hro] at hE hin hlane2;obtain rfl:e= .returned (.tuple #[.slice none 0 0,.int .i64 11]):=hE;have hfin:=waa (show qq6 E (qc3 E.n E.nl E.who gs gl gr gt E.sp i l s) F w (.returned (.tuple #[.int .u64 (y:Int),.slice none 0 0])) w8 from
    .inl ⟨y,[],i4,l4,s4,F4,_,0,hlane2.out,rfl,hI8.out,hgF.out,huF8.out,wa9 _ _ _ _,(λq hq=>by cases hq),by simp,by simp⟩)
   clear hlane2 hin hI8 hB8 hu8 hrd;go_wp2_with fail;go_ret2;exact hfin.out
  |some L=>
   rw[hro] at hE hin hlane2;obtain⟨v8,rfl,hrow8⟩:=hE;have hin':(∀e∈L,0<=e.1/\e.1<4294967296/\e.2<18446744073709551616)/\L.length<=16:=hin.out;have hfin:=waa (show qq6 E (qc3 E.n E.nl E.who gs gl gr gt E.sp i l s) F w (.returned (.tuple #[.int .u64 (y:Int),v8])) w8 from
    .inl ⟨y,L,i4,l4,s4,F4,v8,_,hlane2.out,rfl,hI8.out,hgF.out,huF8.out,hrow8,(λq hq e=>by have:=hF4l.out q e;have:=(hrow8.lt q hq).1;omega),hin'.1,hin'.2⟩)
   obtain⟨A8,c8,rfl,-⟩:=EsRd.of_own hrow8;generalize L.length=NL at hfin ⊢;clear hlane2 hin hin' hI8 hB8 hu8 hrd hrow8;go_wp2_with fail;go_ret2;exact hfin.out
end
section
variable {τ:Type} {E:DP τ} {i:Nat} {l:List Nat} {s:DM×τ} {F:Nat->Prop} {w w':World}
theorem qy5{V:World}(h:E.In i l s F V){bs be k:Nat}{v:Value}{a:Int}{ws:List Nat}(hbS:Boxed V bs 40 v)(hrow:V.ownsRow (bs+1) 27 1 v k (u64V ws))(hbe:Boxed V be 136 (.pointer (some ⟨E.eb,0,none⟩)))(hk:k<=2000)(hF:∀q,F q->¬(q=bs\/v.ownBlock=some q))(hFe:¬F be)(hw:qdl E.n E.nl E.who a E.sp i l s≠ .wild):
  Calls Tryz.prog 162 #[.int .i64 a,.pointer (some ⟨bs,0,none⟩),.pointer (some ⟨be,0,none⟩)] V λe V'=>qnx E (qdl E.n E.nl E.who a E.sp i l s) F bs k v ws V e V':=by
 obtain⟨i0,ii,iz0,iz1,iz2⟩:=info_parts qcg;have hst:=waa (qos (h.new (w':=V.drew) ((Upd.refl _ V).drew)) a hw);have b0:=hbS.cell;have w0:=hbe.cell;have hbl:=hbS.lt;have hwl:=hbe.lt;obtain⟨AO,cO,rfl,-⟩:=Rd.of_own hrow;have hFb:¬F bs:=λe=>hF _ e (.inl rfl)
 have hbS':=waa hbS;have hFK:=waa hF;replace hFe:=waa hFe;replace hFb:=waa hFb;replace hrow:=waa hrow;have hFl:=waa (λq (hq:F q)=>h.lt hq);replace hw:=waa hw;have hbe':=waa hbe;clear h hbS hbe hF;go_enter Tryz.func162,Tryz.ntmps162;go_wp2_with fail;go_region_law ((first
  |((refine step_append_lies _ Zr _ _ 40 Zr (bs+1) 27 i0 (.int .u64 0) 1 8 wbi ii iz0 iz1 iz2 Zr Zd _ _ _ Zr (hrow1.out.alloc _) ⟨V1.heap.size,0,none⟩ 1 1 [.int .u64 (y:Int)] Zr Zr (qb3 Zr _ Zr _) (by simp[Value.oneCell']) Zd (by simp only[maxLen];omega) Zo Zx _ Zr ?_;intro g c w4 hown hgrow hat hlg;obtain⟨y1,y2,y3,y4⟩:=qxe (w4:=w4) (O:= .cells #[.int .u64 (y:Int)] 27) hbs1.out hrow1.out hown ⟨hgrow.os,hgrow.tape,hgrow.output,hgrow.size,hgrow.block⟩;have z4:w4.cell? ⟨bs,0,none⟩=some _:=(qaa y1 0).trans rfl;have zf:=qaj y1 0;replace hat:=waa hat;replace y2:=waa y2;replace y3:=waa y3;replace y4:=waa y4;clear hown hgrow y1))
  |((rw[if_pos Zr];unfold Oper.wp;go_simp;refine hst.out.mono ?_;intro e V1 hpost;rcases hpost.done hw.out with ⟨y,i2,l2,s2,v2,F2,ho,rfl,rfl,hI,hg,hu⟩|⟨bl,l2,s2,F2,ho,rfl,hO,hg,hu⟩;rotate_left;(·exact⟨rfl,.inr ⟨bl,l2,s2,F2,ho,rfl,hO,hg,((Upd.refl _ V).drew).trans hu⟩⟩);have x0:V1.cell? ⟨bs,0,none⟩=some (.slice AO k cO):=(hu.cell (p:=⟨bs,0,none⟩) hbl hFb.out).trans b0;have x1:V1.cell? ⟨be,0,none⟩=some (.pointer (some ⟨E.eb,0,none⟩)):=(hu.cell (p:=⟨be,0,none⟩) hwl hFe.out).trans w0;have hbl1:bs<V1.heap.size:=waw hbl hu.size;have hwl1:be<V1.heap.size:=waw hwl hu.size;have hbs1:=waa (qal (w:=V.drew) hbS'.out hu hFb.out);have hrow1:=waa (qde (w:=V.drew) hrow.out hu (λq hq e=>hFK.out q e (.inr hq)));replace ho:=waa ho;replace hI:=waa hI;replace hg:=waa hg;replace hu:=waa hu))))
 all_goals
  have hF2:∀q,F2 q->¬(q=bs\/(Value.slice AO k cO).ownBlock=some q):=λq hq e=>by
   rcases hg.out q hq with h1|h1
   ·exact hFK.out q h1 e
   ·have h1:V.heap.size<=q:=h1
    rcases e with e|e
    ·omega
    ·have:=(hrow.out.lt q e).2;omega
  have hfin:=waa (show qnx E (qdl E.n E.nl E.who a E.sp i l s) F bs k (.slice AO k cO) ws V (.returned (.tuple #[])) (w4.setCell ⟨bs,0,none⟩ (.slice (some ⟨g,0,none⟩) (k+1) c)) from
   .inl ⟨y,i2,l2,s2,F2,_,ho.out,rfl,hI.out.cap hbs1.out hrow1.out y4.out hF2,hg.out,y2.out,by rw[qd8];exact y3.out,(λq hq e=>by
    rcases e with e|e
    ·exact hF2 q hq (.inl e)
    ·rcases hat.out with h1|h1
     ·exact hF2 q hq (.inr (h1.trans e))
     ·injection e with e
      have h2:=hI.out.lt hq;have h3:g=(V1.alloc (.cells #[.int .u64 (y:Int)] 27)).heap.size:=h1;simp at h3 e
      omega),((((Upd.refl _ V).drew).trans hu.out).mono (λq e=> .inl e)).trans (y4.out.mono (λq e=> .inr e))⟩)
  clear hF2 y2 y3 y4 hat
  go_wp2_with fail;go_end0
  exact hfin.out
def qwk(N:Nat)(ws:List Nat)(v:Value)(V:World):Prop:=∃A cap,v= .slice A N cap/\N<=cap/\Rd V A N (u64V ws)/\ws.length=N/\∀y∈ws,y<18446744073709551616
def LdI(E:DP τ)(i:Nat)(l:List Nat)(s:DM×τ)(F:Nat->Prop)(w:World)(zs:List Int)(bs be j:Nat)(U:World):Prop:=
 ∃ws i' l' s' F' v,qbg E.n E.nl E.who (zs.take j) [] E.sp i l s= .done ws i' l' s'/\E.In i' l' s' F' U/\Grows F F' w/\Boxed U bs 40 v/\U.ownsRow (bs+1) 27 1 v j (u64V ws)/\ws.length=j/\(∀y∈ws,y<18446744073709551616)/\(∀q,F' q->¬(q=bs\/v.ownBlock=some q))/\Upd F w U/\Boxed U be 136 (.pointer (some ⟨E.eb,0,none⟩))/\¬F' be/\be<bs/\w.heap.size<=be
theorem qu9(h:E.In i l s F w){N:Nat}(hN:N<=2000)(hw:qbg E.n E.nl E.who (qbm 0 N) [] E.sp i l s≠ .wild):
  Calls Tryz.prog 119 #[.pointer (some ⟨E.eb,0,none⟩),.int .i64 (N:Int)] w λe w'=>E.Post (qbg E.n E.nl E.who (qbm 0 N) [] E.sp i l s) (qwk N) F w e w':=by
 have hmf:∀(fn:Fn) (first cap:Array Value) (w:World),(Instr.makeFunc fn first cap).run Tryz.prog w= .ok (.func fn first cap) w:=λ_ _ _ _=>rfl
 have hFl:∀k,F k->k<w.heap.size:=λk hk=>h.lt hk
 have hI0:Hid (LdI E i l s F w (qbm 0 N) (w.heap.size+1) w.heap.size 0 ((w.alloc (.cells #[.pointer (some ⟨E.eb,0,none⟩)] 136)).alloc (.cells #[.slice none 0 0] 40))):=waa
  ⟨[],i,l,s,F,.slice none 0 0,rfl,h.new (((Upd.refl _ w).alloc _).alloc _),Grows.refl _ _,qan Zs _ _,wa9 _ _ _ _,rfl,by simp,λq hq e=>(by
   have:=hFl q hq
   rcases e with e|e
   ·omega
   ·cases e),((Upd.refl _ w).alloc _).alloc _,qag (qan rfl _ _) _,λe=>(by have:=hFl _ e;omega),Zo,wab _⟩
 have hzl:(qbm 0 N).length=N:=by simp[qbm]
 have hzg:∀j,j<N->(qbm 0 N)[j]? =some ((j:Nat):Int):=λj hj=>by
  unfold qbm;rw[wa1,wdi hj];simp
 generalize qbm 0 N=zs at hI0 hzl hzg hw ⊢;replace hw:=waa hw;replace hzl:=waa hzl;replace hzg:=waa hzg;replace hFl:=waa hFl;clear h;go_enter Tryz.func119,Tryz.ntmps119;go_wp2_with fail;generalize hW:(w.alloc (.cells #[.pointer (some ⟨E.eb,0,none⟩)] 136)).alloc (.cells #[.slice none 0 0] 40)=W at hI0 ⊢;replace hW:=waa hW;go_loopg [7,11] N (λk s7 s11 wr=>∃j:Nat,s11= .int .i64 (j:Int)/\N - j<=k/\j<=N/\Hid (LdI E i l s F w zs (w.heap.size+1) w.heap.size j wr))
 case atStart=>exact⟨0,rfl,Zo,Zo,hI0⟩
 case round=>
  obtain⟨j,rfl,hk,hj,hI⟩:=hrel;by_cases hlt:j<N
  ·have z1:(j:Int)<(N:Int):=Zo
   obtain⟨ws,i1,l1,s1,F1,v,k0,k1,k2,k3,k4,k5,k5',k6,k7,k8,k9,k10,k11⟩:=hI.out;have ha:=hzg.out j hlt;have hwa:qdl E.n E.nl E.who (j:Int) E.sp i1 l1 s1≠ .wild:=by
    have hw:=hw.out;rw[qfp _ _ _ ha] at hw;exact AP.tame (AP.tame_next (f:=λx=>(qdl E.n E.nl E.who (j:Int)).bind λy=>qbg E.n E.nl E.who (zs.drop (j+1)) (x++[y])) hw k0)
   have hld:=waa (qy5 k1 k3 k4 k8 Zo k6 k9 hwa);have hK:=waa (And.intro ha (And.intro k0 (And.intro k2 (And.intro k4 (And.intro k7 (And.intro k8 (And.intro k9 (And.intro k10 (And.intro k11 (And.intro k5 k5'))))))))));clear hI0 hI k0 k1 k2 k3 k4 k5 k5' k6 k7 k8 k9 k10 k11 hwa ha;go_wp2_with fail;refine hld.out.mono ?_;obtain⟨ha,k0,k2,k4,k7,k8,k9,k10,k11,k5,k5'⟩:=hK.out;rintro e V (⟨y,i2,l2,s2,F2,v2,ho,rfl,hI2,hg2,hb2,hr2,hF2,hu2⟩|⟨bl,l2,s2,F2,ho,rfl,hO,hg2,hu2⟩);rotate_left
   ·exact⟨rfl,DP.Post.stopped (t:=qbg E.n E.nl E.who zs []) (by rw[qfp _ _ _ ha,AP.bind_done k0];exact AP.bind_stop ho) rfl hO (k2.trans hg2 k7.size) (k7.after hu2 k2)⟩
   have hbeU:=k8.lt;have hJ:Hid (LdI E i l s F w zs (w.heap.size+1) w.heap.size (j+1) V):=waa ⟨ws++[y],i2,l2,s2,F2,v2,by
     rw[qll _ _ _ ha,AP.bind_done k0,AP.bind_done ho];rfl,hI2,k2.trans hg2 k7.size,hb2,hr2,by simp[k5],λz hz=>by
     rcases wa6.1 hz with hz|hz
     ·exact k5' z hz
     ·obtain rfl:z=y:=by simpa using hz
      exact hI2.words z (qot ho),hF2,k7.after hu2 (λq hq=>by
     rcases hq with hq|hq|hq
     ·exact k2 q hq
     ·exact .inr Zo
     ·exact .inr (by have:=(k4.lt q hq).1;omega)),qal k8 hu2 (λe=>by
     rcases e with e|e|e
     ·exact k9 e
     ·omega
     ·have:=(k4.lt _ e).1;omega),λe=>by
     rcases hg2 _ e with e|e
     ·exact k9 e
     ·omega,k10,k11⟩
   clear ho hI2 hg2 hb2 hr2 hF2 hu2 ha k0 k2 k4 k7 k8 k9 k10 k11 k5 k5' hK hld hbeU;go_wp2_with fail;go_roundg (N - (j+1))
   case measure=>omega
   case rel=>exact⟨j+1,by go_num,wab _,Zo,hJ⟩
  ·obtain rfl:j=N:=Zo
   have z1:¬(j:Int)<(j:Int):=Zo
   obtain⟨ws,i1,l1,s1,F1,v,k0,k1,k2,k3,k4,k5,k5',k6,k7,k8,k9,k10,k11⟩:=hI.out;rw[wa2 (by rw[hzl.out];omega)] at k0;obtain⟨A,c,rfl,hc,hR⟩:=qcz k4;have b0:=k3.cell;have hfin:=waa (DP.Post.ended (t:=qbg E.n E.nl E.who zs []) (R:=qwk j) k0 rfl ⟨A,c,rfl,hc,hR,k5,k5'⟩ k1 k2 k7);clear hI0 hI k0 k1 k2 k3 k4 k5 k5' k6 k7 k8 k9 k10 k11 hR;go_wp2_with fail;go_ret;exact hfin.out
end
section
variable {τ:Type} {E:DP τ} {i:Nat} {l:List Nat} {s:DM×τ} {F:Nat->Prop} {w w':World} {es:List (Int×Nat)}
def FxI(E:DP τ)(i:Nat)(l:List Nat)(s:DM×τ)(F:Nat->Prop)(w:World)(X:Option Addr)(es:List (Int×Nat))(j:Nat)(U:World):Prop:=
 ∃i' l' s' F',AP.each (qc7 E.n E.nl E.who) (es.take j) E.sp i l s= .done () i' l' s'/\E.In i' l' s' F' U/\Grows F F' w/\Upd F w U/\EsRd U X es.length es/\∀p,X=some p->0<es.length->¬F' p.block/\p.block<U.heap.size
def FlI(E:DP τ)(i:Nat)(l:List Nat)(s:DM×τ)(F:Nat->Prop)(w:World)(X:Option Addr)(L:List Int)(j:Nat)(U:World):Prop:=
 ∃i' l' s' F',AP.each (qca E.n E.nl E.who) (L.take j) E.sp i l s= .done () i' l' s'/\E.In i' l' s' F' U/\Grows F F' w/\Upd F w U/\Rd U X L.length (i64V L)/\∀p,X=some p->0<L.length->¬F' p.block/\p.block<U.heap.size
def fixA(n nl:Nat)(who:Int)(es:List (Int×Nat)):AP (DM×τ) Unit:=if es=[] then AP.ret () else qc9 n nl who es
theorem qmi{F2:Nat->Prop}{B:Nat}(h:Grows F F2 w)(hB:B<w.heap.size)(hn:¬F B):¬F2 B:=λe=>(h B e).elim hn (λk=>by omega)
theorem q37(h:E.In i l s F w){X:Option Addr}{cap N:Nat}(hes:EsRd w X N es)(hX:∀p,X=some p->0<N->¬F p.block/\p.block<w.heap.size)(hr:∀e∈es,0<=e.1/\e.1<16384)(hx:∀e∈es,e.2<18446744073709551616)(hN:N<=60000)(hw:fixA E.n E.nl E.who es E.sp i l s≠ .wild):
  Calls Tryz.prog 121 #[.pointer (some ⟨E.eb,0,none⟩),.slice X N cap] w λe w'=>E.Post (fixA E.n E.nl E.who es E.sp i l s) qdr F w e w':=by
 have hln:es.length=N:=hes.1;by_cases h0:es=[]
 ·subst h0
  obtain rfl:N=0:=hln.symm;have hfin:=waa (DP.Post.ended (t:=fixA E.n E.nl E.who []) (R:=qdr) (a:=()) (v:= .tuple #[]) (by unfold fixA;rw[if_pos rfl];rfl) rfl rfl h (Grows.refl F w) (Upd.refl _ _));clear h hes hX hr hx hw hln;go_enter Tryz.func121,Tryz.ntmps121;go_wp2_with fail;go_end0
  exact hfin.out
 ·have hob:fixA E.n E.nl E.who es=(AP.each (qc7 E.n E.nl E.who) es).bind λ_=>(AP.each (qca E.n E.nl E.who) (qb4 (es.map (·.1)))).bind λ_=>qcr (τ:=τ) E.n E.nl E.who:=by unfold fixA;rw[if_neg h0];rfl
  subst hln;rw[hob] at hw ⊢;have hI0:Hid (FxI E i l s F w X es 0 w):=waa ⟨i,l,s,F,rfl,h,Grows.refl _ _,Upd.refl _ _,hes,hX⟩;have hpos:0<es.length:=List.length_pos_iff.2 h0;replace hr:=waa hr;replace hx:=waa hx;replace hw:=waa hw;clear h hes hX hob h0;generalize hlen:es.length=M at hN hpos ⊢;replace hlen:=waa hlen;have hne:¬(M:Int)=0:=Zo
  have hne1:((M:Int)==0)=false:=beq_eq_false_iff_ne.2 hne;go_enter Tryz.func121,Tryz.ntmps121;go_wp2_with fail;go_loopg [5,13] M (λk s5 s13 wr=>∃j:Nat,s13= .int .i64 (j:Int)/\M - j<=k/\j<=M/\Hid (FxI E i l s F w X es j wr))
  case atStart=>exact⟨0,rfl,Zo,Zo,hI0⟩
  case round=>
   obtain⟨j,rfl,hk,hj,hI⟩:=hrel;obtain⟨i1,l1,s1,F1,hd1,hA1,hg1,hu1,hR1,hX1⟩:=hI.out;by_cases hlt:j<M
   ·have z1:(j:Int)<(M:Int):=Zo
    have z2:(0:Int)<=(j:Int):=Zo
    obtain⟨⟨ea,ex⟩,hb⟩:∃b,es[j]? =some b:=⟨_,waj (by rw[hlen.out];exact hlt)⟩
    obtain⟨p,rfl,hc⟩:=hR1.2 (by rw[hlen.out];omega);obtain⟨cj0,cj1⟩:=hc j _ hb;dsimp only at cj0 cj1;have hwf:qc7 E.n E.nl E.who (ea,ex) E.sp i1 l1 s1≠ .wild:=by
     have h:=AP.tame hw.out;rw[AP.each_split _ hb] at h;exact AP.tame_next (f:=λ_=>qc7 E.n E.nl E.who (ea,ex)) (AP.tame h) hd1
    have huA:Upd (λ_=>False) wr (wr.alloc (.cells #[.int .i64 ea,.int .u64 (ex:Int)] 152)):=(Upd.refl _ wr).alloc _;have hst:=waa (qrf (hA1.new huA) ea (hx.out _ (waq hb)) hwf);have hX2:=hX1 p rfl (by rw[hlen.out];omega);have hK:=waa (And.intro hd1 (And.intro hA1 (And.intro hg1 (And.intro hu1 (And.intro hR1 (And.intro hX2 (And.intro huA (And.intro hb hwf))))))));clear hd1 hA1 hg1 hu1 hR1 hX1 hX2 hc hI hI0 huA hb hwf;go_wp2_with fail;refine hst.out.mono ?_;intro e V2 hpost;obtain⟨hd1,hA1,hg1,hu1,hR1,hX2,huA,hb,hwf⟩:=hK.out;rcases DP.Post.done (t:=qc7 E.n E.nl E.who (ea,ex)) hpost hwf with ⟨u2,i2,l2,s2,x2,F2,ho2,rfl,rfl,hI2,hg2,hu2⟩|⟨bl,l2,s2,F2,ho2,rfl,hO2,hg2,hu2⟩
    rotate_left
    ·refine⟨rfl,DP.Post.stopped (t:=(AP.each (qc7 E.n E.nl E.who) es).bind λ_=>(AP.each (qca E.n E.nl E.who) (qb4 (es.map (·.1)))).bind λ_=>qcr E.n E.nl E.who) (by rw[AP.each_split _ hb];exact AP.bind_stop (AP.bind_stop (by rw[AP.bind_done hd1];exact ho2))) rfl hO2 (λk hk=>?_) (hu1.after ((huA.mono (G:=F1) (λ_ e=>e.elim)).trans hu2) hg1)⟩
     rcases hg2 k hk with e|e
     ·exact hg1 k e
     ·exact .inr (wap (wap hu1.size huA.size) e)
    have hJ:Hid (FxI E i l s F w (some p) es (j+1) V2):=waa ⟨i2,l2,s2,F2,by rw[AP.each_next _ hb,AP.bind_done hd1];exact ho2,hI2,λk hk=>(by
      rcases hg2 k hk with e|e
      ·exact hg1 k e
      ·exact .inr (wap (wap hu1.size huA.size) e)),hu1.after ((huA.mono (G:=F1) (λ_ e=>e.elim)).trans hu2) hg1,(hR1.upd huA (λ_ _ _ e=>e)).upd hu2 (λq hq hn=>by
      injection hq with hq;subst hq;exact hX2.1),λq hq hn=>by
      injection hq with hq;subst hq;have h8:=waw hX2.2 huA.size;exact⟨qmi hg2 h8 hX2.1,waw h8 hu2.size⟩⟩
    clear hpost hI2 hg2 hu2 hd1 hA1 hg1 hu1 hR1 hX2 huA hb hwf hK hst ho2;go_wp2_with fail;go_roundg (M - (j+1))
    case measure=>omega
    case rel=>exact⟨j+1,by go_num,wab _,Zo,hJ⟩
   ·have z1:¬(j:Int)<(M:Int):=Zo
    rw[wa2 (by rw[hlen.out];omega)] at hd1;have hli:=q0n (cap:=cap) hR1 (by rw[hlen.out];exact hN);rw[hlen.out] at hli;replace hli:=waa hli;have hK:=waa (And.intro hd1 (And.intro hA1 (And.intro hg1 hu1)));clear hI hI0 hR1 hX1 hd1 hA1 hg1 hu1;go_wp2_with fail;refine hli.out.mono ?_;rintro e V ⟨u,L,rfl,⟨hL1,hL2,hL3⟩,hrow,hB⟩;obtain⟨hd1,hA1,hg1,hu1⟩:=hK.out;obtain⟨Y,cY,rfl,hR⟩:=Rd.of_own hrow;have hLc:L=qb4 (es.map (·.1)):=qr6 (λz hz=>by
     obtain⟨e,he,rfl⟩:=wav.1 hz;exact hr.out e he) hL1 hL2
    have hLn:L.length<=60000:=Zo
    have huB:Upd (λ_=>False) wr V:=Upd.of_below hB (wab _);have hw2:((AP.each (qca E.n E.nl E.who) L).bind λ_=>qcr E.n E.nl E.who) E.sp i1 l1 s1≠ .wild:=by
     rw[hLc];exact AP.tame_next (f:=λ_=>(AP.each (qca E.n E.nl E.who) (qb4 (es.map (·.1)))).bind λ_=>qcr E.n E.nl E.who) hw.out hd1
    have hob:((AP.each (qc7 E.n E.nl E.who) es).bind λ_=>(AP.each (qca E.n E.nl E.who) (qb4 (es.map (·.1)))).bind λ_=>qcr E.n E.nl E.who) E.sp i l s=((AP.each (qca E.n E.nl E.who) L).bind λ_=>qcr E.n E.nl E.who) E.sp i1 l1 s1:=by
     rw[hLc];exact AP.bind_done hd1
    have hF0:Hid (FlI E i1 l1 s1 F w Y L 0 V):=waa ⟨i1,l1,s1,F1,rfl,hA1.new huB,hg1,hu1.trans (huB.mono (G:=F) (λ_ e=>e.elim)),hR,λp hp hn=>by
     subst hp;have h1:=hrow.lt p.block rfl;exact⟨λe=>by have:=hA1.lt e;omega,h1.2⟩⟩
    replace hw2:=waa hw2;replace hob:=waa hob;clear hB hR hrow hL1 hL2 hL3 hLc hd1 hA1 hg1 hu1 hK huB hli hr hx hw;generalize hlen2:L.length=M2 at hLn ⊢;replace hlen2:=waa hlen2;go_wp2_with fail;go_loopg [7,27] M2 (λk s7 s27 wr=>∃j:Nat,s27= .int .i64 (j:Int)/\M2 - j<=k/\j<=M2/\Hid (FlI E i1 l1 s1 F w Y L j wr))
    case atStart=>exact⟨0,rfl,Zo,Zo,hF0⟩
    case round=>
     obtain⟨j2,rfl,hk2,hj2,hI⟩:=hrel;obtain⟨i3,l3,s3,F3,hd3,hA3,hg3,hu3,hR3,hX3⟩:=hI.out;by_cases hlt2:j2<M2
     ·have z3:(j2:Int)<(M2:Int):=Zo
      have z4:(0:Int)<=(j2:Int):=Zo
      obtain⟨b,hb⟩:∃b,L[j2]? =some b:=⟨_,waj (by rw[hlen2.out];exact hlt2)⟩
      obtain⟨p,rfl,hc⟩:=hR3.2 (by rw[hlen2.out];omega);have cj:wr.cell? (p.add j2)=some (.int .i64 b):=hc j2 _ (by unfold i64V;rw[wa1,hb];rfl);have hwf:qca E.n E.nl E.who b E.sp i3 l3 s3≠ .wild:=by
       have h:=AP.tame hw2.out;rw[AP.each_split _ hb] at h;exact AP.tame_next (f:=λ_=>qca E.n E.nl E.who b) (AP.tame h) hd3
      have hX4:=hX3 p rfl (by rw[hlen2.out];omega);have hfl:=waa (qtc hA3 b hwf);have hK:=waa (And.intro hd3 (And.intro hg3 (And.intro hu3 (And.intro hR3 (And.intro hX4 (And.intro hb hwf))))));clear hd3 hA3 hg3 hu3 hR3 hX3 hX4 hc hI hF0 hb hwf;go_wp2_with fail;refine hfl.out.mono ?_;intro e V2 hpost;obtain⟨hd3,hg3,hu3,hR3,hX4,hb,hwf⟩:=hK.out;rcases DP.Post.done (t:=qca E.n E.nl E.who b) hpost hwf with ⟨u2,i2,l2,s2,x2,F2,ho2,rfl,rfl,hI2,hg2,hu2⟩|⟨bl,l2,s2,F2,ho2,rfl,hO2,hg2,hu2⟩
      rotate_left
      ·exact⟨rfl,DP.Post.stopped (t:=(AP.each (qc7 E.n E.nl E.who) es).bind λ_=>(AP.each (qca E.n E.nl E.who) (qb4 (es.map (·.1)))).bind λ_=>qcr E.n E.nl E.who) (by rw[hob.out,AP.each_split _ hb];exact AP.bind_stop (AP.bind_stop (by rw[AP.bind_done hd3];exact ho2))) rfl hO2 (hg3.trans hg2 hu3.size) (hu3.after hu2 hg3)⟩
      have hJ:Hid (FlI E i1 l1 s1 F w (some p) L (j2+1) V2):=waa ⟨i2,l2,s2,F2,by rw[AP.each_next _ hb,AP.bind_done hd3];exact ho2,hI2,hg3.trans hg2 hu3.size,hu3.after hu2 hg3,⟨hR3.1,λhn=>by
       obtain⟨q,hq,hc⟩:=hR3.2 hn;injection hq with hq;subst hq;refine⟨p,rfl,λk u hk=>?_⟩;have hpb:(p.add k).block=p.block:=by cases k<;>rfl
       rw[hu2.cell (by rw[hpb];exact hX4.2) (by rw[hpb];exact hX4.1)];exact hc k u hk⟩,λq hq hn=>by
       injection hq with hq;subst hq;exact⟨qmi hg2 hX4.2 hX4.1,waw hX4.2 hu2.size⟩⟩
      clear hpost hI2 hg2 hu2 hd3 hg3 hu3 hR3 hX4 hb hwf hK hfl ho2;go_wp2_with fail;go_roundg (M2 - (j2+1))
      case measure=>omega
      case rel=>exact⟨j2+1,by go_num,wab _,Zo,hJ⟩
     ·have z3:¬(j2:Int)<(M2:Int):=Zo
      rw[wa2 (by rw[hlen2.out];omega)] at hd3;have hwn:qcr E.n E.nl E.who E.sp i3 l3 s3≠ .wild:=AP.tame_next (f:=λ_=>qcr E.n E.nl E.who) hw2.out hd3;have hfe:=waa (qri hA3 hwn);have hK:=waa (And.intro hd3 (And.intro hg3 (And.intro hu3 hwn)));clear hI hF0 hR3 hX3 hd3 hg3 hu3 hwn hA3;go_wp2_with fail;refine hfe.out.mono ?_;intro e V2 hpost;obtain⟨hd3,hg3,hu3,hwn⟩:=hK.out;rcases DP.Post.done (t:=qcr E.n E.nl E.who) hpost hwn with ⟨u2,i2,l2,s2,x2,F2,ho2,rfl,rfl,hI2,hg2,hu2⟩|⟨bl,l2,s2,F2,ho2,rfl,hO2,hg2,hu2⟩
      rotate_left
      ·exact⟨rfl,DP.Post.stopped (t:=(AP.each (qc7 E.n E.nl E.who) es).bind λ_=>(AP.each (qca E.n E.nl E.who) (qb4 (es.map (·.1)))).bind λ_=>qcr E.n E.nl E.who) (by rw[hob.out,AP.bind_done hd3];exact ho2) rfl hO2 (hg3.trans hg2 hu3.size) (hu3.after hu2 hg3)⟩
      have hfin:=waa (DP.Post.ended (t:=(AP.each (qc7 E.n E.nl E.who) es).bind λ_=>(AP.each (qca E.n E.nl E.who) (qb4 (es.map (·.1)))).bind λ_=>qcr E.n E.nl E.who) (R:=qdr) (a:=()) (v:= .tuple #[]) (by rw[hob.out,AP.bind_done hd3];exact ho2) rfl rfl hI2 (hg3.trans hg2 hu3.size) (hu3.after hu2 hg3));clear hpost hI2 hg2 hu2 ho2 hfe hK hd3 hg3 hu3 hwn;go_wp2_with fail;go_end0
      exact hfin.out
end
end Go.Proofs.YtocncmbeinmiaaaGreat
