/- Parts. No condition. -/
import Derived.Test.YtgjhkafggagniaaGreatJoinV31
set_option linter.unusedVariables false
set_option maxRecDepth 100000
set_option maxHeartbeats 8000000
namespace Go.Proofs.YtgjhkafggagniaaGreat
open Go Go.RowKit
theorem qra(r s n:Nat)(w:World)(h:qbp (r:Int) (s:Int) (n:Int)=true):Calls Tryz.prog 298 #[.agg #[.int .i64 (r:Int),.int .i64 (s:Int),.int .i64 (n:Int)]] w λe w'=>e= .returned (.tuple #[.int .u64 ((bW (r:Int) (s:Int) (n:Int):Nat):Int),.bool true])/\Below w.heap.size w w':=by
 have hb:=bmay_iff.1 h;have hW:bW (r:Int) (s:Int) (n:Int)=r+65536*s+16777216*n:=by have:=qhl h;omega
 have hj:=qrs (a:=r) (b:=s) (c:=n) Zo Zo Zo;rw[<-hW] at hj;clear hW;have hjn:∀(A0 A1:Option Addr) (V:World),Rd V A0 3 (i64V [16,8,8])->Rd V A1 3 (u64V [r,s,n])->Calls Tryz.prog 180 #[.slice A0 3 3,.slice A1 3 3] V λe w'=>e= .returned (.tuple #[.int .u64 ((bW (r:Int) (s:Int) (n:Int):Nat):Int),.bool true])/\Below V.heap.size V w':=λA0 A1 V h0 h1=>by
  have h:=qh7 A0 A1 3 3 [16,8,8] [r,s,n] V h0 h1 Zd Zs Zd (by intro x hx;simp at hx;omega);rw[hj] at h;exact h
 have hjn':=waa hjn;clear hj hjn;have hm:=λV=>qkr (r:Int) (s:Int) (n:Int) V
 rw[qw2 h] at hm;have hm':=waa hm;have hy:=λV=>qnf (r:Int) (s:Int) (n:Int) V
 rw[h] at hy;have hy':=waa hy;have k0:IntKind.u64.wrap (r:Int)=(r:Int):=by rw[wa4];omega
 have k1:IntKind.u64.wrap (s:Int)=(s:Int):=by rw[wa4];omega
 have k2:IntKind.u64.wrap (n:Int)=(n:Int):=by rw[wa4];omega
 generalize ((bW (r:Int) (s:Int) (n:Int):Nat):Int)=v at hjn' ⊢;clear hm hy h hb;have hB0:=qca w (r:Int) (s:Int) (n:Int);have hg:=Ob.new w (r:Int) (s:Int) (n:Int);go_enter Tryz.func298,Tryz.ntmps298;go_wp2_with fail;refine(hm'.out _).mono ?_;rintro e w1 ⟨rfl,hB⟩;have hg1:=hg.below hB hg.lt;have hB1:=hB0.trans (hB.mono hB0.size);obtain⟨c0,c1,c2,f⟩:=hg1.cells;clear hg hB0 hB hm';go_wp2_with fail;refine(hy'.out _).mono ?_;rintro e w2 ⟨rfl,hB⟩;have hg2:=hg1.below hB hg1.lt;have hB2:=hB1.trans (hB.mono hB1.size);obtain⟨d0,d1,d2,d3⟩:=hg2.cells;obtain⟨x0,x1,x2,x3⟩:=hg2.drew.cells;have hl2:=hg2.lt;clear hg1 hB1 hB hy' c0 c1 c2 f;go_wp2_with fail;go_region_held3 (λV=>V.cell? ⟨w.heap.size,0,none⟩=some (.int .i64 (r:Int))/\V.cell? ⟨w.heap.size,1,none⟩=some (.int .i64 (s:Int))/\V.cell? ⟨w.heap.size,2,none⟩=some (.int .i64 (n:Int)))
  (first|with_reducible exact⟨x0,x1,x2⟩|go_keep|with_reducible exact⟨y0,y1,y2⟩)
  (first
   |(go_at_call 183;refine(qfh _).mono ?_;rintro e w' ⟨rfl,rfl⟩)
   |(go_at_call 180
     first
      |refine(hjn'.out _ _ _ (qb9 (qd7 (qb3 Zr Zr Zs) _)) (qb9 (qb3 Zr Zr Zs))).mono ?_
      |refine(hjn'.out _ _ _ (qb9 (qb3 Zr Zr Zs)) (qb9 (qd7 (qb3 Zr Zr Zs) _))).mono ?_
     rintro e w3 ⟨rfl,hC⟩;have hBx:=(((wai w2.heap.size w2).alloc Zs _).alloc Zs _).drew.trans (hC.mono (by simp<;>omega));have hg3:=hg2.below hBx hl2;obtain⟨y0,y1,y2,y3⟩:=hg3.cells;have hB3:=hB2.trans (hBx.mono hB2.size)))
 all_goals
  go_wp2_with fail;go_ret2;exact⟨rfl,hB3⟩
theorem qur(r s n:Int)(w:World)(h:qbp r s n=true):Calls Tryz.prog 298 #[.agg #[.int .i64 r,.int .i64 s,.int .i64 n]] w λe w'=>e= .returned (.tuple #[.int .u64 ((bW r s n:Nat):Int),.bool true])/\Below w.heap.size w w':=by
 have hb:=bmay_iff.1 h;obtain⟨r',rfl⟩:=waq (a:=r) Zo;obtain⟨s',rfl⟩:=waq (a:=s) Zo;obtain⟨n',rfl⟩:=waq (a:=n) Zo;exact qra r' s' n' w h
theorem qyb{w:World}{A:Option Addr}{a b c:Nat}(h:Rd w A 3 (u64V [a,b,c])):∃p:Addr,A=some p/\w.cell? p=some (.int .u64 (a:Int))/\w.cell? ⟨p.block,p.off+1,none⟩=some (.int .u64 (b:Int))/\w.cell? ⟨p.block,p.off+2,none⟩=some (.int .u64 (c:Int)):=by
 obtain⟨p,rfl,hc⟩:=h.2 Zo;exact⟨p,rfl,hc 0 _ rfl,hc 1 _ rfl,hc 2 _ rfl⟩
theorem qta(x:Nat)(cls:Int)(w:World)(hx:x<18446744073709551616)(hb:¬x<4294967296):Calls Tryz.prog 147 #[.int .u64 (x:Int),.int .i64 cls] w λe w'=>qe2 x cls e/\Below w.heap.size w w':=by
 have hspl:=qjr hb;have hsp:∀(A:Option Addr) (V:World),Rd V A 3 (i64V [16,8,8])->Calls Tryz.prog 136 #[.slice A 3 3,.int .u64 (x:Int)] V λe w'=>e= .returned (.tuple #[.slice none 0 0,.bool false])/\Below V.heap.size V w':=λA V h0=>
  (qkt A 3 [16,8,8] x V h0 Zd Zd hx).mono λe w' ⟨h1,h2⟩=>⟨h1.isn hspl,h2⟩
 have hE:qe2 x cls (.returned (.tuple #[.agg #[.int .i64 0,.int .i64 0,.int .i64 0],.int .i64 11])):= .inr ⟨BHit.big hb,rfl⟩;have hEK:=keep hE;have hsp':=waa hsp;clear hsp hspl hE hb hx;have hg0:=Ob.new w 0 0 0;have hB0:=qca w 0 0 0;have hs0:=waa (show(w.alloc (.cells #[.int .i64 0,.int .i64 0,.int .i64 0] 75)).heap.size=w.heap.size+1 by simp);go_enter Tryz.func147,Tryz.ntmps147;go_wp2_with fail;refine(qfh _).mono ?_;rintro e w' ⟨rfl,rfl⟩;go_wp2_with fail;generalize (w.alloc (.cells #[.int .i64 0,.int .i64 0,.int .i64 0] 75))=W0 at hg0 hB0 hs0 ⊢;refine(hsp'.out _ _ (qb3 rfl Zr hs0.out)).mono ?_;rintro e w1 ⟨rfl,hB⟩;have hb1:=((wai W0.heap.size W0).alloc (wah _) (.cells #[.int .i64 16,.int .i64 8,.int .i64 8] 3)).trans (hB.mono Zs);have hB1:=hB0.trans (hb1.mono hB0.size);have hg1:=hg0.below hb1 hg0.lt;obtain⟨c0,c1,c2,f⟩:=hg1.cells;clear hB hb1 hB0 hg0 hsp' hs0;go_wp2_with fail;exact bodyPost_ret (v:= .tuple #[.agg #[.int .i64 0,.int .i64 0,.int .i64 0],.int .i64 11]) (by simp[results,Tryz.results147,go_sem,c0,c1,c2]) rfl ⟨hEK.out,Ob.below_set hB1 (wah _)⟩
theorem qyj(x a b c:Nat)(cls q:Int)(z m:Bool)(R:Ending->Prop)(w:World)(ha:a<65536)(hb:b<256)(hc:c<256)(hsp:Hid (∀(A:Option Addr) (V:World),Rd V A 3 (i64V [16,8,8])->Calls Tryz.prog 136 #[.slice A 3 3,.int .u64 (x:Int)] V λe w'=>(∃B d,e= .returned (.tuple #[.slice B 3 d,.bool true])/\Rd w' B 3 (u64V [a,b,c]))/\Below V.heap.size V w'))(hz:Hid (∀V,Calls Tryz.prog 184 #[.agg #[.int .i64 (a:Int),.int .i64 (b:Int),.int .i64 (c:Int)]] V λe w'=>e= .returned (.bool z)/\Below V.heap.size V w'))(hm:Hid (∀V,Calls Tryz.prog 185 #[.agg #[.int .i64 (a:Int),.int .i64 (b:Int),.int .i64 (c:Int)]] V λe w'=>e= .returned (.bool m)/\Below V.heap.size V w'))(hq:Hid (∀V,Calls Tryz.prog 186 #[.int .i64 (c:Int)] V λe w'=>e= .returned (.int .i64 q)/\V=w'))(yes:z=true\/(m=true/\q=cls)->Keep (R (.returned (.tuple #[.agg #[.int .i64 (a:Int),.int .i64 (b:Int),.int .i64 (c:Int)],.int .i64 0]))))(no:z=false->(m=false\/q≠cls)->Keep (R (.returned (.tuple #[.agg #[.int .i64 0,.int .i64 0,.int .i64 0],.int .i64 11])))):
  Calls Tryz.prog 147 #[.int .u64 (x:Int),.int .i64 cls] w λe w'=>R e/\Below w.heap.size w w':=by
 have yes':=keep yes;have no':=keep no;clear yes no;have ka:IntKind.i64.wrap (a:Int)=(a:Int):=wap _ Zo;have kb:IntKind.i64.wrap (b:Int)=(b:Int):=wap _ Zo;have kc:IntKind.i64.wrap (c:Int)=(c:Int):=wap _ Zo;have hg0:=Ob.new w 0 0 0;have hB0:=qca w 0 0 0;have hs0:=waa (show(w.alloc (.cells #[.int .i64 0,.int .i64 0,.int .i64 0] 75)).heap.size=w.heap.size+1 by simp);go_enter Tryz.func147,Tryz.ntmps147;go_wp2_with fail;refine(qfh _).mono ?_;rintro e w' ⟨rfl,rfl⟩;go_wp2_with fail;generalize (w.alloc (.cells #[.int .i64 0,.int .i64 0,.int .i64 0] 75))=W0 at hg0 hB0 hs0 ⊢;refine(hsp.out _ _ (qb3 rfl Zr hs0.out)).mono ?_;rintro e w1 ⟨⟨B,d,rfl,hrd⟩,hB⟩;obtain⟨p,rfl,r0,r1,r2⟩:=qyb hrd;have hb1:=((wai W0.heap.size W0).alloc (wah _) (.cells #[.int .i64 16,.int .i64 8,.int .i64 8] 3)).trans (hB.mono Zs);have hB1:=hB0.trans (hb1.mono hB0.size);have hg1:=hg0.below hb1 hg0.lt;clear hB hb1 hB0 hg0 hsp hrd hs0;go_wp2_with fail;have hl1:p.block<w1.heap.size:=wal w1 _ r0;have hn1:¬p.block=w1.heap.size:=Zo
 obtain⟨d0,d1,d2⟩:w1.drew.cell? p=some (.int .u64 (a:Int))/\w1.drew.cell? ⟨p.block,p.off+1,none⟩=some (.int .u64 (b:Int))/\w1.drew.cell? ⟨p.block,p.off+2,none⟩=some (.int .u64 (c:Int)):=⟨r0,r1,r2⟩
 go_region_held3 (λV=>V.cell? p=some (.int .u64 (a:Int))/\V.cell? ⟨p.block,p.off+1,none⟩=some (.int .u64 (b:Int))/\V.cell? ⟨p.block,p.off+2,none⟩=some (.int .u64 (c:Int)))
  (first|with_reducible exact⟨d0,d1,d2⟩|go_keep)
  (fail)
 rename_i hHeld
 have hg2:Ob (w1.alloc (.cells #[.int .i64 (a:Int),.int .i64 (b:Int),.int .i64 (c:Int)] 75)).drew w.heap.size 0 0 0:=hg1.more _;have hh2:Ob (w1.alloc (.cells #[.int .i64 (a:Int),.int .i64 (b:Int),.int .i64 (c:Int)] 75)).drew w1.heap.size (a:Int) (b:Int) (c:Int):=Ob.new w1 _ _ _;have hB2:Below w.heap.size w (w1.alloc (.cells #[.int .i64 (a:Int),.int .i64 (b:Int),.int .i64 (c:Int)] 75)).drew:=(hB1.alloc hB1.size _).drew;clear hHeld d0 d1 d2 r0 r1 r2 hn1 hl1 hg1 hB1;generalize (w1.alloc (.cells #[.int .i64 (a:Int),.int .i64 (b:Int),.int .i64 (c:Int)] 75)).drew=W2 at hg2 hh2 hB2 ⊢;obtain⟨x0,x1,x2,x3⟩:=hh2.cells;go_wp2_with fail;refine(hz.out _).mono ?_;rintro e w3 ⟨rfl,hC⟩;have hg3:=hg2.below hC hg2.lt;have hh3:=hh2.below hC hh2.lt;have hB3:=hB2.trans (hC.mono hB2.size);obtain⟨c0,c1,c2,f⟩:=hg3.cells;obtain⟨y0,y1,y2,y3⟩:=hh3.cells;clear hg2 hh2 hB2 hC x0 x1 x2 x3 hz;cases z with
 |true=>
  have hE:=yes'.out (.inl rfl);clear yes' no';go_wp2_with fail;exact bodyPost_ret (v:= .tuple #[.agg #[.int .i64 (a:Int),.int .i64 (b:Int),.int .i64 (c:Int)],.int .i64 0]) (by simp[results,Tryz.results147,go_sem,c0,c1,c2]) rfl ⟨hE.out,Ob.below_set hB3 (wah _)⟩
 |false=>
  have noX:=keep (no'.out rfl);have yesX:=keep (λ(h1:m=true) (h2:q=cls)=>yes'.out (.inr ⟨h1,h2⟩));clear yes' no';go_wp2_with fail;refine(hm.out _).mono ?_;rintro e w4 ⟨rfl,hC⟩;have hg4:=hg3.below hC hg3.lt;have hh4:=hh3.below hC hh3.lt;have hB4:=hB3.trans (hC.mono hB3.size);clear c0 c1 c2 f y0 y1 y2 y3 hg3 hh3 hB3 hC hm;obtain⟨c0,c1,c2,f⟩:=hg4.cells;obtain⟨y0,y1,y2,y3⟩:=hh4.cells;cases m with
  |false=>
   have hE:=noX.out (.inl rfl);clear yesX noX;go_wp2_with fail;exact bodyPost_ret (v:= .tuple #[.agg #[.int .i64 0,.int .i64 0,.int .i64 0],.int .i64 11]) (by simp[results,Tryz.results147,go_sem,c0,c1,c2]) rfl ⟨hE.out,Ob.below_set hB4 (wah _)⟩
  |true=>
   by_cases hqc:q=cls
   ·have hE:=yesX.out rfl hqc
    have hne:(q !=cls)=false:=by rw[hqc];simp
    clear yesX noX hqc;go_wp2_with fail;refine(hq.out _).mono ?_;rintro e w5 ⟨rfl,rfl⟩;go_wp2_with fail;exact bodyPost_ret (v:= .tuple #[.agg #[.int .i64 (a:Int),.int .i64 (b:Int),.int .i64 (c:Int)],.int .i64 0]) (by simp[results,Tryz.results147,go_sem,c0,c1,c2]) rfl ⟨hE.out,Ob.below_set hB4 (wah _)⟩
   ·have hE:=noX.out (.inr hqc)
    have hne:(q !=cls)=true:=bne_iff_ne.2 hqc;clear yesX noX hqc;go_wp2_with fail;refine(hq.out _).mono ?_;rintro e w5 ⟨rfl,rfl⟩;go_wp2_with fail;exact bodyPost_ret (v:= .tuple #[.agg #[.int .i64 0,.int .i64 0,.int .i64 0],.int .i64 11]) (by simp[results,Tryz.results147,go_sem,c0,c1,c2]) rfl ⟨hE.out,Ob.below_set hB4 (wah _)⟩
theorem qvs(x:Nat)(cls:Int)(w:World)(hx:x<18446744073709551616):Calls Tryz.prog 147 #[.int .u64 (x:Int),.int .i64 cls] w λe w'=>qe2 x cls e/\Below w.heap.size w w':=by
 by_cases hb:x<4294967296
 ·have hspl:=qn0 hb
  have hf:=BHit.fields (c:=cls) hb;have hno:=BHit.no (x:=x) (c:=cls);have hfz:=qny hb;have hyes:∀(z m:Bool) (q:Int),qcu ((x%65536:Nat):Int) ((x/65536%256:Nat):Int) ((x/16777216%256:Nat):Int)=z->qbp ((x%65536:Nat):Int) ((x/65536%256:Nat):Int) ((x/16777216%256:Nat):Int)=m->clN ((x/16777216%256:Nat):Int)=q->z=true\/(m=true/\q=cls)->qe2 x cls (.returned (.tuple #[.agg #[.int .i64 ((x%65536:Nat):Int),.int .i64 ((x/65536%256:Nat):Int),.int .i64 ((x/16777216%256:Nat):Int)],.int .i64 0])):=by
   intro z m q h1 h2 h3 h;refine .inl ⟨_,_,_,?_,rfl⟩;rcases h with h|⟨h,h'⟩
   ·exact .inl ⟨hfz (h1.trans h),h1.trans h⟩
   ·exact hf (h2.trans h) (h3.trans h')
  have hnot:∀(z m:Bool) (q:Int),qcu ((x%65536:Nat):Int) ((x/65536%256:Nat):Int) ((x/16777216%256:Nat):Int)=z->qbp ((x%65536:Nat):Int) ((x/65536%256:Nat):Int) ((x/16777216%256:Nat):Int)=m->clN ((x/16777216%256:Nat):Int)=q->z=false->(m=false\/q≠cls)->qe2 x cls (.returned (.tuple #[.agg #[.int .i64 0,.int .i64 0,.int .i64 0],.int .i64 11])):=by
   intro z m q h1 h2 h3 h h';refine .inr ⟨hno (BHit.nofields (h1.trans h) ?_),rfl⟩;rw[h2,h3];exact h'
  have ha:x%65536<65536:=wbz _ Zo;have hb2:x/65536%256<256:=wbz _ Zo;have hc:x/16777216%256<256:=wbz _ Zo;exact qyj x (x%65536) (x/65536%256) (x/16777216%256) cls _ _ _ (qe2 x cls) w ha hb2 hc
   (waa λA V h0=>(qkt A 3 [16,8,8] x V h0 Zd Zd hx).mono λe w' ⟨h1,h2⟩=>by
    obtain⟨B,d,e1,e2⟩:=h1.is hspl;exact⟨⟨B,d,e1,e2⟩,h2⟩)
   (waa λV=>qkr _ _ _ V) (waa λV=>qnf _ _ _ V) (waa λV=>(qg9 _ V).mono λe w' h=>h)
   (λh=>keep (hyes _ _ _ rfl rfl rfl h)) (λh h'=>keep (hnot _ _ _ rfl rfl rfl h h'))
 ·exact qta x cls w hx hb
end Go.Proofs.YtgjhkafggagniaaGreat
