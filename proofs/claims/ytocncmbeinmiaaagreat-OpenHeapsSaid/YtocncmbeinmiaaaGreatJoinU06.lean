/- Parts. No condition. -/
import Derived.Test.YtocncmbeinmiaaaGreatJoinU05
set_option linter.unusedVariables false
set_option maxRecDepth 100000
set_option maxHeartbeats 8000000
namespace Go.Proofs.YtocncmbeinmiaaaGreat
open Go Go.RowKit
theorem qpb(x:Nat)(hx:x<18446744073709551616)(A:Option Addr)(V:World)(h:Rd V A 3 (i64V [16,16,16])):Calls Tryz.prog 169 #[.slice A 3 3,.int .u64 (x:Int)] V λe w'=>SplitR (qdg x [16,16,16]) e w'/\Below V.heap.size V w':=
 qhq A 3 [16,16,16] x V h Zd Zd hx
def Geo(V:World)(b:Nat)(s l r:Int):Prop:=V.heap[b]? =some (.cells #[.int .i64 s,.int .i64 l,.int .i64 r] 23 (0,0))
theorem Geo.below{V V':World}{b B:Nat}{s l r:Int}(h:Geo V b s l r)(hb:Below B V V')(hB:b<B):Geo V' b s l r:=(hb.block b hB).trans h
theorem Geo.lt{V:World}{b:Nat}{s l r:Int}(h:Geo V b s l r):b<V.heap.size:=(wal.1 h).1
theorem Geo.cells{V:World}{b:Nat}{s l r:Int}(h:Geo V b s l r):V.cell? ⟨b,0,none⟩=some (.int .i64 s)/\V.cell? ⟨b,1,none⟩=some (.int .i64 l)/\V.cell? ⟨b,2,none⟩=some (.int .i64 r)/\(∀o,V.frozen? ⟨b,o,none⟩=false):=
 ⟨by rw[qaa h];rfl,by rw[qaa h];rfl,by rw[qaa h];rfl,λo=>qaj h o⟩
theorem Geo.new(W:World)(s l r:Int):Geo (W.alloc (.cells #[.int .i64 s,.int .i64 l,.int .i64 r] 23)) W.heap.size s l r:=World.alloc_heap_new W _
theorem Geo.set{V:World}{b:Nat}{s l r s' l' r':Int}(h:Geo V b s l r):Geo (((V.setCell ⟨b,0,none⟩ (.int .i64 s')).setCell ⟨b,1,none⟩ (.int .i64 l')).setCell ⟨b,2,none⟩ (.int .i64 r')) b s' l' r':=by
 have h1:=qah h 0 (.int .i64 s');have h2:=qah h1 1 (.int .i64 l');exact qah h2 2 (.int .i64 r')
theorem qyc(x:Nat)(w:World)(hx:x<18446744073709551616)(h:¬x/281474976710656=0):Calls Tryz.prog 126 #[.int .u64 (x:Int)] w λe w'=>e= .returned (.agg #[.int .i64 0,.int .i64 0,.int .i64 0])/\Below w.heap.size w w':=by
 have hsp:∀(A:Option Addr) (V:World),Rd V A 3 (i64V [16,16,16])->Calls Tryz.prog 169 #[.slice A 3 3,.int .u64 (x:Int)] V λe w'=>e= .returned (.tuple #[.slice none 0 0,.bool false])/\Below V.heap.size V w':=λA V h0=>
  (qpb x hx A V h0).mono λe w' ⟨h1,h2⟩=>⟨h1.isn (q68 h),h2⟩
 clear h hx;have hg0:=Geo.new w 0 0 0;have hB0:=qeq w 0 0 0;go_enter Tryz.func126,Tryz.ntmps126;go_wp2_with fail;refine(qjc _).mono ?_;rintro e w' ⟨rfl,rfl⟩;go_wp2_with fail;have hs0:(w.alloc (.cells #[.int .i64 0,.int .i64 0,.int .i64 0] 23)).heap.size=w.heap.size+1:=by simp
 generalize (w.alloc (.cells #[.int .i64 0,.int .i64 0,.int .i64 0] 23))=W0 at hg0 hB0 hs0 ⊢;refine(hsp _ _ (qbv rfl Zr hs0)).mono ?_;rintro e w1 ⟨rfl,hB⟩;have hb1:=((wac W0.heap.size W0).alloc (wab _) (.cells #[.int .i64 16,.int .i64 16,.int .i64 16] 3)).trans (hB.mono Zs);have hB1:=hB0.trans (hb1.mono hB0.size);have hg1:=hg0.below hb1 hg0.lt;obtain⟨c0,c1,c2,f⟩:=hg1.cells;clear hB hb1 hB0 hg0 hsp hs0;go_wp2_with fail;exact bodyPost_ret (v:= .agg #[.int .i64 0,.int .i64 0,.int .i64 0]) (by simp[results,Tryz.results126,go_sem,c0,c1,c2]) rfl ⟨rfl,by(iterate 3 refine wa7 ?_ (by exact wab _) _);exact hB1⟩
theorem q2p{w:World}{A:Option Addr}{a b c:Nat}(h:Rd w A 3 (u64V [a,b,c])):∃p:Addr,A=some p/\w.cell? p=some (.int .u64 (a:Int))/\w.cell? ⟨p.block,p.off+1,none⟩=some (.int .u64 (b:Int))/\w.cell? ⟨p.block,p.off+2,none⟩=some (.int .u64 (c:Int)):=by
 obtain⟨p,rfl,hc⟩:=h.2 Zo;exact⟨p,rfl,hc 0 _ rfl,hc 1 _ rfl,hc 2 _ rfl⟩
theorem quq(x:Nat)(w:World)(hx:x<18446744073709551616)(h:x/281474976710656=0):Calls Tryz.prog 126 #[.int .u64 (x:Int)] w λe w'=>e= .returned (.agg #[.int .i64 (cntS x),.int .i64 (cntL x),.int .i64 (cntR x)])/\Below w.heap.size w w':=by
 obtain⟨a,ha⟩:∃a:Nat,a=x%65536:=⟨_,rfl⟩
 obtain⟨b,hb⟩:∃b:Nat,b=x/65536%65536:=⟨_,rfl⟩
 obtain⟨c,hc⟩:∃c:Nat,c=x/4294967296%65536:=⟨_,rfl⟩
 have hsp:∀(A:Option Addr) (V:World),Rd V A 3 (i64V [16,16,16])->Calls Tryz.prog 169 #[.slice A 3 3,.int .u64 (x:Int)] V λe w'=>(∃B d,e= .returned (.tuple #[.slice B 3 d,.bool true])/\Rd w' B 3 (u64V [a,b,c]))/\Below V.heap.size V w':=λA V h0=>
  (qpb x hx A V h0).mono λe w' ⟨h1,h2⟩=>by
   obtain⟨B,d,e1,e2⟩:=h1.is (q5j h);rw[<-ha,<-hb,<-hc] at e2;exact⟨⟨B,d,e1,e2⟩,h2⟩
 rw[show cntS x=(a:Int) by rw[ha];exact if_pos h,show cntL x=(b:Int) by rw[hb];exact if_pos h,show cntR x=(c:Int) by rw[hc];exact if_pos h];have ha2:a<65536:=Zo
 have hb2:b<65536:=Zo
 have hc2:c<65536:=Zo
 have ka:IntKind.i64.wrap (a:Int)=(a:Int):=wao _ Zo;have kb:IntKind.i64.wrap (b:Int)=(b:Int):=wao _ Zo;have kc:IntKind.i64.wrap (c:Int)=(c:Int):=wao _ Zo;clear h hx ha hb hc;have hg0:=Geo.new w 0 0 0;have hB0:=qeq w 0 0 0;go_enter Tryz.func126,Tryz.ntmps126;go_wp2_with fail;refine(qjc _).mono ?_;rintro e w' ⟨rfl,rfl⟩;go_wp2_with fail;have hs0:(w.alloc (.cells #[.int .i64 0,.int .i64 0,.int .i64 0] 23)).heap.size=w.heap.size+1:=by simp
 generalize (w.alloc (.cells #[.int .i64 0,.int .i64 0,.int .i64 0] 23))=W0 at hg0 hB0 hs0 ⊢;refine(hsp _ _ (qbv rfl Zr hs0)).mono ?_;rintro e w1 ⟨⟨B,d,rfl,hrd⟩,hB⟩;obtain⟨p,rfl,r0,r1,r2⟩:=q2p hrd;have hb1:=((wac W0.heap.size W0).alloc (wab _) (.cells #[.int .i64 16,.int .i64 16,.int .i64 16] 3)).trans (hB.mono Zs);have hB1:=hB0.trans (hb1.mono hB0.size);have hg1:=hg0.below hb1 hg0.lt;obtain⟨c0,c1,c2,f⟩:=hg1.cells;clear hB hb1 hB0 hg0 hsp hrd hs0;go_wp2_with fail;go_still_tail 13,Zk
 change wpList _ _ _ _ _ (World.drew _);go_wp2_with fail;exact bodyPost_ret (v:= .agg #[.int .i64 (a:Int),.int .i64 (b:Int),.int .i64 (c:Int)]) (by simp[results,Tryz.results126,go_sem,c0,c1,c2]) rfl ⟨rfl,by refine Below.drew ?_;(iterate 3 refine wa7 ?_ (by exact wab _) _);exact hB1⟩
theorem qu4(x:Nat)(w:World)(hx:x<18446744073709551616):Calls Tryz.prog 126 #[.int .u64 (x:Int)] w λe w'=>e= .returned (.agg #[.int .i64 (cntS x),.int .i64 (cntL x),.int .i64 (cntR x)])/\Below w.heap.size w w':=by
 by_cases h:x/281474976710656=0
 ·exact quq x w hx h
 ·rw[show cntS x=0 from if_neg h,show cntL x=0 from if_neg h,show cntR x=0 from if_neg h]
  exact qyc x w hx h
def askC(bw bg:Nat):Array Value:=#[.func (.func 124) #[] #[.pointer (some ⟨bw,0,none⟩)],.func (.func 125) #[] #[.pointer (some ⟨bw,0,none⟩),.pointer (some ⟨bg,0,none⟩)],.func (.func 127) #[] #[.pointer (some ⟨bw,0,none⟩),.pointer (some ⟨bg,0,none⟩)],.func (.func 130) #[] #[.pointer (some ⟨bw,0,none⟩),.pointer (some ⟨bg,0,none⟩)]]
def AskL(V:World)(bl bw bg:Nat):Prop:=V.heap[bl]? =some (.cells (askC bw bg) 31 (0,0))/\bl≠bg
theorem AskL.lt{V:World}{bl bw bg:Nat}(h:AskL V bl bw bg):bl<V.heap.size:=(wal.1 h.1).1
def Asks(w0 V:World)(bl bw bg:Nat)(A:Option Addr)(c:Nat)(ws:List Nat)(s l r:Int):Prop:=
 Boxed V bw 40 (.slice A ws.length c)/\Geo V bg s l r/\Below w0.heap.size w0 V/\w0.heap.size<=bg/\Rd w0 A ws.length (u64V ws)/\bw≠bg/\AskL V bl bw bg
theorem Asks.below{w0 V V':World}{bl bw bg:Nat}{A:Option Addr}{c:Nat}{ws:List Nat}{s l r:Int}(h:Asks w0 V bl bw bg A c ws s l r)(hb:Below V.heap.size V V'):Asks w0 V' bl bw bg A c ws s l r:=
 ⟨(hb.block bw h.1.lt).trans h.1,h.2.1.below hb h.2.1.lt,h.2.2.1.trans (hb.mono h.2.2.1.size),h.2.2.2.1,h.2.2.2.2.1,h.2.2.2.2.2.1,(hb.block bl h.2.2.2.2.2.2.lt).trans h.2.2.2.2.2.2.1,h.2.2.2.2.2.2.2⟩
theorem Asks.rd{w0 V:World}{bl bw bg:Nat}{A:Option Addr}{c:Nat}{ws:List Nat}{s l r:Int}(h:Asks w0 V bl bw bg A c ws s l r):Rd V A ws.length (u64V ws):=h.2.2.2.2.1.below h.2.2.1
theorem Asks.drewN{w0 V:World}{bl bw bg:Nat}{A:Option Addr}{c:Nat}{ws:List Nat}{s l r:Int}(h:Asks w0 V bl bw bg A c ws s l r)(t:Nat):Asks w0 (V.drewN t) bl bw bg A c ws s l r:=
 ⟨qf3 h.1 t,h.2.1,qad h.2.2.1 t,h.2.2.2⟩
theorem Asks.drew{w0 V:World}{bl bw bg:Nat}{A:Option Addr}{c:Nat}{ws:List Nat}{s l r:Int}(h:Asks w0 V bl bw bg A c ws s l r):Asks w0 V.drew bl bw bg A c ws s l r:=⟨h.1,h.2.1,h.2.2.1.drew,h.2.2.2⟩
theorem Asks.set{w0 V:World}{bl bw bg:Nat}{A:Option Addr}{c:Nat}{ws:List Nat}{s l r s' l' r':Int}(h:Asks w0 V bl bw bg A c ws s l r):Asks w0 (((V.setCell ⟨bg,0,none⟩ (.int .i64 s')).setCell ⟨bg,1,none⟩ (.int .i64 l')).setCell ⟨bg,2,none⟩ (.int .i64 r')) bl bw bg A c ws s' l' r':=by
 obtain⟨h1,h2,h3,h4,h5,h6,h7,h8⟩:=h;refine⟨?_,h2.set,((h3.setCell (p:=⟨bg,0,none⟩) h4 _).setCell (p:=⟨bg,1,none⟩) h4 _).setCell (p:=⟨bg,2,none⟩) h4 _,h4,h5,h6,(wat _ _ _ _ h8).trans ((wat _ _ _ _ h8).trans ((wat _ _ _ _ h8).trans h7)),h8⟩;exact(wat _ _ _ _ h6).trans ((wat _ _ _ _ h6).trans ((wat _ _ _ _ h6).trans h1))
section
variable {w0 V:World} {bl bw bg:Nat} {A:Option Addr} {c:Nat} {ws:List Nat} {s l r:Int}
theorem q55(h:Asks w0 V bl bw bg A c ws s l r):Calls Tryz.prog 124 #[.pointer (some ⟨bw,0,none⟩)] V λe w'=>e= .returned (.bool (decide (8<=ws.length)))/\V=w':=by
 have hc:=h.1.cell;go_enter Tryz.func124,Tryz.ntmps124;go_wp2_with fail;go_ret;exact⟨qab (by rw[wb8];simp;omega),rfl⟩
theorem quh(h:Asks w0 V bl bw bg A c ws s l r)(h8:8<=ws.length)(hl:ws.length<=9223372036854775807)(hw:∀x∈ws,x<18446744073709551616):Calls Tryz.prog 125 #[.pointer (some ⟨bw,0,none⟩),.pointer (some ⟨bg,0,none⟩)] V λe w'=>
  e= .returned (.bool (mayB (cntS (ws.getD 2 0)) (cntL (ws.getD 2 0)) (cntR (ws.getD 2 0))))/\Asks w0 w' bl bw bg A c ws (cntS (ws.getD 2 0)) (cntL (ws.getD 2 0)) (cntR (ws.getD 2 0)):=by
 have hc:=h.1.cell;obtain⟨p,x,rfl,hd,hx,hcx⟩:=h.rd.u64_at (k:=2) Zo
 have hx2:ws.getD 2 0=x:=by
  have:=wbc (show 2<ws.length by omega)
  rw[hd] at this;injection this with h1 _;rw[h1,wax,waj (show 2<ws.length by omega)];rfl
 rw[hx2];have hcx:V.cell? ⟨p.block,p.off+2,none⟩=some (.int .u64 (x:Int)):=hcx;have hxl:=hw x hx;have hz:(2:Int)<(ws.length:Int):=Zo
 clear hd hx hx2 h8 hw;go_enter Tryz.func125,Tryz.ntmps125;go_wp2_with fail;refine(qu4 x _ hxl).mono ?_;rintro e w1 ⟨rfl,hB⟩;have h1:=h.below hB;obtain⟨c0,c1,c2,f⟩:=h1.2.1.cells;have h2:=h1.set (s':=cntS x) (l':=cntL x) (r':=cntR x);obtain⟨d0,d1,d2,g⟩:=h2.2.1.cells;go_wp2_with fail;refine(qd7 _ _ _ _).mono ?_;rintro e w2 ⟨rfl,hC⟩;have h3:=h2.below hC;clear h h1 h2 hB hC c0 c1 c2 f d0 d1 d2 g hc;go_wp2_with fail;go_ret;exact⟨rfl,h3⟩
theorem qaaw{A B:Option Addr}{c d m:Nat}{k l:List Nat}{w:World}(hr:Rd w A m (u64V k))(hs:Rd w B l.length (u64V l))(hk:k.length=m)(hm:l.length=m)(hb:m<=9223372036854775807):
  Calls Tryz.prog 128 #[.slice A m c,.slice B l.length d] w (Same k l w):=by
 subst hk;exact qp8 A B c d k l w hr hs hb Zo
theorem qtg(h:Asks w0 V bl bw bg A c ws s l r)(h8:8<=ws.length)(hcap:ws.length<=c)(hm:mayB s l r=true):Calls Tryz.prog 127 #[.pointer (some ⟨bw,0,none⟩),.pointer (some ⟨bg,0,none⟩)] V λe w'=>
  e= .returned (.bool (decide (ws.take 8=supL s l r)))/\Asks w0 w' bl bw bg A c ws s l r:=by
 have hc:=h.1.cell;obtain⟨c0,c1,c2,f⟩:=h.2.1.cells;have hr8:Rd V A 8 (u64V (ws.take 8)):=by
  have hr:=h.rd;refine⟨by rw[qai,war];omega,λ_=>?_⟩;obtain⟨p,e,hp⟩:=hr.2 Zo;refine⟨p,e,λj u hu=>hp j u ?_⟩;have hj:j<8:=by have:=(wan.1 hu).1;rw[qai,war] at this;omega
  rw[<-hu];simp[u64V,hj]
 have hz:(8:Int)<=(c:Int):=Zo
 have hd:=h.drew;have hc:=hd.1.cell;obtain⟨c0,c1,c2,f⟩:=hd.2.1.cells;have hq:=λW=>q2i s l r W
 rw[qi3 hm] at hq;have hl8:(ws.take 8).length=8:=by rw[war];omega
 clear h8 hm;go_enter Tryz.func127,Tryz.ntmps127;go_wp2_with fail;go_region_held3 (λV=>V.cell? ⟨bw,0,none⟩=some (.slice A ws.length c)/\V.cell? ⟨bg,0,none⟩=some (.int .i64 s)/\V.cell? ⟨bg,1,none⟩=some (.int .i64 l)/\V.cell? ⟨bg,2,none⟩=some (.int .i64 r))
  (first|with_reducible exact⟨hc,c0,c1,c2⟩|with_reducible exact⟨hy,y0,y1,y2⟩)
  (first
   |(go_at_call 129;refine(hq _).mono ?_;rintro e w1 ⟨v,rfl,⟨B,d,rfl,hR⟩,hB⟩;have h1:=hd.below hB;have hr1:Rd w1 A 8 (u64V (ws.take 8)):=Rd.below (w:=V.drew) hr8 hB;have hy:=h1.1.cell;obtain⟨y0,y1,y2,y3⟩:=h1.2.1.cells)
   |(go_at_call 128;refine(qaaw hr1 hR hl8 (qco s l r) Zo).mono ?_;rintro e w2 ⟨rfl,t,rfl⟩;have h2:=h1.drewN t;have hy:=h2.1.cell;obtain⟨y0,y1,y2,y3⟩:=h2.2.1.cells))
 all_goals
  go_wp2_with fail;go_ret;exact⟨rfl,h2⟩
theorem qtd(h:Asks w0 V bl bw bg A c ws s l r):Calls Tryz.prog 130 #[.pointer (some ⟨bw,0,none⟩),.pointer (some ⟨bg,0,none⟩)] V λe w'=>
  e= .returned (.bool (decide ((ws.length:Int)=totN s l r)))/\Asks w0 w' bl bw bg A c ws s l r:=by
 have hc:=h.1.cell;obtain⟨c0,c1,c2,f⟩:=h.2.1.cells;have hd:=h.drew;have hc:=hd.1.cell;obtain⟨c0,c1,c2,f⟩:=hd.2.1.cells;go_enter Tryz.func130,Tryz.ntmps130;go_wp2_with fail;go_region_held3 (λV=>V.cell? ⟨bw,0,none⟩=some (.slice A ws.length c)/\V.cell? ⟨bg,0,none⟩=some (.int .i64 s)/\V.cell? ⟨bg,1,none⟩=some (.int .i64 l)/\V.cell? ⟨bg,2,none⟩=some (.int .i64 r))
  (first|with_reducible exact⟨hc,c0,c1,c2⟩|with_reducible exact⟨hy,y0,y1,y2⟩)
  (first|(go_at_call 131;refine(qje s l r _).mono ?_;rintro e w1 ⟨rfl,hB⟩;have h1:=hd.below hB;have hy:=h1.1.cell;obtain⟨y0,y1,y2,y3⟩:=h1.2.1.cells))
 all_goals
  go_wp2_with fail;go_ret;exact⟨qab (by rw[wb8];simp),h1⟩
end
def After(ws:List Nat)(s l r:Int):Prop:=∀s' l' r',Hit ws s' l' r'->s<s'\/s=s'/\(l<l'\/l=l'/\r<=r')
theorem qvo(ws:List Nat):After ws 1 1 1:=λs' l' r' h=>by have:=qcc h.1;omega
theorem After.next{ws:List Nat}{s l r:Int}(h:After ws s l r)(hn:¬Hit ws s l r):After ws s l (r+1):=λs' l' r' hh=>by
 have:=h s' l' r' hh
 by_cases e:s=s'/\l=l'/\r=r'
 ·obtain⟨rfl,rfl,rfl⟩:=e;exact absurd hh hn
 ·omega
theorem After.lane{ws:List Nat}{s l r:Int}(h:After ws s l r)(hr:8<r):After ws s (l+1) 1:=λs' l' r' hh=>by
 have:=h s' l' r' hh
 have:=qcc hh.1
 omega
theorem After.span{ws:List Nat}{s l:Int}(h:After ws s l 1)(hl:4<l):After ws (s+1) 1 1:=λs' l' r' hh=>by
 have:=h s' l' r' hh
 have:=qcc hh.1
 omega
theorem After.none{ws:List Nat}{s:Int}(h:After ws s 1 1)(hs:16<s):∀s l r,¬Hit ws s l r:=λs' l' r' hh=>by
 have:=h s' l' r' hh
 have:=qcc hh.1
 omega
theorem q5g{ws l:List Nat}{i x y:Nat}{b:Bool}(h1:i<ws.length)(h2:i<l.length)(hd:ws.drop i=x::ws.drop (i+1))(hd2:l.drop i=y::l.drop (i+1))(hb:b=decide (ws.take i=l.take i)):
  (b&&((y:Int)==(x:Int)))=decide (ws.take (i+1)=l.take (i+1)):=by
 have e1:ws[i]=x:=by have:=wbc h1;rw[hd] at this;injection this with h _;exact h.symm
 have e2:l[i]=y:=by have:=wbc h2;rw[hd2] at this;injection this with h _;exact h.symm
 rw[wg0 h1,wg0 h2,e1,e2,hb,wb8];simp only[wce,decide_eq_true_eq,beq_iff_eq];constructor
 ·rintro⟨h,e⟩
  rw[h,show x=y by omega]
 ·intro h
  have:=List.append_inj h (by rw[war,war];omega)
  refine⟨this.1,?_⟩;have h3:=this.2;injection h3 with h3 _;omega
theorem qea(A:Option Addr)(c:Nat)(ws:List Nat)(w:World)(hr:Rd w A ws.length (u64V ws))(hl:ws.length<=9223372036854775807):
  Calls Tryz.prog 56 #[.slice A ws.length c] w λe w'=>RSupE ws e/\Below w.heap.size w w':=by
 have hg0:=Geo.new w 0 0 0;have hB0:=qeq w 0 0 0;go_enter Tryz.func56,Tryz.ntmps56;go_wp2_with fail;go_loopw [4,5,6,7,8,9,10] (λq _ _ _ _ _ _ wr=>∃(W:World) (s:Nat),W=wr/\1<=s/\s<=17/\q= .int .i64 (s:Int)/\Keep (After ws (s:Int) 1 1)/\Geo W w.heap.size 0 0 0/\Below w.heap.size w W) (λq _ _ _ _ _ _ _=>17 - (intOf q).toNat)
 case atStart=>exact⟨_,1,rfl,Zo,Zo,rfl,keep (qvo ws),hg0,hB0⟩
 case round=>
  clear hg0 hB0;obtain⟨W,s,rfl,hs1,hs2,rfl,ha,hg,hB⟩:=hrel;by_cases hs:s<=16
  ·have hsb:decide ((s:Int)<=16)=true:=decide_eq_true Zo
   go_wp2_with fail;go_loopw [5,6,7,8,9,10] (λq _ _ _ _ _ wr=>∃(W:World) (l:Nat),W=wr/\1<=l/\l<=5/\q= .int .i64 (l:Int)/\Keep (After ws (s:Int) (l:Int) 1)/\Geo W w.heap.size 0 0 0/\Below w.heap.size w W) (λq _ _ _ _ _ _=>5 - (intOf q).toNat)
   case atStart=>exact⟨_,1,rfl,Zo,Zo,rfl,ha,hg,hB⟩
   case round=>
    clear hg hB ha;obtain⟨W,l,rfl,hl1,hl2,rfl,ha,hg,hB⟩:=hrel;by_cases hl4:l<=4
    ·have hlb:decide ((l:Int)<=4)=true:=decide_eq_true Zo
     go_wp2_with fail;go_loopw [6,7,8,9,10] (λq _ _ _ _ wr=>∃(W:World) (r:Nat),W=wr/\1<=r/\r<=9/\q= .int .i64 (r:Int)/\Keep (After ws (s:Int) (l:Int) (r:Int))/\Geo W w.heap.size 0 0 0/\Below w.heap.size w W) (λq _ _ _ _ _=>9 - (intOf q).toNat)
     case atStart=>exact⟨_,1,rfl,Zo,Zo,rfl,ha,hg,hB⟩
     case round=>
      clear hg hB ha;obtain⟨W,r,rfl,hr1,hr2,rfl,ha,hg,hB⟩:=hrel;by_cases hr8:r<=8
      ·have hrb:decide ((r:Int)<=8)=true:=decide_eq_true Zo
       have hm:mayB (s:Int) (l:Int) (r:Int)=true:=mayB_iff.2 ⟨⟨Zo,Zo⟩,⟨Zo,Zo⟩,Zo,Zo⟩;have htot:=λV=>qfr (s:Int) (l:Int) (r:Int) V
       have hwr:=λV=>q0o (s:Int) (l:Int) (r:Int) V
       rw[qi3 hm] at hwr;obtain⟨T,hT⟩:∃T,totN (s:Int) (l:Int) (r:Int)=T:=⟨_,rfl⟩
       rw[hT] at htot;have hT0:=(qdo hm).2.1;rw[hT] at hT0;have hTK:=keep hT;have hmK:=keep hm;clear hm hT;by_cases hlen:(ws.length:Int)=T
       ·have hne:((ws.length:Int) !=T)=false:=by rw[hlen];simp
        have hlenK:=keep hlen;have h8:8<=ws.length:=Zo
        clear hlen;go_wp2_with fail;refine(htot _).mono ?_;rintro e W1 ⟨rfl,hC⟩;have hg1:=Geo.new W (s:Int) (l:Int) (r:Int);have hg2:=hg1.below hC hg1.lt;have hB1:=(hB.alloc hB.size (.cells #[.int .i64 (s:Int),.int .i64 (l:Int),.int .i64 (r:Int)] 23)).trans (hC.mono (by have:=hB.size;simp;omega));have hg3:=(hg.below ((wac _ W).alloc (wab _) (.cells #[.int .i64 (s:Int),.int .i64 (l:Int),.int .i64 (r:Int)] 23)) hg.lt)
        have hg4:=hg3.below hC hg3.lt;clear hg1 hg3 hg hB hC;obtain⟨x0,x1,x2,x3⟩:=hg2.cells;go_wp2_with fail;refine(hwr _).mono ?_;rintro e W2 ⟨v,rfl,⟨B,d,rfl,hR⟩,hC⟩;have hg5:=hg2.below hC hg2.lt;have hg6:=hg4.below hC hg4.lt;have hB2:=hB1.trans (hC.mono hB1.size);have hrw:=hr.below hB2;clear hg2 hg4 hB1 hC x0 x1 x2 x3 htot hwr;go_wp2_with fail;go_loopw [9,10] (λq k wr=>∃(t i:Nat) (b:Bool),wr=W2.drewN t/\i<=8/\k= .int .i64 (i:Int)/\q= .bool b/\Keep (b=decide (ws.take i=(supL (s:Int) (l:Int) (r:Int)).take i))) (λ_ k _=>8 - (intOf k).toNat)
        case atStart=>exact⟨0,0,true,rfl,Zo,rfl,rfl,keep Zs⟩
        case round=>
         obtain⟨t,i,b,rfl,hi,rfl,rfl,hb⟩:=hrel;by_cases hi8:i<8
         ·obtain⟨p,x,rfl,hd,_,hcx⟩:=hrw.u64_at (k:=i) Zo
          obtain⟨q,y,rfl,hd2,_,hcy⟩:=hR.u64_at (k:=i) (by rw[qco];exact hi8)
          have hst:=keep (q5g (i:=i) (b:=b) Zo (by rw[qco];exact hi8) hd hd2);have hz:(0:Int)<=(i:Int):=Zo
          have hz2:(i:Int)<(ws.length:Int):=Zo
          have hz3:(i:Int)<((supL (s:Int) (l:Int) (r:Int)).length:Int):=by rw[qco];omega
          clear hd hd2;cases b with
          |true=>
           go_wp2_with fail;go_quiet (fail)
           go_wp2_with fail;go_roundw
           case rel=>exact⟨_,i+1,_,rfl,Zo,by go_num,rfl,keep (hst.out hb.out)⟩
           case measure=>simp[intOf];omega
          |false=>
           go_wp2_with fail;go_quiet (fail)
           go_wp2_with fail;go_roundw
           case rel=>exact⟨_,i+1,false,rfl,Zo,by go_num,rfl,keep (hst.out hb.out)⟩
           case measure=>simp[intOf];omega
         ·obtain rfl:i=8:=Zo
          have hg7:Geo (W2.drewN t) W.heap.size (s:Int) (l:Int) (r:Int):=hg5;have hg8:Geo (W2.drewN t) w.heap.size 0 0 0:=hg6;have hB3:=qad hB2 t;obtain⟨x0,x1,x2,x3⟩:=hg7.cells;obtain⟨d0,d1,d2,d3⟩:=hg8.cells;cases b with
          |true=>
           have hh:Keep (Hit ws (s:Int) (l:Int) (r:Int)):=keep ⟨hmK.out,hlenK.out.trans hTK.out.symm,by have:=of_decide_eq_true hb.out.symm;rwa [wa2 (l:=supL _ _ _) (by rw[qco];omega)] at this⟩;clear hb ha hg5 hg6 hg7 hg8 hrw hR;go_wp2_with fail;exact bodyPost_ret (v:= .tuple #[.agg #[.int .i64 (s:Int),.int .i64 (l:Int),.int .i64 (r:Int)],.bool true]) (by simp[results,Tryz.results56,go_sem,d0,d1,d2]) rfl ⟨.inl ⟨_,_,_,hh.out,rfl⟩,by(iterate 3 refine wa7 ?_ (by exact wab _) _);exact hB3⟩
          |false=>
           have ha2:=keep (ha.out.next (λhh=>by have:=of_decide_eq_false hb.out.symm;exact this (by rw[hh.2.2];exact(wa2 (by rw[qco];omega)).symm)));clear hb ha hg5 hg6 hg7 hrw hR;go_wp2_with fail;go_roundw
           case rel=>exact⟨_,r+1,rfl,Zo,Zo,by go_num,by rw[wcg];exact ha2,hg8,hB3⟩
           case measure=>simp[intOf];omega
       ·have hne:((ws.length:Int) !=T)=true:=bne_iff_ne.2 hlen
        have ha2:=keep (ha.out.next (λhh=>hlen (hh.2.1.trans hTK.out)));clear hlen ha;go_wp2_with fail;refine(htot _).mono ?_;rintro e W1 ⟨rfl,hC⟩;have hB1:=(hB.alloc hB.size (.cells #[.int .i64 (s:Int),.int .i64 (l:Int),.int .i64 (r:Int)] 23)).trans (hC.mono (by have:=hB.size;simp;omega));have hg1:=(hg.below ((wac _ W).alloc (wab _) (.cells #[.int .i64 (s:Int),.int .i64 (l:Int),.int .i64 (r:Int)] 23)) hg.lt)
        have hg2:=hg1.below hC hg1.lt;clear hg hg1 hB hC;go_wp2_with fail;go_roundw
        case rel=>exact⟨_,r+1,rfl,Zo,Zo,by go_num,by rw[wcg];exact ha2,hg2,hB1⟩
        case measure=>simp[intOf];omega
      ·have ha2:=keep (ha.out.lane Zo)
       clear ha;go_wp2_with fail;go_roundw
       case rel=>exact⟨_,l+1,rfl,Zo,Zo,by go_num,by rw[wcg];exact ha2,hg,hB⟩
       case measure=>simp[intOf];omega
    ·have ha2:=keep (ha.out.span Zo)
     clear ha;go_wp2_with fail;go_roundw
     case rel=>exact⟨_,s+1,rfl,Zo,Zo,by go_num,by rw[wcg];exact ha2,hg,hB⟩
     case measure=>simp[intOf];omega
  ·have hn:=keep (ha.out.none Zo)
   obtain⟨d0,d1,d2,g⟩:=hg.cells;clear ha hg;go_wp2_with fail;exact bodyPost_ret (v:= .tuple #[.agg #[.int .i64 0,.int .i64 0,.int .i64 0],.bool false]) (by simp[results,Tryz.results56,go_sem,d0,d1,d2]) rfl ⟨.inr ⟨hn.out,rfl⟩,by(iterate 3 refine wa7 ?_ (by exact wab _) _);exact hB⟩
theorem qat(w:World)(k c n:Int):Below w.heap.size w (w.alloc (.cells #[.int .i64 k,.int .i64 c,.int .i64 n] 82)):=(wac _ w).alloc (wab _) _
theorem qld(w:World):Calls Tryz.prog 175 #[] w λe w'=>e= .returned (.slice (some ⟨w.heap.size,0,none⟩) 5 5)/\w.alloc (.cells #[.int .i64 2,.int .i64 3,.int .i64 3,.int .i64 24,.int .i64 32] 3)=w':=by
 go_enter Tryz.func175,Tryz.ntmps175;go_wp2
 go_ret;exact⟨rfl,rfl⟩
theorem qp4(m:Int)(w:World):
  Calls Tryz.prog 235 #[.int .i64 m] w λe w'=>e= .returned (.func (.func 302) #[] #[.pointer (some ⟨w.heap.size,0,none⟩)])/\w.alloc (.cells #[.int .i64 m] 3)=w':=by
 have hmf:∀(fn:Fn) (first cap:Array Value) (w:World),(Instr.makeFunc fn first cap).run Tryz.prog w= .ok (.func fn first cap) w:=λ_ _ _ _=>rfl
 go_enter Tryz.func235,Tryz.ntmps235;go_wp2
 go_ret;exact⟨rfl,rfl⟩
theorem q0p(c n:Int)(w:World):Calls Tryz.prog 233 #[.agg #[.int .i64 0,.int .i64 c,.int .i64 n]] w λe w'=>e= .returned (.bool (qav 0 c n))/\Below w.heap.size w w':=by
 by_cases h1:c=0
 ·by_cases h2:n=0
  ·subst h1 h2
   have hm:=waa (show qav 0 0 0=true by decide);go_enter Tryz.func233,Tryz.ntmps233;go_wp2
   go_ret;exact⟨qab (by rw[hm.out]),qat _ _ _ _⟩
  ·subst h1
   have h3:¬0=n:=λe=>h2 e.symm
   have hm:=waa (show qav 0 0 n=false by rw[<-wby,hmay_iff];omega);go_enter Tryz.func233,Tryz.ntmps233;go_wp2
   go_ret;exact⟨qab (by rw[hm.out]),qat _ _ _ _⟩
 ·have h3:¬0=c:=λe=>h1 e.symm
  have hm:=waa (show qav 0 c n=false by rw[<-wby,hmay_iff];omega);go_enter Tryz.func233,Tryz.ntmps233;go_wp2
  go_ret;exact⟨qab (by rw[hm.out]),qat _ _ _ _⟩
theorem qzz(c n:Int)(w:World):Calls Tryz.prog 234 #[.agg #[.int .i64 1,.int .i64 c,.int .i64 n]] w λe w'=>e= .returned (.bool (qav 1 c n))/\Below w.heap.size w w':=by
 by_cases h1:0<=c
 ·by_cases h2:c<4
  ·by_cases h3:n=0
   ·subst h3
    have hm:=waa (show qav 1 c 0=true by rw[hmay_iff];omega);go_enter wfp,wfq;go_wp2
    go_ret;exact⟨qab (by rw[hm.out]),qat _ _ _ _⟩
   ·have h4:(n==0)=false:=beq_eq_false_iff_ne.2 h3
    have hm:=waa (show qav 1 c n=false by rw[<-wby,hmay_iff];omega);clear h3;go_enter wfp,wfq;go_wp2
    go_ret;exact⟨qab (by rw[hm.out]),qat _ _ _ _⟩
  ·have hm:=waa (show qav 1 c n=false by rw[<-wby,hmay_iff];omega)
   go_enter wfp,wfq;go_wp2
   go_ret;exact⟨qab (by rw[hm.out]),qat _ _ _ _⟩
 ·have hm:=waa (show qav 1 c n=false by rw[<-wby,hmay_iff];omega)
  go_enter wfp,wfq;go_wp2
  go_ret;exact⟨qab (by rw[hm.out]),qat _ _ _ _⟩
def qin(m c n:Int):Bool:=decide (c=4/\1<=n/\n<=m)
theorem qnq(m:Int)(g:Nat)(k c n:Int)(w:World)(hb:Boxed w g 3 (.int .i64 m)):
  Calls Tryz.prog 302 #[.agg #[.int .i64 k,.int .i64 c,.int .i64 n],.pointer (some ⟨g,0,none⟩)] w λe w'=>e= .returned (.bool (qin m c n))/\Below w.heap.size w w':=by
 have hc0:=hb.cell;have hl0:=hb.lt;have hw:=waa (show qin m c n=decide (c=4/\1<=n/\n<=m) from rfl);generalize qin m c n=d at hw ⊢;by_cases h1:c=4
 ·by_cases h2:1<=n
  ·by_cases h3:n<=m
   ·have hw2:=waa (show d=true by rw[hw.out];exact decide_eq_true ⟨h1,h2,h3⟩)
    subst h1;go_enter wfr,wfs;go_wp2
    go_ret;exact⟨qab (by rw[hw2.out]),qat _ _ _ _⟩
   ·have hw2:=waa (show d=false by rw[hw.out];exact decide_eq_false Zo)
    subst h1;go_enter wfr,wfs;go_wp2
    go_ret;exact⟨qab (by rw[hw2.out]),qat _ _ _ _⟩
  ·have hw2:=waa (show d=false by rw[hw.out];exact decide_eq_false Zo)
   subst h1;go_enter wfr,wfs;go_wp2
   go_ret;exact⟨qab (by rw[hw2.out]),qat _ _ _ _⟩
 ·have hw2:=waa (show d=false by rw[hw.out];exact decide_eq_false Zo)
  have h4:(c==4)=false:=beq_eq_false_iff_ne.2 h1;clear h1;go_enter wfr,wfs;go_wp2
  go_ret;exact⟨qab (by rw[hw2.out]),qat _ _ _ _⟩
def qc5(a b:Nat):List Value:=[.func (.func 233) #[] #[],.func (.func 234) #[] #[],.func (.func 302) #[] #[.pointer (some ⟨a,0,none⟩)],.func (.func 302) #[] #[.pointer (some ⟨b,0,none⟩)]]
theorem q5o(a b:Nat):(qc5 a b).toArray.all (·.oneCell')=true:=all_oneCell_toArray (by simp[qc5,Value.oneCell'])
theorem qvb:(Tryz.prog.info? 240).map (·.size)=some 4:=by kernel_rfl
theorem qun{V:World}{b x y:Nat}(h:V.rangeAt b 0 (qc5 x y)):V.cell? ⟨b,0,none⟩=some (.func (.func 233) #[] #[])/\V.cell? ⟨b,1,none⟩=some (.func (.func 234) #[] #[])/\V.cell? ⟨b,2,none⟩=some (.func (.func 302) #[] #[.pointer (some ⟨x,0,none⟩)])/\V.cell? ⟨b,3,none⟩=some (.func (.func 302) #[] #[.pointer (some ⟨y,0,none⟩)]):=
 ⟨h 0 _ rfl,by simpa using h 1 _ rfl,by simpa using h 2 _ rfl,by simpa using h 3 _ rfl⟩
theorem qhz{b:Nat}{B:Nat}{t:TypeId}{v:Value}(hne:B≠b):∀(vs:List Value) (o:Nat) (W:World),Boxed W B t v->Boxed (W.setCells b o vs) B t v
 |[],_,_,h=>h
 |x::r,o,W,h=>qhz hne r (o+1) _ ((wat _ _ _ _ hne).trans h)
def qacr(w:World)(e:Ending)(w':World):Prop:=∃a b,e= .returned (.agg (qc5 a b).toArray)/\Boxed w' a 3 (.int .i64 4)/\Boxed w' b 3 (.int .i64 3)/\Below w.heap.size w w'
theorem qgt(w:World):Calls Tryz.prog 177 #[] w (qacr w):=by
 have h0:=qb0 (W:=w) rfl #[.nilFunc,.nilFunc,.nilFunc,.nilFunc] 240;have hB0:Below w.heap.size w (w.alloc (.cells #[.nilFunc,.nilFunc,.nilFunc,.nilFunc] 240)):=(wac _ w).alloc (wab _) _;have hs0:=waa (show(w.alloc (.cells #[.nilFunc,.nilFunc,.nilFunc,.nilFunc] 240)).heap.size=w.heap.size+1 by simp);go_enter Tryz.func177,Tryz.ntmps177;go_wp2_with fail;generalize (w.alloc (.cells #[.nilFunc,.nilFunc,.nilFunc,.nilFunc] 240))=W0 at h0 hB0 hs0 ⊢;refine(qp4 4 _).mono ?_;rintro e w' ⟨rfl,rfl⟩;have hl0:w.heap.size<W0.heap.size:=by have:=hs0.out;omega
 have h1:=qhw ((wac W0.heap.size W0).alloc (wab _) (.cells #[.int .i64 4] 3)) hl0 h0;have hx1:=Boxed.new W0 3 (.int .i64 4);have hB1:=hB0.alloc hB0.size (.cells #[.int .i64 4] 3);have hl1:=hx1.lt;generalize W0.alloc (.cells #[.int .i64 4] 3)=W1 at h1 hx1 hB1 hl1 ⊢;go_wp2_with fail;refine(qp4 3 _).mono ?_;rintro e w' ⟨rfl,rfl⟩;have h2:=qhw ((wac W1.heap.size W1).alloc (wab _) (.cells #[.int .i64 3] 3)) Zo h1;have hx2:=Boxed.new W1 3 (.int .i64 3);have hx1:=hx1.alloc (.cells #[.int .i64 3] 3);have hB2:=hB1.alloc hB1.size (.cells #[.int .i64 3] 3);generalize W1.alloc (.cells #[.int .i64 3] 3)=W2 at h2 hx1 hx2 hB2 ⊢;go_wp2_with (first|(refine wpList_store_mid rfl 240 _ _ rfl w.heap.size 0 (qc5 W0.heap.size W1.heap.size).toArray rfl rfl h2 qvb (q5o _ _) ?_))
 have hr3:(W2.setCells w.heap.size 0 (qc5 W0.heap.size W1.heap.size)).rangeAt w.heap.size 0 (qc5 W0.heap.size W1.heap.size):=World.rangeAt_setCells_same _ _ _ _ h2;have hB3:Below w.heap.size w (W2.setCells w.heap.size 0 (qc5 W0.heap.size W1.heap.size)):=qem (wab _) _ 0 _ _ hB2;have hy1:=qhz (b:=w.heap.size) Zo (qc5 W0.heap.size W1.heap.size) 0 _ hx1;have hy2:=qhz (b:=w.heap.size) Zo (qc5 W0.heap.size W1.heap.size) 0 _ hx2;generalize hW3:W2.setCells w.heap.size 0 (qc5 W0.heap.size W1.heap.size)=W3 at hr3 hB3 hy1 hy2 ⊢;obtain⟨k0,k1,k2,k3⟩:=qun hr3;simp only[Act.put];refine bodyPost_ret (v:= .agg (qc5 W0.heap.size W1.heap.size).toArray) (by simp[results,Tryz.results177,go_sem,qc5,k0,k1,k2,k3]) rfl ⟨_,_,rfl,hy1,hy2,hB3⟩
theorem q6t{k c n:Int}(h:¬(0<=k/\k<4)):qav k c n=false:=by rw[<-wby,hmay_iff];omega
theorem q8n(c n:Int):qin 4 c n=qav 2 c n:=by
 rw[wb8,hmay_iff];unfold qin;simp
theorem qyq(c n:Int):qin 3 c n=qav 3 c n:=by
 rw[wb8,hmay_iff];unfold qin;simp
theorem qer(w:World)(k c n:Int):(w.alloc (.cells #[.int .i64 k,.int .i64 c,.int .i64 n] 82)).drew.cell? ⟨w.heap.size,0,none⟩=some (.int .i64 k)/\(w.alloc (.cells #[.int .i64 k,.int .i64 c,.int .i64 n] 82)).drew.cell? ⟨w.heap.size,1,none⟩=some (.int .i64 c)/\(w.alloc (.cells #[.int .i64 k,.int .i64 c,.int .i64 n] 82)).drew.cell? ⟨w.heap.size,2,none⟩=some (.int .i64 n):=⟨by simp,by simp,by simp⟩
theorem qst(a b:Nat)(w:World):(Instr.index 240 (.agg #[.func (.func 233) #[] #[],.func (.func 234) #[] #[],.func (.func 302) #[] #[.pointer (some ⟨a,0,none⟩)],.func (.func 302) #[] #[.pointer (some ⟨b,0,none⟩)]]) (.int .i64 0)).run Tryz.prog w= .ok (.func (.func 233) #[] #[]) w:=rfl
theorem qsl(a b:Nat)(w:World):(Instr.index 240 (.agg #[.func (.func 233) #[] #[],.func (.func 234) #[] #[],.func (.func 302) #[] #[.pointer (some ⟨a,0,none⟩)],.func (.func 302) #[] #[.pointer (some ⟨b,0,none⟩)]]) (.int .i64 1)).run Tryz.prog w= .ok (.func (.func 234) #[] #[]) w:=rfl
theorem qs5(a b:Nat)(w:World):(Instr.index 240 (.agg #[.func (.func 233) #[] #[],.func (.func 234) #[] #[],.func (.func 302) #[] #[.pointer (some ⟨a,0,none⟩)],.func (.func 302) #[] #[.pointer (some ⟨b,0,none⟩)]]) (.int .i64 2)).run Tryz.prog w= .ok (.func (.func 302) #[] #[.pointer (some ⟨a,0,none⟩)]) w:=rfl
theorem qrp(a b:Nat)(w:World):(Instr.index 240 (.agg #[.func (.func 233) #[] #[],.func (.func 234) #[] #[],.func (.func 302) #[] #[.pointer (some ⟨a,0,none⟩)],.func (.func 302) #[] #[.pointer (some ⟨b,0,none⟩)]]) (.int .i64 3)).run Tryz.prog w= .ok (.func (.func 302) #[] #[.pointer (some ⟨b,0,none⟩)]) w:=rfl
theorem q01(c n:Int)(w:World):Calls Tryz.prog 140 #[.agg #[.int .i64 0,.int .i64 c,.int .i64 n]] w λe w'=>e= .returned (.bool (qav 0 c n))/\Below w.heap.size w w':=by
 obtain⟨x0,x1,x2⟩:=qer w 0 c n;have hB0:=(qat w 0 c n).drew;have hix:=λ(a b:Nat) (w:World)=>qst a b w
 go_enter wd2,wd3;go_wp2_with fail;go_region_held3 (λV=>V.cell? ⟨w.heap.size,0,none⟩=some (.int .i64 0)/\V.cell? ⟨w.heap.size,1,none⟩=some (.int .i64 c)/\V.cell? ⟨w.heap.size,2,none⟩=some (.int .i64 n))
  (first|with_reducible exact⟨x0,x1,x2⟩|with_reducible exact⟨y0,y1,y2⟩|with_reducible exact⟨z0,z1,z2⟩)
  (first
   |(go_at_call 177;refine(qgt _).mono ?_;rintro e w1 ⟨a,b,rfl,hx1,hx2,hB⟩;have y0:=(hB.cell (p:=⟨w.heap.size,0,none⟩) Zs).trans x0;have y1:=(hB.cell (p:=⟨w.heap.size,1,none⟩) Zs).trans x1;have y2:=(hB.cell (p:=⟨w.heap.size,2,none⟩) Zs).trans x2;have hl:=wak w1 _ y0;unfold qc5)
   |(go_at_call 233;refine(q0p _ _ _).mono ?_;rintro e w2 ⟨rfl,hC⟩;have z0:=(hC.cell (p:=⟨w.heap.size,0,none⟩) hl).trans y0;have z1:=(hC.cell (p:=⟨w.heap.size,1,none⟩) hl).trans y1;have z2:=(hC.cell (p:=⟨w.heap.size,2,none⟩) hl).trans y2))
 all_goals
  have hB2:=(hB0.trans (hB.mono hB0.size)).trans (hC.mono ((hB0.trans (hB.mono hB0.size)).size));clear hix hB hC y0 y1 y2 z0 z1 z2;go_wp2_with fail;go_ret;exact⟨rfl,hB2⟩
theorem q35(c n:Int)(w:World):Calls Tryz.prog 140 #[.agg #[.int .i64 1,.int .i64 c,.int .i64 n]] w λe w'=>e= .returned (.bool (qav 1 c n))/\Below w.heap.size w w':=by
 obtain⟨x0,x1,x2⟩:=qer w 1 c n;have hB0:=(qat w 1 c n).drew;have hix:=λ(a b:Nat) (w:World)=>qsl a b w
 go_enter wd2,wd3;go_wp2_with fail;go_region_held3 (λV=>V.cell? ⟨w.heap.size,0,none⟩=some (.int .i64 1)/\V.cell? ⟨w.heap.size,1,none⟩=some (.int .i64 c)/\V.cell? ⟨w.heap.size,2,none⟩=some (.int .i64 n))
  (first|with_reducible exact⟨x0,x1,x2⟩|with_reducible exact⟨y0,y1,y2⟩|with_reducible exact⟨z0,z1,z2⟩)
  (first
   |(go_at_call 177;refine(qgt _).mono ?_;rintro e w1 ⟨a,b,rfl,hx1,hx2,hB⟩;have y0:=(hB.cell (p:=⟨w.heap.size,0,none⟩) Zs).trans x0;have y1:=(hB.cell (p:=⟨w.heap.size,1,none⟩) Zs).trans x1;have y2:=(hB.cell (p:=⟨w.heap.size,2,none⟩) Zs).trans x2;have hl:=wak w1 _ y0;unfold qc5)
   |(go_at_call 234;refine(qzz _ _ _).mono ?_;rintro e w2 ⟨rfl,hC⟩;have z0:=(hC.cell (p:=⟨w.heap.size,0,none⟩) hl).trans y0;have z1:=(hC.cell (p:=⟨w.heap.size,1,none⟩) hl).trans y1;have z2:=(hC.cell (p:=⟨w.heap.size,2,none⟩) hl).trans y2))
 all_goals
  have hB2:=(hB0.trans (hB.mono hB0.size)).trans (hC.mono ((hB0.trans (hB.mono hB0.size)).size));clear hix hB hC y0 y1 y2 z0 z1 z2;go_wp2_with fail;go_ret;exact⟨rfl,hB2⟩
theorem q4o(c n:Int)(w:World):Calls Tryz.prog 140 #[.agg #[.int .i64 2,.int .i64 c,.int .i64 n]] w λe w'=>e= .returned (.bool (qav 2 c n))/\Below w.heap.size w w':=by
 obtain⟨x0,x1,x2⟩:=qer w 2 c n;have hB0:=(qat w 2 c n).drew;have hix:=λ(a b:Nat) (w:World)=>qs5 a b w
 go_enter wd2,wd3;go_wp2_with fail;go_region_held3 (λV=>V.cell? ⟨w.heap.size,0,none⟩=some (.int .i64 2)/\V.cell? ⟨w.heap.size,1,none⟩=some (.int .i64 c)/\V.cell? ⟨w.heap.size,2,none⟩=some (.int .i64 n))
  (first|with_reducible exact⟨x0,x1,x2⟩|with_reducible exact⟨y0,y1,y2⟩|with_reducible exact⟨z0,z1,z2⟩)
  (first
   |(go_at_call 177;refine(qgt _).mono ?_;rintro e w1 ⟨a,b,rfl,hx1,hx2,hB⟩;have y0:=(hB.cell (p:=⟨w.heap.size,0,none⟩) Zs).trans x0;have y1:=(hB.cell (p:=⟨w.heap.size,1,none⟩) Zs).trans x1;have y2:=(hB.cell (p:=⟨w.heap.size,2,none⟩) Zs).trans x2;have hl:=wak w1 _ y0;unfold qc5)
   |(go_at_call 302;refine(qnq 4 _ _ _ _ _ hx1).mono ?_;rintro e w2 ⟨rfl,hC⟩;have z0:=(hC.cell (p:=⟨w.heap.size,0,none⟩) hl).trans y0;have z1:=(hC.cell (p:=⟨w.heap.size,1,none⟩) hl).trans y1;have z2:=(hC.cell (p:=⟨w.heap.size,2,none⟩) hl).trans y2))
 all_goals
  have hB2:=(hB0.trans (hB.mono hB0.size)).trans (hC.mono ((hB0.trans (hB.mono hB0.size)).size));clear hix hB hC y0 y1 y2 z0 z1 z2;go_wp2_with fail;go_ret;exact⟨qab (q8n _ _),hB2⟩
theorem q48(c n:Int)(w:World):Calls Tryz.prog 140 #[.agg #[.int .i64 3,.int .i64 c,.int .i64 n]] w λe w'=>e= .returned (.bool (qav 3 c n))/\Below w.heap.size w w':=by
 obtain⟨x0,x1,x2⟩:=qer w 3 c n;have hB0:=(qat w 3 c n).drew;have hix:=λ(a b:Nat) (w:World)=>qrp a b w
 go_enter wd2,wd3;go_wp2_with fail;go_region_held3 (λV=>V.cell? ⟨w.heap.size,0,none⟩=some (.int .i64 3)/\V.cell? ⟨w.heap.size,1,none⟩=some (.int .i64 c)/\V.cell? ⟨w.heap.size,2,none⟩=some (.int .i64 n))
  (first|with_reducible exact⟨x0,x1,x2⟩|with_reducible exact⟨y0,y1,y2⟩|with_reducible exact⟨z0,z1,z2⟩)
  (first
   |(go_at_call 177;refine(qgt _).mono ?_;rintro e w1 ⟨a,b,rfl,hx1,hx2,hB⟩;have y0:=(hB.cell (p:=⟨w.heap.size,0,none⟩) Zs).trans x0;have y1:=(hB.cell (p:=⟨w.heap.size,1,none⟩) Zs).trans x1;have y2:=(hB.cell (p:=⟨w.heap.size,2,none⟩) Zs).trans x2;have hl:=wak w1 _ y0;unfold qc5)
   |(go_at_call 302;refine(qnq 3 _ _ _ _ _ hx2).mono ?_;rintro e w2 ⟨rfl,hC⟩;have z0:=(hC.cell (p:=⟨w.heap.size,0,none⟩) hl).trans y0;have z1:=(hC.cell (p:=⟨w.heap.size,1,none⟩) hl).trans y1;have z2:=(hC.cell (p:=⟨w.heap.size,2,none⟩) hl).trans y2))
 all_goals
  have hB2:=(hB0.trans (hB.mono hB0.size)).trans (hC.mono ((hB0.trans (hB.mono hB0.size)).size));clear hix hB hC y0 y1 y2 z0 z1 z2;go_wp2_with fail;go_ret;exact⟨qab (qyq _ _),hB2⟩
theorem qt5(k c n:Int)(w:World)(h:¬(0<=k/\k<4)):Calls Tryz.prog 140 #[.agg #[.int .i64 k,.int .i64 c,.int .i64 n]] w λe w'=>e= .returned (.bool (qav k c n))/\Below w.heap.size w w':=by
 have hm:=waa (q6t (c:=c) (n:=n) h);obtain⟨x0,x1,x2⟩:=qer w k c n;have hB0:=qat w k c n;rcases(by omega:k<0\/(0<=k/\4<=k)) with h1|⟨h1,h2⟩
 ·have d1:decide (0<=k)=false:=by simpa using h1
  go_enter wd2,wd3;go_wp2_with fail;go_quiet (fail)
  go_wp2
  go_ret;exact⟨qab (by rw[hm.out]),qad hB0 _⟩
 ·have d1:decide (k<4)=false:=by simpa using h2
  go_enter wd2,wd3;go_wp2_with fail;go_quiet (fail)
  go_wp2
  go_ret;exact⟨qab (by rw[hm.out]),qad hB0 _⟩
theorem qg6(k c n:Int)(w:World):Calls Tryz.prog 140 #[.agg #[.int .i64 k,.int .i64 c,.int .i64 n]] w λe w'=>e= .returned (.bool (qav k c n))/\Below w.heap.size w w':=by
 by_cases h:0<=k/\k<4
 ·rcases(by omega:k=0\/k=1\/k=2\/k=3) with rfl|rfl|rfl|rfl
  ·exact q01 c n w
  ·exact q35 c n w
  ·exact q4o c n w
  ·exact q48 c n w
 ·exact qt5 k c n w h
end Go.Proofs.YtocncmbeinmiaaaGreat
