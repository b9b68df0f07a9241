/- Parts. No condition. -/
import Derived.Test.YtocncmbeinmiaaaGreatJoinU35
import Derived.Test.YtocncmbeinmiaaaGreatJoinU27
set_option linter.unusedVariables false
set_option maxRecDepth 100000
set_option maxHeartbeats 8000000
namespace Go.Proofs.YtocncmbeinmiaaaGreat
open Go Go.RowKit
section
variable {w w':World} {A:Option Addr} {n:Nat} {xs:List Value}
theorem Rd.drewN(h:Rd w A n xs)(t:Nat):Rd (w.drewN t) A n xs:=h
end
theorem SplitR.no{o:Option (List Nat)}(h:o=none)(w':World):SplitR o (.returned (.tuple #[.slice none 0 0,.bool false])) w':=by rw[h];exact rfl
theorem HHit.turned{x:Nat}{k c n:Int}(h:HHit x k c n)(t:Nat):¬HHit (x ^^^ 2 ^ t) k c n:=λhh=>by
 have e:x ^^^ 2 ^ t=x:=by rw[<-hh.2,h.2]
 have:=congrArg (λy=>Nat.testBit y t) e
 simp[Nat.testBit_xor] at this
theorem Hd.set{V:World}{b:Nat}{k c n k' c' n':Int}(h:Hd V b k c n):Hd (((V.setCell ⟨b,0,none⟩ (.int .i64 k')).setCell ⟨b,1,none⟩ (.int .i64 c')).setCell ⟨b,2,none⟩ (.int .i64 n')) b k' c' n':=by
 have h1:=qah h 0 (.int .i64 k');have h2:=qah h1 1 (.int .i64 c');exact qah h2 2 (.int .i64 n')
def AsRd(w:World)(A:Option Addr)(n:Nat)(l:List AskT):Prop:=
 l.length=n/\(0<n->∃p,A=some p/\∀j e,l[j]? =some e->w.cell? (p.add (j*3))=some (.int .u8 (e.1:Int))/\w.cell? ⟨(p.add (j*3)).block,(p.add (j*3)).off+1,none⟩=some (.int .i64 e.2.1)/\w.cell? ⟨(p.add (j*3)).block,(p.add (j*3)).off+2,none⟩=some (.int .u64 (e.2.2:Int)))
theorem q1n(p:Addr)(k:Nat):(p.add k).block=p.block:=by unfold Addr.add;split<;>rfl
section
variable {w w':World} {A:Option Addr} {n cap x d:Nat} {who:Int} {v:Value} {T:List Nat} {l:List AskT}
theorem AsRd.upd{G:Nat->Prop}(h:AsRd w A n l)(hu:Upd G w w')(hG:∀p,A=some p->0<n->¬G p.block):AsRd w' A n l:=by
 obtain⟨h1,h2⟩:=h;refine⟨h1,λhn=>?_⟩;obtain⟨p,e,hp⟩:=h2 hn;refine⟨p,e,λj a ha=>?_⟩;obtain⟨c0,c1,c2⟩:=hp j a ha;have hb:¬G (p.add (j*3)).block:=by rw[q1n];exact hG p e hn
 exact⟨(hu.cell (wak w _ c0) hb).trans c0,(hu.cell (wak w _ c1) hb).trans c1,(hu.cell (wak w _ c2) hb).trans c2⟩
end
end Go.Proofs.YtocncmbeinmiaaaGreat
namespace Go.Proofs.YtocncmbeinmiaaaGreat
open Go Go.RowKit
open Go.Maps (Keyed)
section
variable {w:World} {base p n c gs cs gk ck m:Nat} {st:Int} {D:DataW Value} {S K:List Nat} {f:Nat->Option (List Nat)}
theorem Reg.more{d:Nat}(h:Reg w base p n c S K f)(hd:c<=d):Reg w base p n d S K f:=by
 obtain⟨gs,cs,gk,ck,m,st,D,h1,h2,h3,h4,h5,h6,h6',hp,hs,hk,hm,hD⟩:=h;exact⟨gs,cs,gk,ck,m,st,D,h1,h2,h3,h4,h5,h6,h6',hp,hs,hk,hm.mono hd,hD⟩
end
end Go.Proofs.YtocncmbeinmiaaaGreat
namespace Go.Proofs.YtocncmbeinmiaaaGreat
open Go Go.RowKit
section
variable {w w':World} {p gs gk m n tp tg nl C:Nat} {D:DM} {G:Nat->Prop}
theorem LkR.not{b:Nat}{L:List Int}{Cs:Array Value}{t:TypeId}{fr:Nat×Nat}(h:LkR w tp tg nl L)(hb:w.heap[b]? =some (.cells Cs t fr))(h1:t≠132)(h2:∃g,g=tg/\b≠g):¬tbF tp tg b:=by
 obtain⟨c,st,hne,hn,hp,ho⟩:=h;obtain⟨_,rfl,h2⟩:=h2;rintro(rfl|rfl)
 ·exact qbn hb hp h1 rfl
 ·exact h2 rfl
theorem PsR.same{D':DM}(h:PsR w p gs gk m n tp tg nl C D)(e1:D'.S=D.S)(e2:D'.K=D.K)(e3:D'.N=D.N)(e4:D'.B=D.B)(e5:D'.L=D.L):PsR w p gs gk m n tp tg nl C D':=by
 unfold PsR at h ⊢;rw[e1,e2,e3,e4,e5];exact h
end
section
variable {τ:Type}
section
variable {E:DP τ} {i i':Nat} {l l':List Nat} {s s':DM×τ} {F F':Nat->Prop} {w w1 w':World} {α β:Type} {e:Ending}
theorem DP.Cov.lts{lv:Value}{G:Nat->Prop}(h:E.Cov lv G F w){k:Nat}(hk:F k):k<w.heap.size:=h.2.1 k hk
end
end
def q2e(ops:Array Oper)(N:Nat):Bool:=
 (List.range ops.size).all λi=>match ops[i]? with
  |none=>true
  |some o=>o.guard.isNone&&o.after.all (λe=>!(Region.binds .any e)||decide (e.on<i))&&(match o.dst with
   |none=>false
   |some d=>decide (d<N)&&(List.range ops.size).all λj=>decide (j=i)||(ops[j]?).bind (·.dst) !=some d)
section
variable {P:Program} {ops:Array Oper} {Q:Exit->Act->World->Prop} {N:Nat}
theorem q2m(h:q2e ops N=true){i:Nat}{o:Oper}(ho:ops[i]? =some o):
  o.guard=none/\(∀e∈o.after,Region.binds .any e=true->e.on<i)/\∃d,o.dst=some d/\d<N/\∀j,j≠i->(ops[j]?).bind (·.dst)≠some d:=by
 have hi:i<ops.size:=(wal.1 ho).1;have h1:=wcp.1 h i (wcc.2 hi);rw[ho] at h1;simp only[wce] at h1;obtain⟨⟨h2,h3⟩,h4⟩:=h1;refine⟨by simpa using h2,λe he hb=>?_,?_⟩
 ·obtain⟨k,hk,rfl⟩:=Array.mem_iff_getElem.1 he
  have:=Array.all_eq_true.1 h3 k hk
  rw[hb] at this;simpa using this
 ·cases hd:o.dst with
  |none=>rw[hd] at h4;cases h4
  |some d=>
   rw[hd] at h4;simp only[wce] at h4;refine⟨d,rfl,by simpa using h4.1,λj hj=>?_⟩;by_cases hjs:j<ops.size
   ·have h5:=wcp.1 h4.2 j (wcc.2 hjs)
    simp only[wfn,decide_eq_true_eq] at h5;rcases h5 with h5|h5
    ·exact absurd h5 hj
    ·exact bne_iff_ne.1 h5
   ·rw[whg Zo]
    simp
variable {R:Nat->Value->World->Prop} {mk:Nat->Bool} {a0 a:Act} {w0 w w':World} {listed:Array Bool}
theorem qqt{a:Act}{d:Nat}(hd:d<a.tmps.size)(v:Value):(a.put (some d) v).tmps.getD d undef=v:=by
 simp[Act.put,Array.getD,hd]
theorem qh3{a:Act}{d s:Nat}(hd:d≠s)(v:Value):(a.put (some d) v).tmps.getD s undef=a.tmps.getD s undef:=by
 simp only[Act.put,whq];rw[wbw hd]
theorem Each.step(h:Each ops R mk a0 w0 listed a w)(hok:q2e ops a0.tmps.size=true)(hmono:∀i v w w',R i v w->Below w.heap.size w w'->R i v w'){i:Nat}{o:Oper}(ho:ops[i]? =some o)(hl:i<listed.size){v:Value}(hR:R i v w')(hB:Below w.heap.size w w')(hn:mk i=true->∃b,qkv v=some b/\w.heap.size<=b/\b<w'.heap.size):
  Each ops R mk a0 w0 (listed.setIfInBounds i true) (a.put o.dst v) w':=by
 obtain⟨-,-,d,hd,hdN,hdo⟩:=q2m hok ho;have hdi:(ops[i]?).bind (·.dst)=some d:=by rw[ho];exact hd
 have hda:d<a.tmps.size:=by rw[h.size];exact hdN
 rw[hd];have hli:∀j,j≠i->(listed.setIfInBounds i true).getD j false=listed.getD j false:=λj hj=>by
  simp only[whq];rw[wbw (Ne.symm hj)]
 have hsl:∀j e,j≠i->(ops[j]?).bind (·.dst)=some e->(a.put (some d) v).tmps.getD e undef=a.tmps.getD e undef:=λj e hj he=>qh3 (λhde=>hdo j hj (by rw[he,hde])) v
 have hsame:=qqt hda v;refine⟨by simp[Act.put,h.size],by simp[Act.put,h.defers],λs hs=>?_,h.below.trans (hB.mono h.below.size),λj e hj he=>?_,λj e hj hm he=>?_,λj k e f hjk hj hk hm hm' he hf=>?_⟩
 ·have hsd:d≠s:=λe=>hs i (by simp[Array.getD,hl]) (by rw[hdi,e])
  rw[qh3 hsd];refine h.keep s (λj hj=>?_);by_cases hji:j=i
  ·subst hji;rw[hdi];exact λe=>hsd (by injection e)
  ·exact hs j (by rw[hli j hji];exact hj)
 ·by_cases hji:j=i
  ·subst hji
   obtain rfl:d=e:=by rw[hdi] at he;injection he
   rw[hsame];exact hR
  ·rw[hli j hji] at hj
   rw[hsl j e hji he];exact hmono j _ w w' (h.rel j e hj he) hB
 ·by_cases hji:j=i
  ·subst hji
   obtain rfl:d=e:=by rw[hdi] at he;injection he
   rw[hsame];obtain⟨b,b1,b2,b3⟩:=hn hm;exact⟨b,b1,wap h.below.size b2,b3⟩
  ·rw[hli j hji] at hj
   rw[hsl j e hji he];obtain⟨b,b1,b2,b3⟩:=h.new j e hj hm he;exact⟨b,b1,b2,waw b3 hB.size⟩
 ·have key:∀j e,j≠i->listed.getD j false=true->mk j=true->mk i=true->(ops[j]?).bind (·.dst)=some e->qkv v≠qkv (a.tmps.getD e undef):=λj e _ hj hm hm' he=>by
   obtain⟨b,b1,b2,b3⟩:=hn hm';obtain⟨c,c1,c2,c3⟩:=h.new j e hj hm he;rw[b1,c1];exact λx=>by injection x with x;omega
  by_cases hji:j=i
  ·subst hji
   have hki:k≠j:=Ne.symm hjk;obtain rfl:d=e:=by rw[hdi] at he;injection he
   rw[hsame,hsl k f hki hf];exact key k f hki (by rw[<-hli k hki];exact hk) hm' hm hf
  ·by_cases hki:k=i
   ·subst hki
    obtain rfl:d=f:=by rw[hdi] at hf;injection hf
    rw[hsame,hsl j e hji he];exact Ne.symm (key j e hji (by rw[<-hli j hji];exact hj) hm hm' he)
   ·rw[hsl j e hji he,hsl k f hki hf]
    exact h.apart j k e f hjk (by rw[<-hli j hji];exact hj) (by rw[<-hli k hki];exact hk) hm hm' he hf
end
theorem LV.same{o q:LV}(h1:o.a=q.a)(h2:o.r=q.r)(h3:o.s=q.s)(h4:o.n=q.n)(h5:o.sp=q.sp)(h6:o.ix=q.ix)(h7:o.wd=q.wd):o=q:=by cases o;cases q;simp_all
section
variable {rt:List Nat} {kd:Nat->List Nat}
end
section
variable {rt:List Nat} {kd:Nat->List Nat} {ob:Nat->Option LV} {L M:List LV}
section
variable {F:List LV} {T C:List Nat} {i:Nat}
end
end
theorem BHit.of{c r s n:Int}(h:qbs r s n=true)(hc:clN n=c):BHit (bW r s n) c r s n:= .inr ⟨h,rfl,hc⟩
theorem BHit.class{x:Nat}{c r s n:Int}(h:BHit x c r s n)(hx:x≠0):clN n=c:=by
 rcases h with ⟨h,_⟩|⟨_,_,h⟩
 ·exact absurd h hx
 ·exact h
theorem LsRd.drewN{w:World}{A:Option Addr}{n:Nat}{l:List LV}(h:LsRd w A n l)(t:Nat):LsRd (w.drewN t) A n l:=h
theorem Ob.drewN{V:World}{b:Nat}{k c n:Int}(h:Ob V b k c n)(t:Nat):Ob (V.drewN t) b k c n:=h
theorem KeepT.refl(bp:Nat)(W:World):KeepT bp W W:=λ_ _ h _ _=>h
theorem KeepT.trans{bp:Nat}{A B C:World}(h:KeepT bp A B)(k:KeepT bp B C):KeepT bp A C:=λi o ho hne hc=>k i o (h i o ho hne hc) hne hc
section
variable {w W W':World} {s l r:Int} {hs:List HD} {vH vF vT vC v':Value} {F:List LV} {T C:List Nat}
theorem ReSt.drewN(h:ReSt w W s l r hs vH vF vT vC F T C)(t:Nat):ReSt w (W.drewN t) s l r hs vH vF vT vC F T C:=h.below (qad (wac _ _) t)
end
section
variable {rt:List Nat} {kd kd':Nat->List Nat} {ob ob':Nat->Option LV} {L:List LV}
end
section
variable {s l r:Int} {hs:List HD} {ws:List Nat} {L:List LV}
end
theorem MendR.one{ws v v':List Nat}(h:MendR ws v)(h':MendR ws v'):v'=v:=by
 obtain⟨s,l,r,rr,a,b,c⟩:=h;obtain⟨s',l',r',rr',a',b',c'⟩:=h';obtain⟨rfl,rfl,rfl⟩:=a.one a';obtain rfl:rr'=rr:=by rw[b] at b';injection b' with e;exact e.symm
 exact c.one c'
end Go.Proofs.YtocncmbeinmiaaaGreat
namespace Go.Proofs.YtocncmbeinmiaaaGreat
open Go Go.RowKit Go.Shelf
attribute [local go_sem] wcy
theorem LoopBk.others{W W':World}{L D:Nat}{r:Loop}(h:LoopBk W L D r)(hk:KeepsOthers W W'):LoopBk W' L D r:=⟨hk.same _ _ h.rec_ rfl,hk.same _ _ h.def_ rfl⟩
def LogsOwn(W:World)(base:Nat)(ws:List Nat)(vs:List Value):Prop:=∀k u,vs[k]? =some u->W.ownsRow base 152 2 u (qak ws k).length (eV (qak ws k))
theorem LogsOwn.below{W W':World}{base:Nat}{ws:List Nat}{vs:List Value}(h:LogsOwn W base ws vs)(hb:Below W.heap.size W W'):LogsOwn W' base ws vs:=λk u hu=>qaf (h k u hu) hb
theorem LogsOwn.put{W:World}{base:Nat}{ws:List Nat}{vs:List Value}{k:Nat}{o:Obj}(o':Obj)(h:LogsOwn W base ws vs)(hk:W.heap[k]? =some o)(ho:o.isCells=false):LogsOwn (W.putObj k o') base ws vs:=λj u hu=>ownsRow_putObj (h j u hu) o' hk ho
end Go.Proofs.YtocncmbeinmiaaaGreat
namespace Go.Proofs.YtocncmbeinmiaaaGreat
open Go Go.RowKit
theorem KpG.of_below{g:Nat}{W V:World}(hb:Below W.heap.size W V):KpG g W V:=(KpG.refl g W).below hb
section
variable {τ:Type}
variable {B:DB τ} {l l':List Nat} {s s':DM×τ} {F F':Nat->Prop} {w w' V w2 w3:World} {eb a b c b5 Bb C:Nat} {fs:Value} {fuse:Int} {ov:Bool} {T:List Nat}
theorem DB.At.lt(h:B.At C l s ov T F w){k:Nat}(hk:F k):k<w.heap.size:=by
 obtain⟨lv,G,an,k1,k2,⟨k4,k5,k6⟩,k7⟩:=h;exact k5 k hk
end
theorem Pick.drew{w0 w:World}{bn bl k:Nat}{A:Option Addr}{len cap:Nat}{L:List Int}(h:Pick w0 w bn bl k A len cap L):Pick w0 w.drew bn bl k A len cap L:=by
 obtain⟨h1,h2,h3,h4,h5,h6,h7⟩:=h;exact⟨h1,h2,h3,h4.drew,h5,h6,h7⟩
end Go.Proofs.YtocncmbeinmiaaaGreat
namespace Go.Proofs.YtocncmbeinmiaaaGreat
open Go Go.RowKit
open Go.Maps (Keyed)
section
variable {w0 w W:World} {p n c gs cs gk ck m:Nat} {st:Int} {D:DataW Value} {S K:List Nat} {f:Nat->Option (List Nat)} {gl cl bn bl k:Nat} {A:Option Addr} {len cap:Nat} {T:List Int} {L:List Nat}
theorem CI.drew(h:CI w0 w W p n c gs cs gk ck m st D S K f gl cl bn bl k A len cap T L):CI w0 w W.drew p n c gs cs gk ck m st D S K f gl cl bn bl k A len cap T L:=h.below (wac _ W).drew
end
end Go.Proofs.YtocncmbeinmiaaaGreat
namespace Go.Proofs.YtocncmbeinmiaaaGreat
open Go Go.RowKit
def RowI(w:World)(base:Nat)(v:Value)(L:List Int):Prop:=(v= .slice none 0 0/\L=[])\/∃(g cap:Nat) (cur:Array Value),v= .slice (some ⟨g,0,none⟩) L.length cap/\base<=g/\w.heap[g]? =some (.cells cur 3 (0,0))/\L.length<=cap/\cap<=maxLen/\cap<=cur.size/\∀(j:Nat) (x:Int),L[j]? =some x->cur[j]? =some (Value.int .i64 x)
theorem qnn:(Tryz.prog.info? 3).map (λi=>(i.zero,i.size,i.bytes))=some (some (.int .i64 0),1,8):=by kernel_rfl
section
variable {w w':World} {base:Nat} {v:Value} {L:List Int}
theorem RowI.nil(w:World)(base:Nat):RowI w base (.slice none 0 0) []:= .inl ⟨rfl,rfl⟩
theorem RowI.block(h:RowI w base v L)(hb:∀g,v.ownBlock=some g->w'.heap[g]? =w.heap[g]?):RowI w' base v L:=by
 rcases h with ⟨rfl,rfl⟩|⟨g,cap,cur,rfl,hg,hh,r⟩
 ·exact .inl ⟨rfl,rfl⟩
 ·exact .inr ⟨g,cap,cur,rfl,hg,(hb g rfl).trans hh,r⟩
theorem RowI.lt(h:RowI w base v L):∀g,v.ownBlock=some g->base<=g/\g<w.heap.size:=by
 rcases h with ⟨rfl,rfl⟩|⟨g,cap,cur,rfl,hg,hh,r⟩
 ·intro g e;cases e
 ·intro g' e
  injection e with e;subst e;exact⟨hg,(wal.1 hh).1⟩
theorem RowI.upd{F:Nat->Prop}(h:RowI w base v L)(hu:Upd F w w')(hF:∀g,v.ownBlock=some g->¬F g):RowI w' base v L:=h.block (λg hg=>hu.block g (h.lt g hg).2 (hF g hg))
theorem RowI.below(h:RowI w base v L)(hB:Below w.heap.size w w'):RowI w' base v L:=h.block (λg hg=>hB.block g (h.lt g hg).2)
theorem RowI.grown{row:Option Nat}(h:RowI w base v L)(hg:w.grownBy w' row)(hne:∀g,v.ownBlock=some g->some g≠row):RowI w' base v L:=h.block (λg e=>hg.block g (h.lt g e).2 (hne g e))
theorem RowI.shape(h:RowI w base v L):∃A c,v= .slice A L.length c/\L.length<=c/\Rd w A L.length (i64V L):=by
 rcases h with ⟨rfl,rfl⟩|⟨g,cap,cur,rfl,hg,hh,hc,hm,hs,hcur⟩
 ·exact⟨none,0,rfl,wab _,⟨rfl,λh=>absurd h Zs⟩⟩
 ·refine⟨some ⟨g,0,none⟩,cap,rfl,hc,⟨by simp[i64V],λ_=>⟨_,rfl,λj u hu=>?_⟩⟩⟩
  rw[wb5,qaa hh,wa4];simp only[i64V,wa1,wcz] at hu;obtain⟨y,hy,rfl⟩:=hu;exact hcur j y hy
theorem RowI.lower(h:RowI w base v L){base':Nat}(hb:base'<=base):RowI w base' v L:=by
 rcases h with ⟨rfl,rfl⟩|⟨g,cap,cur,rfl,hg,r⟩
 ·exact .inl ⟨rfl,rfl⟩
 ·exact .inr ⟨g,cap,cur,rfl,wap hb hg,r⟩
theorem RowI.of_own{n:Nat}(h:w.ownsRow base 3 1 v n (i64V L)):RowI w base v L:=by
 obtain⟨hl,h⟩:=h;have hn:L.length=n:=by simpa[i64V] using hl
 subst hn;rcases h with ⟨rfl,h0⟩|⟨g,cap,cur,rfl,hb,hh,hc,hm,hs,ht⟩
 ·exact .inl ⟨rfl,List.length_eq_zero_iff.1 h0⟩
 ·refine .inr ⟨g,cap,cur,rfl,hb,hh,hc,hm,Zo,λj x hx=>?_⟩
  have hj:=(wan.1 hx).1;have e:(i64V L)[j]? =some (Value.int .i64 x):=by simp[i64V,hx]
  rw[<-ht,wbh,if_pos Zo,wb9] at e;exact e
theorem q5s{a:Addr}{news:List Int}(h:∀(j:Nat) (x:Int),news[j]? =some x->w.cell? (a.add j)=some (Value.int .i64 x)):∀j u,(i64V news)[j]? =some u->w.cell? (a.add j)=some u:=by
 intro j u hu;simp only[i64V,wa1,wcz] at hu;obtain⟨x,hx,rfl⟩:=hu;exact h j x hx
theorem ql1{L:List Int}{j:Nat}{x:Int}(h:L[j]? =some x):(i64V L)[j]? =some (Value.int .i64 x):=by simp[i64V,h]
theorem qwr(W:World){cap:Nat}{cs:Array Value}(hb:base<=W.heap.size)(hc:L.length<=cap)(hm:cap<=maxLen)(hs:cap<=cs.size)(h:∀(j:Nat) (x:Int),L[j]? =some x->cs[j]? =some (Value.int .i64 x)):
  RowI (W.alloc (.cells cs 3)) base (.slice (some ⟨W.heap.size,0,none⟩) L.length cap) L:= .inr ⟨W.heap.size,cap,cs,rfl,hb,heap_alloc_new W _,hc,hm,hs,h⟩
theorem qmw(ty:TypeId)(h:RowI w base v L)(a:Addr)(m c:Nat)(news:List Int)(hm:news.length=m)(h0:0<m)(hnew:∀(j:Nat) (x:Int),news[j]? =some x->w.cell? (a.add j)=some (Value.int .i64 x))(hL:L.length+m<=1099511627776)(hbase:base<=w.heap.size):
  ∃v' w',(Builtin.append_ #[65,65] ty #[v,.slice (some a) m c]).run Tryz.prog w= .ok v' w'/\RowI w' base v' (L++news)/\w.grownBy w' v.ownBlock/\(v'.ownBlock=v.ownBlock\/∃g,v'.ownBlock=some g/\w.heap.size<=g):=by
 obtain⟨i,hi,hz,hsz,hby⟩:=info_parts qnn;have hnews:=q5s hnew;have hnl:(i64V news).length=m:=by rw[qcn,hm]
 rcases h with ⟨rfl,rfl⟩|⟨g,cap,cur,rfl,hb,hh,hlc,hcm,hcs,hcur⟩
 ·have hr:=run_append_nil (P:=Tryz.prog) w 65 ty 3 i _ wbs hi hz a m c (i64V news) (by rw[hnl,hsz];omega) hnews h0 (by simp at hL;omega) (by rw[hby];simp at hL;omega)
  have hge:=grownCap_ge w m 0 3;have hle:=grownCap_le_maxLen w m 0 3 (by simp only[maxLen];simp at hL;omega);refine⟨_,_,hr,?_,⟨rfl,rfl,rfl,by simp,λk hk _=>wbv w.drew _ k hk⟩,.inr ⟨_,rfl,wab _⟩⟩;have:=qwr (base:=base) (L:=[]++news) w.drew (cap:=grownCap w m 0 3) (cs:=(i64V news).toArray++Builtin.zeroCells (Value.int .i64 0).cells (grownCap w m 0 3 - m)) hbase (by simpa[hm] using hge) hle ?_ ?_
  ·simpa[hm] using this
  ·simp only[wf3,wbj,size_zeroCells,hnl]
   show _<=m+_*1
   omega
  ·intro j x hx
   have e:=ql1 (show news[j]? =some x by simpa using hx);have hj:=(wan.1 e).1;rw[wf4 (by simpa using hj),wcs];exact e
 ·by_cases hroom:L.length+m<=cap
  ·have hf:=run_firstCells_some (P:=Tryz.prog) w i.size m a m c (i64V news) (by rw[hnl,hsz];omega) hnews
   have hst:=run_storeCells_at Tryz.prog g L.length 3 (i64V news) 0 cur w hh (by rw[hnl];omega) (λu hu=>by
    obtain⟨x,_,rfl⟩:=wav.1 hu;rfl)
   rw[hsz] at hf;simp only[wdf] at hst;refine⟨.slice (some ⟨g,0,none⟩) (L.length+m) cap,w.setRow g (cur.toList.take L.length++i64V news++cur.toList.drop (L.length+(i64V news).length)).toArray,?_,.inr ⟨g,cap,_,by simp[hm],hb,setRow_heap w g cur _ 3 _ hh,by simp[hm];omega,hcm,?_,?_⟩,⟨rfl,rfl,rfl,by simp,λk _ hk=>setRow_other w g k _ (λe=>hk (by simp[Value.ownBlock,e]))⟩,.inl rfl⟩
   ·simp[Builtin.append_,run_underlying Tryz.underlying65,sizeOf,typeInfo,hi,Builtin.lenOf,hroom,hf,hsz,Addr.add_lit,hst]
   ·simp only[wbj,was,war,wbu,wdt,hnl]
    omega
   ·intro j x hx
    have hjl:j<L.length+m:=by have:=(wan.1 hx).1;simpa[hm] using this
    rw[wcs,wbm];by_cases hj:j<L.length
    ·rw[wbk Zx,wbf hj,wb9]
     exact hcur j x (by rw[<-hx,wbk hj])
    ·have e1:(cur.toList.take L.length).length=L.length:=by simp;omega
     rw[wbt (by rw[e1];omega),e1,wbk (by rw[hnl];omega)];rw[wbt Zo] at hx;exact ql1 hx
  ·have holds:∀j u,(i64V L)[j]? =some u->w.cell? ((⟨g,0,none⟩:Addr).add j)=some u:=by
    intro j u hu;rw[wb5,qaa hh,wa4];simp only[i64V,wa1,wcz] at hu;obtain⟨y,hy,rfl⟩:=hu;exact hcur j y hy
   have hr:=run_append_grow (P:=Tryz.prog) w 65 ty 3 i _ wbs hi hz ⟨g,0,none⟩ L.length cap (i64V L) (by rw[qcn,hsz];omega) holds a m c (i64V news) (by rw[hnl,hsz];omega) hnews Zo Zo (growslice_fits Zo (by rw[hby];omega));have hge:=grownCap_ge w (L.length+m) cap 3;have hle:=grownCap_le_maxLen w (L.length+m) cap 3 (by simp only[maxLen];omega);refine⟨_,_,hr,?_,⟨rfl,rfl,rfl,by simp,λk hk _=>wbv w.drew _ k hk⟩,.inr ⟨_,rfl,wab _⟩⟩;have:=qwr (base:=base) (L:=L++news) w.drew (cap:=grownCap w (L.length+m) cap 3) (cs:=(i64V L).toArray++(i64V news).toArray++Builtin.zeroCells (Value.int .i64 0).cells (grownCap w (L.length+m) cap 3 - (L.length+m))) hbase (by simpa[hm] using hge) hle ?_ ?_
   ·simpa[hm] using this
   ·simp only[wf3,wbj,size_zeroCells,hnl,qcn]
    show _<=L.length+m+_*1
    omega
   ·intro j x hx
    have e:=ql1 hx;have e3:i64V (L++news)=i64V L++i64V news:=by simp[i64V]
    rw[e3] at e;have hj:=(wan.1 e).1;rw[wf4 (by simpa using hj),<-e];simp
end
section
variable {ops:Array Oper} {w:World} {rest:List Oper} {o:Oper} {a:Act} {Q:Exit->Act->World->Prop}
end
section
variable {ops:Array Oper} {w:World} {o:Oper} {a:Act} {K:Act->World->Prop} {Q:Exit->Act->World->Prop} {E:Prop}
theorem qed(hgd:o.guard=none)(s x:Operand)(ho:o.op= .call {callee:= .builtin .append,args:=#[s,x],argTypes:=#[65,65]})(base:Nat)(v:Value)(L:List Int)(hs:a.eval s=v)(hown:RowI w base v L)(ad:Addr)(m c:Nat)(news:List Int)(hx:a.eval x= .slice (some ad) m c)(hm:news.length=m)(h0:0<m)(hnew:∀(j:Nat) (x:Int),news[j]? =some x->w.cell? (ad.add j)=some (Value.int .i64 x))(hL:L.length+m<=1099511627776)(hbase:base<=w.heap.size)(h:∀v' w',RowI w' base v' (L++news)->w.grownBy w' v.ownBlock->(v'.ownBlock=v.ownBlock\/∃g,v'.ownBlock=some g/\w.heap.size<=g)->K (a.put o.dst v') w'):
  if Region.wanted o (yielded ops a.tmps)=true then Oper.wp Tryz.prog o a w K Q else E:=by
 have hw:Region.wanted o (yielded ops a.tmps)=true:=by simp[Region.wanted,hgd]
 rw[if_pos hw];obtain⟨v',w',hr,h2,h3,h4⟩:=qmw o.type hown ad m c news hm h0 hnew hL hbase;unfold Oper.wp execOp;simp only[ho,resolve,invoke,builtin,wfb,Sem.run_pure,wgq,List.map_toArray,wc5,List.map_nil,hs,hx,hr];exact h v' w' h2 h3 h4
end
def qac3(c1 c2:Nat):Value:= .func (.func 371) #[] #[.pointer (some ⟨c1,0,none⟩),.pointer (some ⟨c2,0,none⟩)]
theorem qbc{w:World}{b o:Nat}{u v:Value}{q:Addr}(h:w.cell? q=some v)(hne:q.block≠b):(w.setCell ⟨b,o,none⟩ u).cell? q=some v:=(wdl (wat _ _ _ _ hne)).trans h
structure At2 (w:World) (base b o:Nat) (C:Array Value) (t:TypeId) (v:Value) (L:List Int):Prop where
 blk:w.heap[b]? =some (.cells C t (0,0))
 val:C[o]? =some v
 row:RowI w base v L
 ty:t≠3/\t≠327
theorem At2.lt{w:World}{base b o:Nat}{C:Array Value}{t:TypeId}{v:Value}{L:List Int}(h:At2 w base b o C t v L):b<w.heap.size:=(wal.1 h.blk).1
theorem At2.not_row{w:World}{base base' b o:Nat}{C:Array Value}{t:TypeId}{v v':Value}{L L':List Int}(h:At2 w base b o C t v L)(hr:RowI w base' v' L'):v'.ownBlock≠some b:=by
 rcases hr with ⟨rfl,-⟩|⟨g,cap,cur,rfl,-,hh,-⟩
 ·intro e;cases e
 ·intro e
  injection e with e;have e:g=b:=e;subst e;have:=h.blk
  rw[hh] at this;injection this with this;injection this with _ h2 _;exact h.ty.1 h2.symm
theorem qcm{w:World}{base b:Nat}{C:Array Value}{t:TypeId}{v':Value}{L':List Int}(hb:w.heap[b]? =some (.cells C t (0,0)))(ht:t≠3)(hr:RowI w base v' L'):v'.ownBlock≠some b:=by
 rcases hr with ⟨rfl,-⟩|⟨g,cap,cur,rfl,-,hh,-⟩
 ·intro e;cases e
 ·intro e
  injection e with e;have e:g=b:=e;subst e;rw[hh] at hb;injection hb with hb;injection hb with _ h2 _;exact ht h2.symm
theorem At2.cell{w:World}{base b o:Nat}{C:Array Value}{t:TypeId}{v:Value}{L:List Int}(h:At2 w base b o C t v L):w.cell? ⟨b,o,none⟩=some v:=by rw[qaa h.blk];exact h.val
theorem At2.froz{w:World}{base b o:Nat}{C:Array Value}{t:TypeId}{v:Value}{L:List Int}(h:At2 w base b o C t v L):w.frozen? ⟨b,o,none⟩=false:=qaj h.blk o
theorem At2.grown{w w':World}{base b o:Nat}{C:Array Value}{t:TypeId}{v:Value}{L:List Int}{row:Option Nat}(h:At2 w base b o C t v L)(hg:w.grownBy w' row)(hb:some b≠row)(hr:∀g,v.ownBlock=some g->some g≠row):At2 w' base b o C t v L:=
 ⟨(hg.block b h.lt hb).trans h.blk,h.val,h.row.grown hg hr,h.ty⟩
theorem At2.upd{w w':World}{base b o:Nat}{C:Array Value}{t:TypeId}{v:Value}{L:List Int}{F:Nat->Prop}(h:At2 w base b o C t v L)(hu:Upd F w w')(hb:¬F b)(hr:∀g,v.ownBlock=some g->¬F g):At2 w' base b o C t v L:=
 ⟨(hu.block b h.lt hb).trans h.blk,h.val,h.row.upd hu hr,h.ty⟩
theorem At2.set{w:World}{base b o:Nat}{C:Array Value}{t:TypeId}{v:Value}{L:List Int}(h:At2 w base b o C t v L){u:Value}{M:List Int}(hu:RowI w base u M):At2 (w.setCell ⟨b,o,none⟩ u) base b o (C.setIfInBounds o u) t u M:=by
 have ho:=(wal.1 h.val).1;refine⟨by rw[qah h.blk],by rw[wct ho],hu.block (λg hg=>wat _ _ _ _ (λe=>?_)),h.ty⟩;have:g=b:=e
 subst this;exact h.not_row hu hg
def Moved(w:World)(base b1 o1 b2 o2:Nat)(C1 C2:Array Value)(t1 t2:TypeId)(v1 v2:Value)(M1 M2:List Int)(w':World):Prop:=
 ∃u1 u2,At2 w' base b1 o1 (C1.setIfInBounds o1 u1) t1 u1 M1/\At2 w' base b2 o2 (C2.setIfInBounds o2 u2) t2 u2 M2/\(u1.ownBlock=v1.ownBlock\/∃g,u1.ownBlock=some g/\w.heap.size<=g)/\(u2.ownBlock=v2.ownBlock\/∃g,u2.ownBlock=some g/\w.heap.size<=g)/\
  (∀g,u1.ownBlock=some g->u2.ownBlock≠some g)/\Upd (λk=>k=b1\/k=b2\/v2.ownBlock=some k) w w'
theorem q87{w:World}{g o j:Nat}{cur:Array Value}{t:TypeId}{x:Value}(hh:w.heap[g]? =some (.cells cur t (0,0)))(h:cur[o+j]? =some x):w.cell? ((⟨g,o,none⟩:Addr).add j)=some x:=by
 rw[wb5,qaa hh];exact h
theorem qhb{C:Array Value}{o:Nat}{v:Value}(h:C[o]? =some v):C.setIfInBounds o v=C:=by
 apply wgp
 intro i;by_cases e:o=i
 ·subst e
  rw[wct (wal.1 h).1,h]
 ·rw[wbw e]
theorem q3k{C:Array Value}{o:Nat}{u v:Value}:(C.setIfInBounds o u).setIfInBounds o v=C.setIfInBounds o v:=by
 apply wgp
 intro i;by_cases e:o=i
 ·subst e
  simp only[whr];simp
 ·rw[wbw e,wbw e,wbw e]
section
variable {w W W':World} {base b1 o1 b2 o2:Nat} {C1 C2:Array Value} {t1 t2:TypeId} {v1 v2:Value} {L1 L2 M1 M2 M1' M2':List Int}
theorem Moved.start(h1:At2 w base b1 o1 C1 t1 v1 L1)(h2:At2 w base b2 o2 C2 t2 v2 L2)(hap:∀g,v1.ownBlock=some g->v2.ownBlock≠some g):Moved w base b1 o1 b2 o2 C1 C2 t1 t2 v1 v2 L1 L2 w:=
 ⟨v1,v2,by rw[qhb h1.val];exact h1,by rw[qhb h2.val];exact h2,.inl rfl,.inl rfl,hap,Upd.refl _ _⟩
theorem Moved.below(h:Moved w base b1 o1 b2 o2 C1 C2 t1 t2 v1 v2 M1 M2 W)(hB:Below W.heap.size W W'):Moved w base b1 o1 b2 o2 C1 C2 t1 t2 v1 v2 M1 M2 W':=by
 obtain⟨u1,u2,h1,h2,h3,h4,h5,h6⟩:=h;have hu:Upd (λ_=>False) W W':=Upd.of_below hB (wab _);exact⟨u1,u2,h1.upd hu (λe=>e) (λ_ _ e=>e),h2.upd hu (λe=>e) (λ_ _ e=>e),h3,h4,h5,h6.trans (hu.mono (λ_ e=>e.elim))⟩
theorem Moved.next{u1 u2:Value}(h1:At2 W base b1 o1 (C1.setIfInBounds o1 u1) t1 u1 M1)(h2:At2 W base b2 o2 (C2.setIfInBounds o2 u2) t2 u2 M2)(h3:u1.ownBlock=v1.ownBlock\/∃g,u1.ownBlock=some g/\w.heap.size<=g)(h4:u2.ownBlock=v2.ownBlock\/∃g,u2.ownBlock=some g/\w.heap.size<=g)(h6:Upd (λk=>k=b1\/k=b2\/v2.ownBlock=some k) w W)(hm:Moved W base b1 o1 b2 o2 (C1.setIfInBounds o1 u1) (C2.setIfInBounds o2 u2) t1 t2 u1 u2 M1' M2' W'):Moved w base b1 o1 b2 o2 C1 C2 t1 t2 v1 v2 M1' M2' W':=by
 obtain⟨x1,x2,k1,k2,k3,k4,k5,k6⟩:=hm;rw[q3k] at k1 k2;refine⟨x1,x2,k1,k2,?_,?_,k5,h6.after k6 (λk hk=>?_)⟩
 ·rcases k3 with e|⟨g,e,hg⟩
  ·rw[e];exact h3
  ·exact .inr ⟨g,e,wap h6.size hg⟩
 ·rcases k4 with e|⟨g,e,hg⟩
  ·rw[e];exact h4
  ·exact .inr ⟨g,e,wap h6.size hg⟩
 ·rcases hk with e|e|e
  ·exact .inl (.inl e)
  ·exact .inl (.inr (.inl e))
  ·rcases h4 with h4|⟨g,h4,hg⟩
   ·exact .inl (.inr (.inr (by rw[<-h4];exact e)))
   ·rw[h4] at e
    injection e with e;exact .inr Zo
end
def qacz(L:List Int)(n:Nat):List Int:=L.reverse.take n
def upV{α:Type}(f:Nat->α)(j:Nat)(v:α)(i:Nat):α:=if i=j then v else f i
theorem qha{α:Type}(f:Nat->α)(j:Nat)(v:α):upV f j v j=v:=if_pos rfl
theorem qcj{α:Type}(f:Nat->α){j i:Nat}(v:α)(h:i≠j):upV f j v i=f i:=if_neg h
def hpC(rv:Nat->Value)(s l r:Int)(hv cv:Value):Array Value:=#[.int .i64 s,.int .i64 l,.int .i64 r,hv,rv 0,rv 1,rv 2,rv 3,cv]
def caC(rv:Nat->Value)(L:Nat):Array Value:=((List.range (4*L)).map λj=>rv (4+j)).toArray
theorem qgd{rv:Nat->Value}{s l r:Int}{hv cv:Value}{j:Nat}(h:j<4):(hpC rv s l r hv cv)[4+j]? =some (rv j):=by
 match j,h with
 |0,_=>rfl
 |1,_=>rfl
 |2,_=>rfl
 |3,_=>rfl
theorem qwp{rv:Nat->Value}{s l r:Int}{hv cv v:Value}{j:Nat}(h:j<4):(hpC rv s l r hv cv).setIfInBounds (4+j) v=hpC (upV rv j v) s l r hv cv:=by
 match j,h with
 |0,_=>rfl
 |1,_=>rfl
 |2,_=>rfl
 |3,_=>rfl
theorem q95{rv:Nat->Value}{s l r:Int}{hv cv v:Value}{j:Nat}(h:4<=j):hpC (upV rv j v) s l r hv cv=hpC rv s l r hv cv:=by
 unfold hpC;rw[qcj _ _ Zo,qcj _ _ Zo,qcj _ _ Zo,qcj _ _ Zo]
theorem qnd{rv:Nat->Value}{L j:Nat}(h:j<4*L):(caC rv L)[j]? =some (rv (4+j)):=by
 unfold caC;rw[wcs,wa1,wdi h];rfl
theorem qabi{rv:Nat->Value}{L j:Nat}{v:Value}(h:j<4*L):(caC rv L).setIfInBounds j v=caC (upV rv (4+j) v) L:=by
 apply wgp
 intro i;have hs:∀f:Nat->Value,(caC f L).size=4*L:=λf=>by simp[caC]
 by_cases hi:i<4*L
 ·rw[qnd hi,whr]
  by_cases hj:j=i
  ·subst hj
   rw[if_pos rfl,if_pos (by rw[hs];exact h),qha]
  ·rw[if_neg hj,qnd hi,qcj _ _ Zo]
 ·rw[whg (by rw[Array.size_setIfInBounds,hs];omega),whg (by rw[hs];omega)]
theorem qaa2{rv:Nat->Value}{L j:Nat}{v:Value}(h:j<4):caC (upV rv j v) L=caC rv L:=by
 unfold caC;congr 1
 apply wdb
 intro i _;rw[qcj _ _ Zo]
structure HpR (w:World) (base p gh gc hcap ccap s L:Nat) (r:Int) (hs:List (Int×Int×Int)) (rv:Nat->Value) (rx:Nat->List Int) (F:Nat->Prop):Prop where
 blk:w.heap[p]? =some (.cells (hpC rv (s:Int) (L:Int) r (.slice (some ⟨gh,0,none⟩) s hcap) (.slice (some ⟨gc,0,none⟩) L ccap)) 120 (0,0))
 heads:w.ownsRow base 82 3 (.slice (some ⟨gh,0,none⟩) s hcap) s (hV hs)
 cach:w.heap[gc]? =some (.cells (caC rv L) 117 (0,0))
 rows:∀j,j<4+4*L->RowI w base (rv j) (rx j)
 apart:∀i j,i<4+4*L->j<4+4*L->i≠j->∀g,(rv i).ownBlock=some g->(rv j).ownBlock≠some g
 low:base<=p/\base<=gc/\base<=w.heap.size
 dims:(1<=s/\s<=16)/\1<=L/\L<=4
 cov:F p/\F gh/\F gc/\∀j,j<4+4*L->∀g,(rv j).ownBlock=some g->F g
 lts:∀k,F k->k<w.heap.size
def Hp(w:World)(base p s L:Nat)(r:Int)(hs:List (Int×Int×Int))(rx:Nat->List Int)(F:Nat->Prop):Prop:=∃gh gc hcap ccap rv,HpR w base p gh gc hcap ccap s L r hs rv rx F
def GrowH(F F':Nat->Prop)(w:World):Prop:=∀k,F' k->F k\/w.heap.size<=k
theorem GrowH.refl(F:Nat->Prop)(w:World):GrowH F F w:=λ_ h=> .inl h
section
variable {w w':World} {base p gh gc hcap ccap s L:Nat} {r:Int} {hs:List (Int×Int×Int)} {rv:Nat->Value} {rx:Nat->List Int} {F:Nat->Prop}
theorem HpR.upd{G:Nat->Prop}(h:HpR w base p gh gc hcap ccap s L r hs rv rx F)(hu:Upd G w w')(hG:∀k,F k->¬G k):HpR w' base p gh gc hcap ccap s L r hs rv rx F:=by
 obtain⟨h1,h2,h3,h4,h5,h6,h7,h8,h9⟩:=h;have hgh:=(h2.lt gh rfl).2;refine⟨(hu.block p (h9 p h8.1) (hG p h8.1)).trans h1,⟨h2.1,?_⟩,(hu.block gc (h9 gc h8.2.2.1) (hG gc h8.2.2.1)).trans h3,λj hj=>(h4 j hj).upd hu (λg hg=>hG g (h8.2.2.2 j hj g hg)),h5,⟨h6.1,h6.2.1,wap h6.2.2 hu.size⟩,h7,h8,λk hk=>waw (h9 k hk) hu.size⟩;rcases h2.2 with e|⟨g,cap,cur,e,a1,a2,a3⟩
 ·exact .inl e
 ·have hg:gh=g:=by
   injection e with e;injection e with e;injection e
  subst hg;exact .inr ⟨gh,cap,cur,e,a1,(hu.block gh hgh (hG gh h8.2.1)).trans a2,a3⟩
theorem HpR.new(h:HpR w base p gh gc hcap ccap s L r hs rv rx F)(hB:Below w.heap.size w w'):HpR w' base p gh gc hcap ccap s L r hs rv rx F:=h.upd (Upd.of_below hB (wab _):Upd (λ_=>False) w w') (λ_ _ e=>e)
theorem Hp.upd{G:Nat->Prop}(h:Hp w base p s L r hs rx F)(hu:Upd G w w')(hG:∀k,F k->¬G k):Hp w' base p s L r hs rx F:=by
 obtain⟨gh,gc,hcap,ccap,rv,h⟩:=h;exact⟨gh,gc,hcap,ccap,rv,h.upd hu hG⟩
theorem Hp.new(h:Hp w base p s L r hs rx F)(hB:Below w.heap.size w w'):Hp w' base p s L r hs rx F:=h.upd (Upd.of_below hB (wab _):Upd (λ_=>False) w w') (λ_ _ e=>e)
theorem Hp.lts(h:Hp w base p s L r hs rx F):∀k,F k->k<w.heap.size:=by
 obtain⟨gh,gc,hcap,ccap,rv,h⟩:=h;exact h.lts
theorem HpR.list(h:HpR w base p gh gc hcap ccap s L r hs rv rx F){j:Nat}(hj:j<4):At2 w base p (4+j) (hpC rv (s:Int) (L:Int) r (.slice (some ⟨gh,0,none⟩) s hcap) (.slice (some ⟨gc,0,none⟩) L ccap)) 120 (rv j) (rx j):=
 ⟨h.blk,qgd hj,h.rows j Zo,by decide⟩
theorem HpR.cache(h:HpR w base p gh gc hcap ccap s L r hs rv rx F){j:Nat}(hj:j<4*L):At2 w base gc j (caC rv L) 117 (rv (4+j)) (rx (4+j)):=
 ⟨h.cach,qnd hj,h.rows (4+j) Zo,by decide⟩
theorem HpR.ne(h:HpR w base p gh gc hcap ccap s L r hs rv rx F):p≠gc:=λe=>by
 have h1:=h.blk;rw[e,h.cach] at h1;injection h1 with h1;injection h1 with _ q _;exact absurd q Zd
theorem HpR.headN(h:HpR w base p gh gc hcap ccap s L r hs rv rx F):p≠gh/\gc≠gh/\(∀j,j<4+4*L->(rv j).ownBlock≠some gh)/\(∀j,j<4+4*L->(rv j).ownBlock≠some p)/\∀j,j<4+4*L->(rv j).ownBlock≠some gc:=by
 rcases h.heads.2 with ⟨e,h0⟩|⟨g,cap,cur,e,a1,a2,a3⟩
 ·cases e
 ·have hg:gh=g:=by
   injection e with e;injection e with e;injection e
  subst hg;refine⟨λe=>?_,λe=>?_,λj hj=>qcm a2 Zd (h.rows j hj),λj hj=>qcm h.blk Zd (h.rows j hj),λj hj=>qcm h.cach Zd (h.rows j hj)⟩
  ·have h1:=h.blk
   rw[e,a2] at h1;injection h1 with h1;injection h1 with _ q _;exact absurd q Zd
  ·have h1:=h.cach
   rw[e,a2] at h1;injection h1 with h1;injection h1 with _ q _;exact absurd q Zd
theorem HpR.turned{i j:Nat}(h:HpR w base p gh gc hcap ccap s L r hs rv rx F)(hi:i<4)(hj:j<4*L){u1 u2:Value}{M1 M2:List Int}{G:Nat->Prop}(hu:Upd G w w')(hG:∀k,G k->k=p\/k=gc\/(rv i).ownBlock=some k\/(rv (4+j)).ownBlock=some k\/¬F k)(h1:w'.heap[p]? =some (.cells ((hpC rv (s:Int) (L:Int) r (.slice (some ⟨gh,0,none⟩) s hcap) (.slice (some ⟨gc,0,none⟩) L ccap)).setIfInBounds (4+i) u1) 120 (0,0)))(h2:w'.heap[gc]? =some (.cells ((caC rv L).setIfInBounds j u2) 117 (0,0)))(hr1:RowI w' base u1 M1)(hr2:RowI w' base u2 M2)(ho1:u1.ownBlock=(rv i).ownBlock\/∃g,u1.ownBlock=some g/\w.heap.size<=g)(ho2:u2.ownBlock=(rv (4+j)).ownBlock\/∃g,u2.ownBlock=some g/\w.heap.size<=g)(hap:∀g,u1.ownBlock=some g->u2.ownBlock≠some g):
  ∃F',HpR w' base p gh gc hcap ccap s L r hs (upV (upV rv i u1) (4+j) u2) (upV (upV rx i M1) (4+j) M2) F'/\GrowH F F' w:=by
 obtain⟨q1,q2,q3,q4,q5⟩:=h.headN;have hGgh:¬G gh:=λhk=>by
  rcases hG gh hk with e|e|e|e|e
  ·exact q1 e.symm
  ·exact q2 e.symm
  ·exact q3 i Zo e
  ·exact q3 (4+j) Zo e
  ·exact e h.cov.2.1
 have hold:∀k,k<4+4*L->k≠i->k≠4+j->∀g,(rv k).ownBlock=some g->¬G g:=λk hk hki hkj g hg hGg=>by
  rcases hG g hGg with e|e|e|e|e
  ·exact q4 k hk (by rw[hg,e])
  ·exact q5 k hk (by rw[hg,e])
  ·exact h.apart k i hk Zo hki g hg e
  ·exact h.apart k (4+j) hk Zo hkj g hg e
  ·exact e (h.cov.2.2.2 k hk g hg)
 have hlt:∀k,k<4+4*L->∀g,(rv k).ownBlock=some g->g<w.heap.size:=λk hk g hg=>((h.rows k hk).lt g hg).2
 have hv:∀k,upV (upV rv i u1) (4+j) u2 k=if k=4+j then u2 else if k=i then u1 else rv k:=λk=>rfl
 have hx:∀k,upV (upV rx i M1) (4+j) M2 k=if k=4+j then M2 else if k=i then M1 else rx k:=λk=>rfl
 have hgh:=(h.heads.lt gh rfl).2;have hap1:∀k,k<4+4*L->k≠i->k≠4+j->∀g,u1.ownBlock=some g->(rv k).ownBlock≠some g:=λk hk hki hkj g hg e=>by
  rcases ho1 with e1|⟨g2,e1,hg2⟩
  ·exact h.apart k i hk Zo hki g e (by rw[<-e1];exact hg)
  ·rw[hg] at e1
   injection e1 with e1;have:=hlt k hk g e
   omega
 have hap2:∀k,k<4+4*L->k≠i->k≠4+j->∀g,u2.ownBlock=some g->(rv k).ownBlock≠some g:=λk hk hki hkj g hg e=>by
  rcases ho2 with e1|⟨g2,e1,hg2⟩
  ·exact h.apart k (4+j) hk Zo hkj g e (by rw[<-e1];exact hg)
  ·rw[hg] at e1
   injection e1 with e1;have:=hlt k hk g e
   omega
 refine⟨λk=>F k\/u1.ownBlock=some k\/u2.ownBlock=some k,⟨?_,⟨h.heads.1,?_⟩,?_,?_,?_,⟨h.low.1,h.low.2.1,wap h.low.2.2 hu.size⟩,h.dims,⟨.inl h.cov.1,.inl h.cov.2.1,.inl h.cov.2.2.1,?_⟩,?_⟩,?_⟩
 ·rw[q95 Zo,<-qwp hi]
  exact h1
 ·rcases h.heads.2 with e|⟨g,cap,cur,e,a1,a2,a3⟩
  ·exact .inl e
  ·have hg:gh=g:=by
    injection e with e;injection e with e;injection e
   subst hg;exact .inr ⟨gh,cap,cur,e,a1,(hu.block gh hgh hGgh).trans a2,a3⟩
 ·rw[<-qabi hj,qaa2 hi]
  exact h2
 ·intro k hk
  rw[hv,hx];by_cases e2:k=4+j
  ·rw[if_pos e2,if_pos e2];exact hr2
  ·rw[if_neg e2,if_neg e2]
   by_cases e1:k=i
   ·rw[if_pos e1,if_pos e1];exact hr1
   ·rw[if_neg e1,if_neg e1]
    exact(h.rows k hk).upd hu (hold k hk e1 e2)
 ·intro a b ha hb hab g hga hgb
  rw[hv] at hga hgb;by_cases a2:a=4+j
  ·rw[if_pos a2] at hga
   rw[if_neg Zo] at hgb;by_cases b1:b=i
   ·rw[if_pos b1] at hgb
    exact hap g hgb hga
   ·rw[if_neg b1] at hgb
    exact hap2 b hb b1 Zo g hga hgb
  ·rw[if_neg a2] at hga
   by_cases a1:a=i
   ·rw[if_pos a1] at hga
    by_cases b2:b=4+j
    ·rw[if_pos b2] at hgb
     exact hap g hga hgb
    ·rw[if_neg b2,if_neg Zo] at hgb
     exact hap1 b hb Zo b2 g hga hgb
   ·rw[if_neg a1] at hga
    by_cases b2:b=4+j
    ·rw[if_pos b2] at hgb
     exact hap2 a ha a1 a2 g hgb hga
    ·rw[if_neg b2] at hgb
     by_cases b1:b=i
     ·rw[if_pos b1] at hgb
      exact hap1 a ha a1 a2 g hgb hga
     ·rw[if_neg b1] at hgb
      exact h.apart a b ha hb hab g hga hgb
 ·intro k hk g hg
  rw[hv] at hg;by_cases e2:k=4+j
  ·rw[if_pos e2] at hg;exact .inr (.inr hg)
  ·rw[if_neg e2] at hg
   by_cases e1:k=i
   ·rw[if_pos e1] at hg;exact .inr (.inl hg)
   ·rw[if_neg e1] at hg
    exact .inl (h.cov.2.2.2 k hk g hg)
 ·rintro k (hk|hk|hk)
  ·exact waw (h.lts k hk) hu.size
  ·exact(hr1.lt k hk).2
  ·exact(hr2.lt k hk).2
 ·rintro k (hk|hk|hk)
  ·exact .inl hk
  ·rcases ho1 with e|⟨g,e,hg⟩
   ·exact .inl (h.cov.2.2.2 i Zo k (by rw[<-e];exact hk))
   ·rw[hk] at e;injection e with e;exact .inr Zo
  ·rcases ho2 with e|⟨g,e,hg⟩
   ·exact .inl (h.cov.2.2.2 (4+j) Zo k (by rw[<-e];exact hk))
   ·rw[hk] at e;injection e with e;exact .inr Zo
theorem qs4{α:Type}(f:Nat->α)(i:Nat):upV f i (f i)=f:=by
 funext k
 unfold upV;by_cases e:k=i
 ·rw[if_pos e,e]
 ·rw[if_neg e]
end
end Go.Proofs.YtocncmbeinmiaaaGreat
