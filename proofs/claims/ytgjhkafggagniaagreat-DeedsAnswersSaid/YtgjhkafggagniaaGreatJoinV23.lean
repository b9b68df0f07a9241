/- Parts. No condition. -/
import Derived.Laws.AppendOwn
import Derived.Laws.Append
import Derived.Laws.CopyRow
import Derived.Test.YtgjhkafggagniaaGreatJoinV00
set_option linter.unusedVariables false
set_option maxRecDepth 100000
set_option maxHeartbeats 8000000
namespace Go.Proofs.YtgjhkafggagniaaGreat
open Go Go.RowKit
def RowI(w:World)(base:Nat)(v:Value)(L:List Int):Prop:=(v= .slice none 0 0/\L=[])\/∃(g cap:Nat) (cur:Array Value),v= .slice (some ⟨g,0,none⟩) L.length cap/\base<=g/\w.heap[g]? =some (.cells cur 3 (0,0))/\L.length<=cap/\cap<=maxLen/\cap<=cur.size/\∀(j:Nat) (x:Int),L[j]? =some x->cur[j]? =some (Value.int .i64 x)
theorem qek:(Tryz.prog.info? 3).map (λi=>(i.zero,i.size,i.bytes))=some (some (.int .i64 0),1,8):=by kernel_rfl
section
variable {w w':World} {base:Nat} {v:Value} {L:List Int}
theorem RowI.nil(w:World)(base:Nat):RowI w base (.slice none 0 0) []:= .inl ⟨rfl,rfl⟩
theorem RowI.block(h:RowI w base v L)(hb:∀g,v.ownBlock=some g->w'.heap[g]? =w.heap[g]?):RowI w' base v L:=by
 rcases h with ⟨rfl,rfl⟩|⟨g,cap,cur,rfl,hg,hh,r⟩
 ·exact .inl ⟨rfl,rfl⟩
 ·exact .inr ⟨g,cap,cur,rfl,hg,(hb g rfl).trans hh,r⟩
theorem RowI.lt(h:RowI w base v L):∀g,v.ownBlock=some g->base<=g/\g<w.heap.size:=by
 rcases h with ⟨rfl,rfl⟩|⟨g,cap,cur,rfl,hg,hh,r⟩
 ·intro g e;cases e
 ·intro g' e
  injection e with e;subst e;exact⟨hg,(waj.1 hh).1⟩
theorem RowI.upd{F:Nat->Prop}(h:RowI w base v L)(hu:Upd F w w')(hF:∀g,v.ownBlock=some g->¬F g):RowI w' base v L:=h.block (λg hg=>hu.block g (h.lt g hg).2 (hF g hg))
theorem RowI.below(h:RowI w base v L)(hB:Below w.heap.size w w'):RowI w' base v L:=h.block (λg hg=>hB.block g (h.lt g hg).2)
theorem RowI.grown{row:Option Nat}(h:RowI w base v L)(hg:w.grownBy w' row)(hne:∀g,v.ownBlock=some g->some g≠row):RowI w' base v L:=h.block (λg e=>hg.block g (h.lt g e).2 (hne g e))
theorem RowI.shape(h:RowI w base v L):∃A c,v= .slice A L.length c/\L.length<=c/\Rd w A L.length (i64V L):=by
 rcases h with ⟨rfl,rfl⟩|⟨g,cap,cur,rfl,hg,hh,hc,hm,hs,hcur⟩
 ·exact⟨none,0,rfl,wah _,⟨rfl,λh=>absurd h Zs⟩⟩
 ·refine⟨some ⟨g,0,none⟩,cap,rfl,hc,⟨by simp[i64V],λ_=>⟨_,rfl,λj u hu=>?_⟩⟩⟩
  rw[wbg,qab hh,wav];simp only[i64V,way,wb3] at hu;obtain⟨y,hy,rfl⟩:=hu;exact hcur j y hy
theorem RowI.lower(h:RowI w base v L){base':Nat}(hb:base'<=base):RowI w base' v L:=by
 rcases h with ⟨rfl,rfl⟩|⟨g,cap,cur,rfl,hg,r⟩
 ·exact .inl ⟨rfl,rfl⟩
 ·exact .inr ⟨g,cap,cur,rfl,wam hb hg,r⟩
theorem RowI.of_own{n:Nat}(h:w.ownsRow base 3 1 v n (i64V L)):RowI w base v L:=by
 obtain⟨hl,h⟩:=h;have hn:L.length=n:=by simpa[i64V] using hl
 subst hn;rcases h with ⟨rfl,h0⟩|⟨g,cap,cur,rfl,hb,hh,hc,hm,hs,ht⟩
 ·exact .inl ⟨rfl,List.length_eq_zero_iff.1 h0⟩
 ·refine .inr ⟨g,cap,cur,rfl,hb,hh,hc,hm,Zo,λj x hx=>?_⟩
  have hj:=(was.1 hx).1;have e:(i64V L)[j]? =some (Value.int .i64 x):=by simp[i64V,hx]
  rw[<-ht,waw,if_pos Zo,wbm] at e;exact e
theorem qke{a:Addr}{news:List Int}(h:∀(j:Nat) (x:Int),news[j]? =some x->w.cell? (a.add j)=some (Value.int .i64 x)):∀j u,(i64V news)[j]? =some u->w.cell? (a.add j)=some u:=by
 intro j u hu;simp only[i64V,way,wb3] at hu;obtain⟨x,hx,rfl⟩:=hu;exact h j x hx
theorem qf9{L:List Int}{j:Nat}{x:Int}(h:L[j]? =some x):(i64V L)[j]? =some (Value.int .i64 x):=by simp[i64V,h]
theorem qo8(W:World){cap:Nat}{cs:Array Value}(hb:base<=W.heap.size)(hc:L.length<=cap)(hm:cap<=maxLen)(hs:cap<=cs.size)(h:∀(j:Nat) (x:Int),L[j]? =some x->cs[j]? =some (Value.int .i64 x)):
  RowI (W.alloc (.cells cs 3)) base (.slice (some ⟨W.heap.size,0,none⟩) L.length cap) L:= .inr ⟨W.heap.size,cap,cs,rfl,hb,heap_alloc_new W _,hc,hm,hs,h⟩
theorem qdx(ty:TypeId)(h:RowI w base v L)(a:Addr)(m c:Nat)(news:List Int)(hm:news.length=m)(h0:0<m)(hnew:∀(j:Nat) (x:Int),news[j]? =some x->w.cell? (a.add j)=some (Value.int .i64 x))(hL:L.length+m<=1099511627776)(hbase:base<=w.heap.size):
  ∃v' w',(Builtin.append_ #[24,24] ty #[v,.slice (some a) m c]).run Tryz.prog w= .ok v' w'/\RowI w' base v' (L++news)/\w.grownBy w' v.ownBlock/\(v'.ownBlock=v.ownBlock\/∃g,v'.ownBlock=some g/\w.heap.size<=g):=by
 obtain⟨i,hi,hz,hsz,hby⟩:=info_parts qek;have hnews:=qke hnew;have hnl:(i64V news).length=m:=by rw[qbi,hm]
 rcases h with ⟨rfl,rfl⟩|⟨g,cap,cur,rfl,hb,hh,hlc,hcm,hcs,hcur⟩
 ·have hr:=run_append_nil (P:=Tryz.prog) w 24 ty 3 i _ wa9 hi hz a m c (i64V news) (by rw[hnl,hsz];omega) hnews h0 (by simp at hL;omega) (by rw[hby];simp at hL;omega)
  have hge:=grownCap_ge w m 0 3;have hle:=grownCap_le_maxLen w m 0 3 (by simp only[maxLen];simp at hL;omega);refine⟨_,_,hr,?_,⟨rfl,rfl,rfl,by simp,λk hk _=>wbc w.drew _ k hk⟩,.inr ⟨_,rfl,wah _⟩⟩;have:=qo8 (base:=base) (L:=[]++news) w.drew (cap:=grownCap w m 0 3) (cs:=(i64V news).toArray++Builtin.zeroCells (Value.int .i64 0).cells (grownCap w m 0 3 - m)) hbase (by simpa[hm] using hge) hle ?_ ?_
  ·simpa[hm] using this
  ·simp only[Array.size_append,wa8,size_zeroCells,hnl]
   show _<=m+_*1
   omega
  ·intro j x hx
   have e:=qf9 (show news[j]? =some x by simpa using hx);have hj:=(was.1 e).1;rw[wfg (by simpa using hj),wcd];exact e
 ·by_cases hroom:L.length+m<=cap
  ·have hf:=run_firstCells_some (P:=Tryz.prog) w i.size m a m c (i64V news) (by rw[hnl,hsz];omega) hnews
   have hst:=run_storeCells_at Tryz.prog g L.length 3 (i64V news) 0 cur w hh (by rw[hnl];omega) (λu hu=>by
    obtain⟨x,_,rfl⟩:=wbb.1 hu;rfl)
   rw[hsz] at hf;simp only[wd2] at hst;refine⟨.slice (some ⟨g,0,none⟩) (L.length+m) cap,w.setRow g (cur.toList.take L.length++i64V news++cur.toList.drop (L.length+(i64V news).length)).toArray,?_,.inr ⟨g,cap,_,by simp[hm],hb,setRow_heap w g cur _ 3 _ hh,by simp[hm];omega,hcm,?_,?_⟩,⟨rfl,rfl,rfl,by simp,λk _ hk=>setRow_other w g k _ (λe=>hk (by simp[Value.ownBlock,e]))⟩,.inl rfl⟩
   ·simp[Builtin.append_,run_underlying Tryz.underlying24,sizeOf,typeInfo,hi,Builtin.lenOf,hroom,hf,hsz,Addr.add_lit,hst]
   ·simp only[wa8,wbh,war,wc2,wex,hnl]
    omega
   ·intro j x hx
    have hjl:j<L.length+m:=by have:=(was.1 hx).1;simpa[hm] using this
    rw[wcd,wbi];by_cases hj:j<L.length
    ·rw[wbj Zx,wde hj,wbm]
     exact hcur j x (by rw[<-hx,wbj hj])
    ·have e1:(cur.toList.take L.length).length=L.length:=by simp;omega
     rw[wbv (by rw[e1];omega),e1,wbj (by rw[hnl];omega)];rw[wbv Zo] at hx;exact qf9 hx
  ·have holds:∀j u,(i64V L)[j]? =some u->w.cell? ((⟨g,0,none⟩:Addr).add j)=some u:=by
    intro j u hu;rw[wbg,qab hh,wav];simp only[i64V,way,wb3] at hu;obtain⟨y,hy,rfl⟩:=hu;exact hcur j y hy
   have hr:=run_append_grow (P:=Tryz.prog) w 24 ty 3 i _ wa9 hi hz ⟨g,0,none⟩ L.length cap (i64V L) (by rw[qbi,hsz];omega) holds a m c (i64V news) (by rw[hnl,hsz];omega) hnews Zo Zo (growslice_fits Zo (by rw[hby];omega));have hge:=grownCap_ge w (L.length+m) cap 3;have hle:=grownCap_le_maxLen w (L.length+m) cap 3 (by simp only[maxLen];omega);refine⟨_,_,hr,?_,⟨rfl,rfl,rfl,by simp,λk hk _=>wbc w.drew _ k hk⟩,.inr ⟨_,rfl,wah _⟩⟩;have:=qo8 (base:=base) (L:=L++news) w.drew (cap:=grownCap w (L.length+m) cap 3) (cs:=(i64V L).toArray++(i64V news).toArray++Builtin.zeroCells (Value.int .i64 0).cells (grownCap w (L.length+m) cap 3 - (L.length+m))) hbase (by simpa[hm] using hge) hle ?_ ?_
   ·simpa[hm] using this
   ·simp only[Array.size_append,wa8,size_zeroCells,hnl,qbi]
    show _<=L.length+m+_*1
    omega
   ·intro j x hx
    have e:=qf9 hx;have e3:i64V (L++news)=i64V L++i64V news:=by simp[i64V]
    rw[e3] at e;have hj:=(was.1 e).1;rw[wfg (by simpa using hj),<-e];simp
theorem qjl(ty:TypeId){g i m c:Nat}{cur:Array Value}{pre news:List Int}(hh:w.heap[g]? =some (.cells cur 3 (0,0)))(hg:base<=g)(hbase:base<=w.heap.size)(hp:pre.length=i)(hpre:∀(j:Nat) (x:Int),pre[j]? =some x->cur[j]? =some (Value.int .i64 x))(hi:i<=cur.size)(hi2:i<=1000000)(a:Addr)(hm:news.length=m)(hm2:m<=1000000)(hnew:∀(j:Nat) (x:Int),news[j]? =some x->w.cell? (a.add j)=some (Value.int .i64 x)):
  ∃v' w',(Builtin.append_ #[24,24] ty #[.slice (some ⟨g,0,none⟩) i i,.slice (some a) m c]).run Tryz.prog w= .ok v' w'/\RowI w' base v' (pre++news)/\w.grownBy w' none/\(v'.ownBlock=some g\/∃g',v'.ownBlock=some g'/\w.heap.size<=g'):=by
 have hrow:RowI w base (.slice (some ⟨g,0,none⟩) i i) pre:= .inr ⟨g,i,cur,by rw[hp],hg,hh,Zo,by simp only[maxLen];omega,hi,hpre⟩;by_cases h0:0<m
 ·obtain⟨v',w',h1,h2,h3,h4⟩:=qdx ty hrow a m c news hm h0 hnew Zo hbase
  obtain⟨ti,hti,hz,hsz,hby⟩:=info_parts qek;have holds:∀j u,(i64V pre)[j]? =some u->w.cell? ((⟨g,0,none⟩:Addr).add j)=some u:=by
   intro j u hu;rw[wbg,qab hh,wav];simp only[i64V,way,wb3] at hu;obtain⟨y,hy,rfl⟩:=hu;exact hpre j y hy
  have hr:=run_append_grow (P:=Tryz.prog) w 24 ty 3 ti _ wa9 hti hz ⟨g,0,none⟩ i i (i64V pre) (by rw[qbi,hsz];omega) holds a m c (i64V news) (by rw[qbi,hsz];omega) (qke hnew) Zo Zo (growslice_fits Zo (by rw[hby];omega));rw[hr] at h1;injection h1 with e1 e2;subst e1 e2;exact⟨_,_,hr,h2,⟨rfl,rfl,rfl,by simp,λk hk _=>wbc w.drew _ k hk⟩,.inr ⟨_,rfl,wah _⟩⟩
 ·obtain rfl:m=0:=Zo
  obtain rfl:=List.length_eq_zero_iff.1 hm;obtain⟨ti,hti,hz,hsz,hby⟩:=info_parts qek;have hf:=run_firstCells_some (P:=Tryz.prog) w ti.size 0 a 0 c [] Zs Zs;have hst:=run_storeCells_at Tryz.prog g i 3 [] 0 cur w hh (by simpa using hi) Zs;rw[hsz] at hf;simp only[wd2,wba,wb2,List.take_append_drop,Array.toArray_toList] at hst;rw[setRow_self w g cur 3 (0,0) hh] at hst;refine⟨.slice (some ⟨g,0,none⟩) i i,w,?_,by rw[wba];exact hrow,⟨rfl,rfl,rfl,wah _,λk _ _=>rfl⟩,.inl rfl⟩;simp[Builtin.append_,run_underlying Tryz.underlying24,sizeOf,typeInfo,hti,Builtin.lenOf,hf,hsz,Addr.add_lit,hst]
end
section
variable {ops:Array Oper} {w:World} {rest:List Oper} {o:Oper} {a:Act} {Q:Exit->Act->World->Prop}
theorem qed(hgd:o.guard=none)(s x:Operand)(ho:o.op= .call {callee:= .builtin .append,args:=#[s,x],argTypes:=#[24,24]})(base:Nat)(v:Value)(L:List Int)(hs:a.eval s=v)(hown:RowI w base v L)(ad:Addr)(m c:Nat)(news:List Int)(hx:a.eval x= .slice (some ad) m c)(hm:news.length=m)(h0:0<m)(hnew:∀(j:Nat) (x:Int),news[j]? =some x->w.cell? (ad.add j)=some (Value.int .i64 x))(hL:L.length+m<=1099511627776)(hbase:base<=w.heap.size)(h:∀v' w',RowI w' base v' (L++news)->w.grownBy w' v.ownBlock->(v'.ownBlock=v.ownBlock\/∃g,v'.ownBlock=some g/\w.heap.size<=g)->wpList Tryz.prog ops Q rest (a.put o.dst v') w'):
  wpList Tryz.prog ops Q (o::rest) a w:=by
 refine wpList_plain hgd λK hK=>?_
 obtain⟨v',w',hr,h2,h3,h4⟩:=qdx o.type hown ad m c news hm h0 hnew hL hbase;unfold Oper.wp execOp;simp only[ho,resolve,invoke,builtin,wcc,wcy,wau,wdr,wds,wdt,hs,hx,hr];exact hK _ _ (h v' w' h2 h3 h4)
end
end Go.Proofs.YtgjhkafggagniaaGreat
