/- Parts. No condition. -/
import Derived.Test.YtocncmbeinmiaaaGreatJoinU44
set_option linter.unusedVariables false
set_option maxRecDepth 100000
set_option maxHeartbeats 8000000
namespace Go.Proofs.YtocncmbeinmiaaaGreat
open Go Go.RowKit
open Go.Maps (Keyed)
theorem qn3(w:World)(a:Addr)(n c:Nat):(binOp .eql 94 (.slice (some a) n c) (.slice none 0 0)).run Tryz.prog w= .ok (.bool false) w:=by
 have h:∀d:Nat,(Op.equalIn (d+1) 94 (.slice (some a) n c) (.slice none 0 0)).run Tryz.prog w= .ok false w:=λd=>by
  simp[Op.equalIn,run_underlying Tryz.underlying94]
 simp only[binOp];simp[Op.equal,Op.maxDepth,h 9999]
theorem q69(w:World)(k:FuncId)(cs:Array Value):(binOp .eql 61 (.func (.func k) #[] cs) .nilFunc).run Tryz.prog w= .ok (.bool false) w:=by
 have h:∀d:Nat,(Op.equalIn (d+1) 61 (.func (.func k) #[] cs) .nilFunc).run Tryz.prog w= .ok false w:=λd=>by
  simp[Op.equalIn,run_underlying Tryz.underlying61]
 simp only[binOp];simp[Op.equal,Op.maxDepth,h 9999]
theorem qpl{w:World}{base g cap n:Nat}{S:List Nat}(hown:w.ownsRow base 101 8 (.slice (some ⟨g,0,none⟩) n cap) n (u64V S))(h0:0<n)(hn:n<=2048):
  Calls Tryz.prog 49 #[.slice (some ⟨g,0,none⟩) n cap] w λe w'=>∃g' cap',e= .returned (.slice (some ⟨g',0,none⟩) n cap')/\w'.ownsRow w.heap.size 101 8 (.slice (some ⟨g',0,none⟩) n cap') n (u64V S)/\Below w.heap.size w w':=by
 obtain⟨i0,ii,iz0,iz1,iz2⟩:=info_parts qgj;have hlen:=hown.1;have hglt:=(qcs hown).2;have hnews:=(hown.alloc (.cells #[] 101)).cells (g:=g) rfl;have h1:∀u∈u64V S,u.oneCell'=true:=λv hv=>by
  obtain⟨x,_,rfl⟩:=wav.1 hv;rfl
 have hnil:=λw=>qn3 w ⟨g,0,none⟩ n cap
 have hlit:=wcq (base:=w.heap.size) (e:=101) (size:=8) w #[] 0 (wab _) Zd rfl;go_enter Tryz.func49,Tryz.ntmps49;go_wp2_with (at_builtin;go_loud (refine wpList_append_own _ rfl _ _ 94 rfl w.heap.size 101 i0 _ 8 64 wgc ii iz0 iz1 iz2 rfl Zd _ 0 [] rfl hlit ⟨g,0,none⟩ n cap (u64V S) rfl hlen hnews h1 (by simp only[maxLen];omega) Zo Zs ?_;intro v' w2 hown2 hgrow _;rw[wa4,wba] at hown2;obtain⟨g',cap',rfl,hgb,hgl⟩:=hown2.form h0;have hB:=((wac _ w).alloc (wab _) (.cells #[] 101)).grown hgrow Zs (qa0 hlit)))
 go_ret;exact⟨g',cap',rfl,hown2,hB⟩
theorem qj5:∀(r L:List Nat) (i:Nat),i<L.length->(unl L r)[i]? =L[i]?
 |[],_,_,_=>rfl
 |x::r,L,i,h=>by
  unfold unl;split
  ·exact qj5 r L i h
  ·rw[qj5 r (L++[x]) i Zx,wbk h]
theorem q6z(a:Nat)(r:List Nat):(unl [] (a::r))[0]? =some a:=by
 have h:unl [] (a::r)=unl [a] r:=by simp[unl]
 rw[h,qj5 r [a] 0 Zs];rfl
theorem qpn{S:List Nat}{i j:Nat}(hj:j<8):(qap S i)[j]? =S[i*8+j]?:=by
 unfold qap;rw[wbh,if_pos hj,wbd]
theorem qn1{z:Prop}{n i j x:Nat}{S K L:List Nat}{f:Nat->Option (List Nat)}(h:Crashed z n S K f L)(hj:i<n)(hi:j<8){a b c:Nat}(ha:(qap K i)[j]? =some a)(hb:((f i).getD (qap K i))[j]? =some b)(hc:S[i*8+j]? =some c)(hx:x∈unl [] [a,b,c])(hz:z->(unl [] [a,b,c])[0]? =some x):Crashed z n S K f (L.set (i*8+j) x):=by
 rw[qpn hi] at ha;refine h.set Zo ?_ (λhzz=>by have:=hz hzz;rw[q6z] at this;rw[ha,this]);have hd:(i*8+j)/8=i:=Zo
 have hm:(i*8+j)%8=j:=Zo
 rw[hd,hm];rcases qou _ _ _ hx with hx|hx
 ·cases hx
 ·rcases wbg.1 hx with rfl|hx
  ·exact .inl ha
  ·rcases wbg.1 hx with rfl|hx
   ·cases hf:f i with
    |none=>
     rw[hf] at hb;rw[show(none:Option (List Nat)).getD (qap K i)=qap K i from rfl,qpn hi] at hb;exact .inl hb
    |some l=>rw[hf] at hb;exact .inr (.inr ⟨l,rfl,hb⟩)
   ·rcases wbg.1 hx with rfl|hx
    ·exact .inr (.inl hc)
    ·cases hx
theorem qfu{w w':World}{b o r:Nat}{cs:List Value}(h:w.rangeAt b o cs)(hg:w.grownBy w' (some r))(hne:b≠r):w'.rangeAt b o cs:=λj v hv=>hg.cell (h j v hv) (λe=>hne (by injection e))
theorem qel{w w':World}{b o:Nat}{cs:List Value}(h:w.rangeAt b o cs)(hb:Below w.heap.size w w'):w'.rangeAt b o cs:=λj v hv=>(hb.cell (p:=⟨b,o+j,none⟩) (wak w _ (h j v hv))).trans (h j v hv)
theorem qn9{w:World}{l:List Nat}{i x:Nat}(hi:i<8)(hx:l[i]? =some x):(Instr.index 101 (qcd l) (.int .i64 (i:Int))).run Tryz.prog w= .ok (.int .u64 (x:Int)) w:=by
 have hc:(u64V l)[i]? =some (.int .u64 (x:Int)):=by simp[u64V,hx]
 unfold Instr.index qcd;simp[run_underlying Tryz.underlying101,asIntOf,part,hi,hc]
theorem qgl{ops:Array Oper}{rest:List Oper}{o:Oper}{a:Act}{Q:Exit->Act->World->Prop}{w:World}{l:List Nat}{i x:Nat}(hg:o.guard=none)(u v:Operand)(hop:o.op=Op.index 101 u v)(hu:a.eval u=qcd l)(hv:a.eval v= .int .i64 (i:Int))(hi:i<8)(hx:l[i]? =some x)(hK:wpList Tryz.prog ops Q rest (a.put o.dst (.int .u64 (x:Int))) w):wpList Tryz.prog ops Q (o::rest) a w:=by
 refine wpList_plain hg λK' hK'=>?_
 unfold Oper.wp;simp[execOp,hop,hu,hv,qn9 hi hx,Result.andThen]
 exact hK' _ _ hK
section
variable {w0 w W:World} {p n c gs cs gk ck m:Nat} {st:Int} {D:DataW Value} {S K:List Nat} {f:Nat->Option (List Nat)} {gl cl bn bl k:Nat} {A:Option Addr} {len cap:Nat} {T:List Int} {L:List Nat}
end
theorem qt2{w:World}{base base' g n cap:Nat}{e:TypeId}{xs:List Value}(h:w.ownsRow base e 8 (.slice (some ⟨g,0,none⟩) n cap) n xs)(hb:base'<=base):w.ownsRow base' e 8 (.slice (some ⟨g,0,none⟩) n cap) n xs:=by
 obtain⟨e1,e2⟩:=h;refine⟨e1,?_⟩;rcases e2 with e2|⟨g,cap,cur,a1,a2,a3⟩
 ·exact .inl e2
 ·exact .inr ⟨g,cap,cur,a1,wap hb a2,a3⟩
theorem qqz{z:Prop}{n:Nat}{S K L:List Nat}{D:DataW Value}{f:Nat->Option (List Nat)}(h:Crashed z n S K f L)(hS:∀x∈S,x<18446744073709551616)(hK:∀x∈K,x<18446744073709551616)(hD:Noted D n f):∀x∈L,x<18446744073709551616:=by
 intro x hx;obtain⟨i,hi,he⟩:=List.mem_iff_getElem.1 hx;have h0:L[i]? =some x:=by rw[waj hi,he]
 rcases h.2.1 i (by rw[<-h.1];exact hi) with h1|h1|⟨l,h1,h2⟩
 ·rw[h0] at h1;exact hK x (waq h1.symm)
 ·rw[h0] at h1;exact hS x (waq h1.symm)
 ·rw[h0] at h2;exact(hD.2.2.2 _ l h1).2.2.1 x (waq h2.symm)
theorem RegAt.renewed{w:World}{base p n c gs cs gk ck m gl cl g2 c2:Nat}{st:Int}{D:DataW Value}{S K L:List Nat}{f:Nat->Option (List Nat)}(h:RegAt w base p n c gs cs gk ck m st D S K f)(h1:w.ownsRow base 101 8 (.slice (some ⟨gl,0,none⟩) n cl) n (u64V L))(h2:w.ownsRow base 101 8 (.slice (some ⟨g2,0,none⟩) n c2) n (u64V L))(hne:gl≠g2)(hp1:p≠gl)(hp2:p≠g2)(hL:∀x∈L,x<18446744073709551616):
  RegAt ((w.setCell ⟨p,0,none⟩ (.slice (some ⟨gl,0,none⟩) n cl)).setCell ⟨p,1,none⟩ (.slice (some ⟨g2,0,none⟩) n c2)) base p n c gl cl g2 c2 m st D L L f:=by
 obtain⟨a1,a2,a3⟩:=h.apart;obtain⟨⟨_,l1⟩,⟨_,l2⟩,⟨_,l3⟩,⟨_,l4⟩⟩:=h.lts;have q1:=(qcs h1).2;have q2:=(qcs h2).2;obtain⟨k1,k2,k3,k4,k5,k6,k6',hp,hs,hk,hm,hD,hS,hK⟩:=h;have hg:=qlf (qbb w ⟨p,0,none⟩ (.slice (some ⟨gl,0,none⟩) n cl)) (qbb _ ⟨p,1,none⟩ (.slice (some ⟨g2,0,none⟩) n c2));have hne':∀{x:Nat},p≠x->some x≠some p:=λhx e=>hx (by injection e with e;exact e.symm)
 exact⟨k1,k2,hp1,hp2,hne,k6,k6',by rw[qah (qah hp 0 _) 1 _];rfl,qa5 h1 (hg.block gl q1 (hne' hp1)),qa5 h2 (hg.block g2 q2 (hne' hp2)),qc4 hm (hg.block m l4 (hne' a1)),hD,hL,hL⟩
theorem q3d{w0 w:World}{p n c:Nat}{S K:List Nat}{f:Nat->Option (List Nat)}{bn bl:Nat}{A:Option Addr}{len cap:Nat}{T:List Int}(h:Reg w w0.heap.size p n c S K f)(hp:Pick w0 w bn bl 0 A len cap T):
  Calls Tryz.prog 29 #[.pointer (some ⟨p,0,none⟩),.func (.func 52) #[] #[.pointer (some ⟨bn,0,none⟩),.pointer (some ⟨bl,0,none⟩)]] w λe w'=>
   e= .returned (.tuple #[])/\∃L,Crashed (len=0) n S K f L/\Reg w' w0.heap.size p n c L L (λ_=>none)/\Below w0.heap.size w w':=by
 obtain⟨_,_,hn,hn0⟩:=h.lt;have hbase:=h.base_le;obtain⟨gs,cs,gk,ck,m,st,D,h⟩:=h;obtain⟨c0,c1,c2,c3,f3⟩:=h.cells;have hlts:=h.lts;have hw:p<w.heap.size/\gs<w.heap.size/\gk<w.heap.size/\m<w.heap.size:=⟨hlts.1.2,hlts.2.1.2,hlts.2.2.1.2,hlts.2.2.2.2⟩
 have hKl:=h.len.2;have hSl:=h.len.1;have hclone:=qpl (h.2.2.2.2.2.2.2.2.2.1) hn0 hn;have hnf:=λw=>q69 w 52 #[.pointer (some ⟨bn,0,none⟩),.pointer (some ⟨bl,0,none⟩)]
 go_enter Tryz.func29,Tryz.ntmps29;go_wp2_with (go_at_call 49;refine hclone.mono ?_;rintro e w1 ⟨gl,cl,rfl,hleft,hB1⟩;have h1:=h.below hB1;have hp1:=hp.below hB1;clear c0 c1 c2 c3 f3;obtain⟨c0,c1,c2,c3,f3⟩:=h1.cells)
 have hCI:CI w0 w w1 p n c gs cs gk ck m st D S K f gl cl bn bl 0 A len cap T K:=⟨h1,hleft,Crashed.start hKl,hp1,hB1.mono hbase⟩
 clear hclone h1 hp1 hleft hB1 h hp c0 c1 c2 c3 f3;go_loopw [25] (λq wr=>∃(W:World) (j k:Nat) (L:List Nat),W=wr/\q= .int .i64 (j:Int)/\j<=n/\k<=8*j/\CI w0 w W p n c gs cs gk ck m st D S K f gl cl bn bl k A len cap T L) (λq _=>n - (RowKit.intOf q).toNat)
 case atStart=>exact⟨_,0,0,K,rfl,rfl,Zo,Zo,hCI⟩
 case round=>
  clear hCI;obtain⟨wr,j,k,L,rfl,rfl,hj,hk,hCI⟩:=hrel;obtain⟨c0,c1,c2,c3,f3⟩:=hCI.1.cells;by_cases hlt:j<n
  ·have hkl8:=qhr hKl hlt
   have hrK:=qjr (hCI.1.2.2.2.2.2.2.2.2.2.1) hlt;have hm:=hCI.1.2.2.2.2.2.2.2.2.2.2.1;have hD:=hCI.1.2.2.2.2.2.2.2.2.2.2.2.1;have hz:(0:Int)<=(j:Int):=Zo
   have hz2:(j:Int)<(n:Int):=Zo
   obtain hf|⟨l7,hf⟩:f j=none\/∃l,f j=some l:=by cases f j<;>simp
   ·have hfl:=waa hf
    clear hf;have hnl:Hid ((f j).getD (qap K j)=qap K j):=waa (by rw[hfl.out];rfl);have hbox:=qdc (W:=wr) #[.int .u64 0,.int .u64 0,.int .u64 0,.int .u64 0,.int .u64 0,.int .u64 0,.int .u64 0,.int .u64 0] 101 (u64V (qap K j));have hCI2:=hCI.below hbox;have hr6:=qdq (W:=wr) (C:=#[.int .u64 0,.int .u64 0,.int .u64 0,.int .u64 0,.int .u64 0,.int .u64 0,.int .u64 0,.int .u64 0]) (t:=101) (vs:=u64V (qap K j)) (by rw[qai,hkl8];rfl);have hs2:wr.heap.size<((wr.alloc (.cells #[.int .u64 0,.int .u64 0,.int .u64 0,.int .u64 0,.int .u64 0,.int .u64 0,.int .u64 0,.int .u64 0] 101)).setCells wr.heap.size 0 (u64V (qap K j))).heap.size:=by rw[qjj];simp
    go_wp2_with (first
     |(refine qct rfl _ rfl gk (j*8) rfl hrK hkl8 ?_)
     |(refine qbu rfl _ _ rfl wr.heap.size 0 rfl rfl (qb0 rfl _ _) hkl8 ?_;generalize (wr.alloc (.cells #[.int .u64 0,.int .u64 0,.int .u64 0,.int .u64 0,.int .u64 0,.int .u64 0,.int .u64 0,.int .u64 0] 101)).setCells wr.heap.size 0 (u64V (qap K j))=W2 at hCI2 hr6 hbox hs2 ⊢;clear c0 c1 c2 c3 f3 hm;obtain⟨c0,c1,c2,c3,f3⟩:=hCI2.1.cells;have hm:=hCI2.1.2.2.2.2.2.2.2.2.2.2.1)
     |(refine qg8 rfl _ _ rfl rfl rfl hm hD hlt hn ?_;rw[hfl.out])
     |(refine qbu rfl _ _ rfl W2.heap.size 0 rfl rfl (qb0 rfl _ _) rfl ?_;have hbox3:=qdc (W:=W2) #[.int .u64 0,.int .u64 0,.int .u64 0,.int .u64 0,.int .u64 0,.int .u64 0,.int .u64 0,.int .u64 0] 101 (u64V [0,0,0,0,0,0,0,0]);have hCI3:=hCI2.below hbox3;have hr63:=qel hr6 hbox3;have hr73:=qdq (W:=W2) (C:=#[.int .u64 0,.int .u64 0,.int .u64 0,.int .u64 0,.int .u64 0,.int .u64 0,.int .u64 0,.int .u64 0]) (t:=101) (vs:=u64V [0,0,0,0,0,0,0,0]) (by rw[qai];rfl);have hth7:=World.there_setCells (qb0 (W:=W2) rfl #[.int .u64 0,.int .u64 0,.int .u64 0,.int .u64 0,.int .u64 0,.int .u64 0,.int .u64 0,.int .u64 0] 101) W2.heap.size 0 (u64V [0,0,0,0,0,0,0,0]);generalize (W2.alloc (.cells #[.int .u64 0,.int .u64 0,.int .u64 0,.int .u64 0,.int .u64 0,.int .u64 0,.int .u64 0,.int .u64 0] 101)).setCells W2.heap.size 0 (u64V [0,0,0,0,0,0,0,0])=W3 at hbox3 hCI3 hr63 hr73 hth7 ⊢)
     |(refine qct rfl _ rfl wr.heap.size 0 rfl hr64 hkl8 ?_)
     |(refine qct rfl _ rfl wr.heap.size 0 rfl hr63 hkl8 ?_)
     |(refine qbu rfl _ _ rfl W2.heap.size 0 rfl rfl hth7 hkl8 ?_;have hg4:=qek W2.heap.size (u64V (qap K j)) 0 W3;have hsz:=hCI.2.2.2.2.size;have hsz2:=hCI.2.2.2.1.2.2.2.1.size;have hgl:=(qcs hCI.2.1).2;have hbnl:=hCI.2.2.2.1.1.lt;have hbll:=hCI.2.2.2.1.2.1.lt;have hCI4:=hCI3.kept hg4 Zo Zo Zo Zo Zo Zo Zo Zo;have hr64:=qfu hr63 hg4 Zo;have hr74:=World.rangeAt_setCells_same W3 W2.heap.size 0 (u64V (qap K j)) (by rw[qai,hkl8];exact hth7);generalize W3.setCells W2.heap.size 0 (u64V (qap K j))=W4 at hCI4 hr64 hr74 ⊢))
    clear hrK hm hz hz2;have hbnw:=hCI.2.2.2.1.1.lt;have hglw:=(qcs hCI.2.1).2;go_loopw [43] (λq wr'=>∃(W:World) (i k:Nat) (L:List Nat),W=wr'/\q= .int .i64 (i:Int)/\i<=8/\k<=8*j+i/\CI w0 w W p n c gs cs gk ck m st D S K f gl cl bn bl k A len cap T L/\W.rangeAt W2.heap.size 0 (u64V (qap K j))) (λq _=>8 - (RowKit.intOf q).toNat)
    case atStart=>exact⟨_,0,k,L,rfl,rfl,Zo,Zo,hCI4,hr74⟩
    case round=>
     clear hCI4 hr74;obtain⟨W,i,k1,L1,rfl,rfl,hi8,hk1,hC1,hr7⟩:=hrel;by_cases hlt8:i<8
     ·obtain⟨a,ha⟩:∃a,(qap K j)[i]? =some a:=⟨_,waj Zo⟩
      obtain⟨b,hb⟩:∃b,(qap K j)[i]? =some b:=⟨_,waj Zo⟩
      obtain⟨s,hs,_,hcs⟩:=qdx (hC1.1.2.2.2.2.2.2.2.2.1) (j:=j*8+i) Zo;obtain⟨y,_,_,hcy⟩:=qdx hC1.2.1 (j:=j*8+i) Zo;have hfy:=hC1.2.1.frozenAt (j*8+i);have hcb:W.cell? ⟨W2.heap.size,i,none⟩=some (.int .u64 (b:Int)):=by
       have:=hr7 i (.int .u64 (b:Int)) (by simp[u64V,hb])
       simpa using this
      obtain⟨c0,c1,c2,c3,f3⟩:=hC1.1.cells;have y1:(0:Int)<=(i:Int):=Zo
      have y2:(i:Int)<8:=Zo
      have y3:(0:Int)<=(j:Int):=Zo
      have y4:(j:Int)<(n:Int):=Zo
      go_wp2_with (refine qgl rfl _ _ rfl rfl rfl hlt8 ha ?_)
      have hB1:Below W.heap.size W (W.alloc (.cells #[.int .u64 (a:Int),.int .u64 (b:Int),.int .u64 (s:Int)] 27)).drew:=((wac _ W).alloc (wab _) _).drew;have hC2:=hC1.below hB1;have hun:=qni (some ⟨W.heap.size,0,none⟩) 3 [a,b,s] (W.alloc (.cells #[.int .u64 (a:Int),.int .u64 (b:Int),.int .u64 (s:Int)] 27)).drew (q4j (W:=W) (u64V [a,b,s]) 27) Zs;have hbnl:=hC1.2.2.2.1.1.lt;have hcr:∀x',x'∈unl [] [a,b,s]->(len=0->(unl [] [a,b,s])[0]? =some x')->Crashed (len=0) n S K f (L1.set (j*8+i) x'):=λx' hx' hz'=>qn1 hC1.2.2.1 hlt hlt8 ha (by rw[hnl.out];exact hb) hs hx' hz'
      have hul:=(qh8 [a,b,s] []).1;have hup:=qv5 a [b,s];have hap:=hC1.apart;have hsz0:=hC1.2.2.2.2.size;have hgl0:=(qcs hC1.2.1).1;go_region_held3 (λV=>V.cell? ⟨W2.heap.size,i,none⟩=some (.int .u64 (b:Int))/\V.cell? ⟨p,0,none⟩=some (.slice (some ⟨gs,0,none⟩) n cs)/\V.cell? ⟨gs,j*8+i,none⟩=some (.int .u64 (s:Int)))
       (first|go_keep|exact⟨hx1,hx2,hx3⟩|exact⟨hy1,hy2,hy3⟩|exact⟨hz1,hz2,hz3⟩)
       (first
        |(go_at_call 51;refine hun.mono ?_;rintro e w2 ⟨v,rfl,hown2,hB2⟩;have hC3:=hC2.below hB2;have hBB:=hB1.trans (hB2.mono hB1.size);obtain⟨A1,c1',rfl,hR⟩:=Rd.of_own hown2;have hx1:=(hBB.cell (p:=⟨W2.heap.size,i,none⟩) (wak W _ hcb)).trans hcb;have hx2:=(hBB.cell (p:=⟨p,0,none⟩) (wak W _ c0)).trans c0;have hx3:=(hBB.cell (p:=⟨gs,j*8+i,none⟩) (wak W _ hcs)).trans hcs;have hbb:∀q:Addr,A1=some q->q.block≠bn:=λq hq=>by have:=(hown2.lt q.block (by rw[hq];rfl)).1;have:=hB1.size;omega)
        |(go_at_call 50;refine(qm3 hC3.2.2.2.1 Zo _ _ (unl [] [a,b,s]) hR hup (by simp at hul;omega) hbb).mono ?_;rintro e w3 ⟨x',k',hx',hz',hk',rfl,rfl⟩;have hC4:=hC3.told (k':=k');have hg3:=qbb w2 ⟨bn,0,none⟩ (.int .i64 (k':Int));have hy1:=hg3.cell hx1 (λe=>absurd (show W2.heap.size=bn from by injection e) Zo);have hy2:=hg3.cell hx2 (λe=>absurd (show p=bn from by injection e) Zo);have hy3:=hg3.cell hx3 (λe=>absurd (show gs=bn from by injection e) Zo);have hL5:=hcr x' hx' hz';clear hz';have hr7':=qfu (qel (qel hr7 hB1) hB2) hg3 (show W2.heap.size≠bn by omega);obtain⟨y',_,_,hcy'⟩:=qdx hC4.2.1 (j:=j*8+i) Zo;have hfy':=hC4.2.1.frozenAt (j*8+i);have hg4:=qbb (w2.setCell ⟨bn,0,none⟩ (.int .i64 (k':Int))) ⟨gl,j*8+i,none⟩ (.int .u64 (x':Int));have hz1:=hg4.cell hy1 (λe=>absurd (show W2.heap.size=gl from by injection e) Zo);have hz2:=hg4.cell hy2 (λe=>absurd (show p=gl from by injection e) Zo);have hz3:=hg4.cell hy3 (λe=>absurd (show gs=gl from by injection e) Zo);have hC5:=hC4.left hw hL5 hbase;have hr75:=qfu hr7' hg4 (show W2.heap.size≠gl by omega)))
      go_wp2
      go_roundw
      case rel=>exact⟨_,i+1,k',_,rfl,by go_num,Zo,Zo,hC5,hr75⟩
      case measure=>simp[RowKit.intOf];omega
     ·go_wp2
      go_roundw
      case rel=>exact⟨_,j+1,k1,L1,rfl,by go_num,Zo,Zo,hC1⟩
      case measure=>simp[RowKit.intOf];omega
   ·have hl78:=(hD.2.2.2 j l7 hf).2.1
    have hfl:=waa hf;clear hf;have hnl:Hid ((f j).getD (qap K j)=l7):=waa (by rw[hfl.out];rfl);have hbox:=qdc (W:=wr) #[.int .u64 0,.int .u64 0,.int .u64 0,.int .u64 0,.int .u64 0,.int .u64 0,.int .u64 0,.int .u64 0] 101 (u64V (qap K j));have hCI2:=hCI.below hbox;have hr6:=qdq (W:=wr) (C:=#[.int .u64 0,.int .u64 0,.int .u64 0,.int .u64 0,.int .u64 0,.int .u64 0,.int .u64 0,.int .u64 0]) (t:=101) (vs:=u64V (qap K j)) (by rw[qai,hkl8];rfl);have hs2:wr.heap.size<((wr.alloc (.cells #[.int .u64 0,.int .u64 0,.int .u64 0,.int .u64 0,.int .u64 0,.int .u64 0,.int .u64 0,.int .u64 0] 101)).setCells wr.heap.size 0 (u64V (qap K j))).heap.size:=by rw[qjj];simp
    go_wp2_with (first
     |(refine qct rfl _ rfl gk (j*8) rfl hrK hkl8 ?_)
     |(refine qbu rfl _ _ rfl wr.heap.size 0 rfl rfl (qb0 rfl _ _) hkl8 ?_;generalize (wr.alloc (.cells #[.int .u64 0,.int .u64 0,.int .u64 0,.int .u64 0,.int .u64 0,.int .u64 0,.int .u64 0,.int .u64 0] 101)).setCells wr.heap.size 0 (u64V (qap K j))=W2 at hCI2 hr6 hbox hs2 ⊢;clear c0 c1 c2 c3 f3 hm;obtain⟨c0,c1,c2,c3,f3⟩:=hCI2.1.cells;have hm:=hCI2.1.2.2.2.2.2.2.2.2.2.2.1)
     |(refine qg8 rfl _ _ rfl rfl rfl hm hD hlt hn ?_;rw[hfl.out])
     |(refine qbu rfl _ _ rfl W2.heap.size 0 rfl rfl (qb0 rfl _ _) hl78 ?_;have hbox3:=qdc (W:=W2) #[.int .u64 0,.int .u64 0,.int .u64 0,.int .u64 0,.int .u64 0,.int .u64 0,.int .u64 0,.int .u64 0] 101 (u64V l7);have hCI3:=hCI2.below hbox3;have hr63:=qel hr6 hbox3;have hr73:=qdq (W:=W2) (C:=#[.int .u64 0,.int .u64 0,.int .u64 0,.int .u64 0,.int .u64 0,.int .u64 0,.int .u64 0,.int .u64 0]) (t:=101) (vs:=u64V l7) (by rw[qai];rw[hl78];rfl);have hth7:=World.there_setCells (qb0 (W:=W2) rfl #[.int .u64 0,.int .u64 0,.int .u64 0,.int .u64 0,.int .u64 0,.int .u64 0,.int .u64 0,.int .u64 0] 101) W2.heap.size 0 (u64V l7);generalize (W2.alloc (.cells #[.int .u64 0,.int .u64 0,.int .u64 0,.int .u64 0,.int .u64 0,.int .u64 0,.int .u64 0,.int .u64 0] 101)).setCells W2.heap.size 0 (u64V l7)=W3 at hbox3 hCI3 hr63 hr73 hth7 ⊢)
     |(refine qct rfl _ rfl wr.heap.size 0 rfl hr63 hkl8 ?_))
    clear hrK hm hz hz2;have hbnw:=hCI.2.2.2.1.1.lt;have hglw:=(qcs hCI.2.1).2;go_loopw [43] (λq wr'=>∃(W:World) (i k:Nat) (L:List Nat),W=wr'/\q= .int .i64 (i:Int)/\i<=8/\k<=8*j+i/\CI w0 w W p n c gs cs gk ck m st D S K f gl cl bn bl k A len cap T L/\W.rangeAt W2.heap.size 0 (u64V l7)) (λq _=>8 - (RowKit.intOf q).toNat)
    case atStart=>exact⟨_,0,k,L,rfl,rfl,Zo,Zo,hCI3,hr73⟩
    case round=>
     clear hCI3 hr73;obtain⟨W,i,k1,L1,rfl,rfl,hi8,hk1,hC1,hr7⟩:=hrel;by_cases hlt8:i<8
     ·obtain⟨a,ha⟩:∃a,(qap K j)[i]? =some a:=⟨_,waj Zo⟩
      obtain⟨b,hb⟩:∃b,l7[i]? =some b:=⟨_,waj Zo⟩
      obtain⟨s,hs,_,hcs⟩:=qdx (hC1.1.2.2.2.2.2.2.2.2.1) (j:=j*8+i) Zo;obtain⟨y,_,_,hcy⟩:=qdx hC1.2.1 (j:=j*8+i) Zo;have hfy:=hC1.2.1.frozenAt (j*8+i);have hcb:W.cell? ⟨W2.heap.size,i,none⟩=some (.int .u64 (b:Int)):=by
       have:=hr7 i (.int .u64 (b:Int)) (by simp[u64V,hb])
       simpa using this
      obtain⟨c0,c1,c2,c3,f3⟩:=hC1.1.cells;have y1:(0:Int)<=(i:Int):=Zo
      have y2:(i:Int)<8:=Zo
      have y3:(0:Int)<=(j:Int):=Zo
      have y4:(j:Int)<(n:Int):=Zo
      go_wp2_with (refine qgl rfl _ _ rfl rfl rfl hlt8 ha ?_)
      have hB1:Below W.heap.size W (W.alloc (.cells #[.int .u64 (a:Int),.int .u64 (b:Int),.int .u64 (s:Int)] 27)).drew:=((wac _ W).alloc (wab _) _).drew;have hC2:=hC1.below hB1;have hun:=qni (some ⟨W.heap.size,0,none⟩) 3 [a,b,s] (W.alloc (.cells #[.int .u64 (a:Int),.int .u64 (b:Int),.int .u64 (s:Int)] 27)).drew (q4j (W:=W) (u64V [a,b,s]) 27) Zs;have hbnl:=hC1.2.2.2.1.1.lt;have hcr:∀x',x'∈unl [] [a,b,s]->(len=0->(unl [] [a,b,s])[0]? =some x')->Crashed (len=0) n S K f (L1.set (j*8+i) x'):=λx' hx' hz'=>qn1 hC1.2.2.1 hlt hlt8 ha (by rw[hnl.out];exact hb) hs hx' hz'
      have hul:=(qh8 [a,b,s] []).1;have hup:=qv5 a [b,s];have hap:=hC1.apart;have hsz0:=hC1.2.2.2.2.size;have hgl0:=(qcs hC1.2.1).1;go_region_held3 (λV=>V.cell? ⟨W2.heap.size,i,none⟩=some (.int .u64 (b:Int))/\V.cell? ⟨p,0,none⟩=some (.slice (some ⟨gs,0,none⟩) n cs)/\V.cell? ⟨gs,j*8+i,none⟩=some (.int .u64 (s:Int)))
       (first|go_keep|exact⟨hx1,hx2,hx3⟩|exact⟨hy1,hy2,hy3⟩|exact⟨hz1,hz2,hz3⟩)
       (first
        |(go_at_call 51;refine hun.mono ?_;rintro e w2 ⟨v,rfl,hown2,hB2⟩;have hC3:=hC2.below hB2;have hBB:=hB1.trans (hB2.mono hB1.size);obtain⟨A1,c1',rfl,hR⟩:=Rd.of_own hown2;have hx1:=(hBB.cell (p:=⟨W2.heap.size,i,none⟩) (wak W _ hcb)).trans hcb;have hx2:=(hBB.cell (p:=⟨p,0,none⟩) (wak W _ c0)).trans c0;have hx3:=(hBB.cell (p:=⟨gs,j*8+i,none⟩) (wak W _ hcs)).trans hcs;have hbb:∀q:Addr,A1=some q->q.block≠bn:=λq hq=>by have:=(hown2.lt q.block (by rw[hq];rfl)).1;have:=hB1.size;omega)
        |(go_at_call 50;refine(qm3 hC3.2.2.2.1 Zo _ _ (unl [] [a,b,s]) hR hup (by simp at hul;omega) hbb).mono ?_;rintro e w3 ⟨x',k',hx',hz',hk',rfl,rfl⟩;have hC4:=hC3.told (k':=k');have hg3:=qbb w2 ⟨bn,0,none⟩ (.int .i64 (k':Int));have hy1:=hg3.cell hx1 (λe=>absurd (show W2.heap.size=bn from by injection e) Zo);have hy2:=hg3.cell hx2 (λe=>absurd (show p=bn from by injection e) Zo);have hy3:=hg3.cell hx3 (λe=>absurd (show gs=bn from by injection e) Zo);have hL5:=hcr x' hx' hz';clear hz';have hr7':=qfu (qel (qel hr7 hB1) hB2) hg3 (show W2.heap.size≠bn by omega);obtain⟨y',_,_,hcy'⟩:=qdx hC4.2.1 (j:=j*8+i) Zo;have hfy':=hC4.2.1.frozenAt (j*8+i);have hg4:=qbb (w2.setCell ⟨bn,0,none⟩ (.int .i64 (k':Int))) ⟨gl,j*8+i,none⟩ (.int .u64 (x':Int));have hz1:=hg4.cell hy1 (λe=>absurd (show W2.heap.size=gl from by injection e) Zo);have hz2:=hg4.cell hy2 (λe=>absurd (show p=gl from by injection e) Zo);have hz3:=hg4.cell hy3 (λe=>absurd (show gs=gl from by injection e) Zo);have hC5:=hC4.left hw hL5 hbase;have hr75:=qfu hr7' hg4 (show W2.heap.size≠gl by omega)))
      go_wp2
      go_roundw
      case rel=>exact⟨_,i+1,k',_,rfl,by go_num,Zo,Zo,hC5,hr75⟩
      case measure=>simp[RowKit.intOf];omega
     ·go_wp2
      go_roundw
      case rel=>exact⟨_,j+1,k1,L1,rfl,by go_num,Zo,Zo,hC1⟩
      case measure=>simp[RowKit.intOf];omega
  ·have hclone2:=qpl hCI.2.1 hn0 hn
   obtain⟨hr,hown,hC,hP,hB⟩:=id hCI;have hL:=qqz hC hr.2.2.2.2.2.2.2.2.2.2.2.2.1 hr.2.2.2.2.2.2.2.2.2.2.2.2.2 hr.2.2.2.2.2.2.2.2.2.2.2.1;have hgl0:=(qcs hown).1;have hgl1:=(qcs hown).2;have hCh:=waa hC;clear hC hCI c0 c1 c2 c3 f3;go_wp2_with (first
    |(go_at_call 49;refine hclone2.mono ?_;rintro e w2 ⟨g2,c2',rfl,hown2,hB2⟩;have hr2:=hr.below hB2;have hownl:=qpg hown hB2;have hg2:=(qcs hown2).1;obtain⟨c0,c1,c2,c3,f3⟩:=hr2.cells;have hf0:=f3 0;have hf1:=f3 1;have hr5:=hr2.renewed (qt2 hownl hbase) (qt2 hown2 (wap hbase hB.size)) Zo Zo Zo hL;have hm5:=hr5.2.2.2.2.2.2.2.2.2.2.1;have hB5:=((hB.trans (hB2.mono (wap hbase hB.size))).setCell (p:=⟨p,0,none⟩) hlts.1.1 (.slice (some ⟨gl,0,none⟩) n cl)).setCell (p:=⟨p,1,none⟩) hlts.1.1 (.slice (some ⟨g2,0,none⟩) n c2'))
    |(refine qhe rfl _ _ rfl we1 rfl hm5 ?_;intro w6 hown6 hg6))
   go_end0
   exact⟨rfl,L,hCh.out,(hr5.noted hg6 hown6 Noted.empty).reg,hB5.grown hg6 (by have:=hB5.size;omega) (λk hk=>by injection hk with hk;omega)⟩
end Go.Proofs.YtocncmbeinmiaaaGreat
namespace Go.Proofs.YtocncmbeinmiaaaGreat
open Go Go.RowKit
theorem qpv{w0 w:World}{A:Option Addr}{len cap:Nat}{T:List Int}(hR:Rd w0 A len (i64V T))(hB:Below w0.heap.size w0 w)(hl:len<=9223372036854775807):
  Calls Tryz.prog 30 #[.slice A len cap] w λe w'=>∃bn bl:Nat,e= .returned (.func (.func 52) #[] #[.pointer (some ⟨bn,0,none⟩),.pointer (some ⟨bl,0,none⟩)])/\Pick w0 w' bn bl 0 A len cap T/\Below w.heap.size w w':=by
 have hmf:∀(fn:Fn) (first cap:Array Value) (w:World),(Instr.makeFunc fn first cap).run Tryz.prog w= .ok (.func fn first cap) w:=λ_ _ _ _=>rfl
 have hB1:=((wac w.heap.size w).alloc (wab _) (.cells #[.slice A len cap] 65)).alloc Zs (.cells #[.int .i64 0] 3);have hbl:=(Boxed.new w 65 (.slice A len cap)).alloc (.cells #[.int .i64 0] 3);have hbn:=Boxed.new (w.alloc (.cells #[.slice A len cap] 65)) 3 (.int .i64 0);rw[show(w.alloc (.cells #[.slice A len cap] 65)).heap.size=w.heap.size+1 by simp] at hbn;have hs:=hB.size;go_enter Tryz.func30,Tryz.ntmps30;go_wp2
 go_ret;exact⟨_,_,rfl,⟨hbn,hbl,hR,hB.trans (hB1.mono hs),Zo,Zo,hl⟩,hB1⟩
def Good(a x:Nat)(S K:List Nat)(f:Nat->Option (List Nat)):Prop:=S[a]? =some x/\K[a]? =some x/\∀l,f (a/8)=some l->l[a%8]? =some x
def Done(w0 w:World)(p n c:Nat)(S K:List Nat)(f:Nat->Option (List Nat))(kind:Nat)(a:Int)(e:Ending)(w':World):Prop:=
 e= .returned (.tuple #[])/\∃S' K' f',Reg w' w0.heap.size p n (c+1) S' K' f'/\Below w0.heap.size w w'/\∀b y:Nat,(a≠(b:Int)\/2<kind%8)->Good b y S K f->Good b y S' K' f'
section
variable {w0 w:World} {p n c:Nat} {S K:List Nat} {f:Nat->Option (List Nat)}
end
end Go.Proofs.YtocncmbeinmiaaaGreat
namespace Go.Proofs.YtocncmbeinmiaaaGreat
open Go Go.RowKit Go.ChangeShapes Go.WideShapes Go.Deep
theorem q1m:Tryz.prog.cellsOf 3=1:=by kernel_rfl
section
variable {H:Type} {enc:TypeId×Value->H} {W:World} {held:Bool} {fuel:Nat}
theorem q3z{v:Value}{x:DataW H×List MemPlace}(h:DataW.trod enc Tryz.prog W 0 (λ_=>true) held fuel 65 [v]=some x):
  ∃(B:Option Addr) (l c:Nat) (T:List Int),v= .slice B l c/\Rd W B l (i64V T)/\l<=9223372036854775807:=by
 rcases open_ints wbs wd5 q1m h with ⟨hcs,_⟩|⟨a,len,cap,zs,hcs,_,hl,hm,hz,_,hcell,hw⟩
 ·obtain rfl:v= .slice none 0 0:=by injection hcs
  exact⟨none,0,0,[],rfl,Rd.nil_ _ _,Zo⟩
 ·obtain rfl:v= .slice (some a) len cap:=by injection hcs
  obtain⟨l,hll,hlm,hr,_⟩:=qj1 (k:= .i64) (w:=W) (a:=some a) (len:=len) (cap:=cap) (zs:=zs) (.inr ⟨a,rfl,hl,hm,by simpa using hz,hcell,hw⟩);exact⟨_,_,_,l,rfl,hr,by unfold maxLen at hlm;omega⟩
end
structure PD where
 A:Option Addr
 n:Nat
 cap:Nat
 T:List Int
def PkRd(w:World)(A:Option Addr)(n:Nat)(ds:List PD):Prop:=
 ds.length=n/\(0<n->∃p,A=some p/\∀(i:Nat) (d:PD),ds[i]? =some d->w.cell? (p.add i)=some (.slice d.A d.n d.cap))/\∀(i:Nat) (d:PD),ds[i]? =some d->Rd w d.A d.n (i64V d.T)/\d.n<=9223372036854775807
theorem q74{α:Type}(len:Nat)(Q:Nat->α->Prop)(h:∀i,i<len->∃a,Q i a):∃l:List α,l.length=len/\∀i a,l[i]? =some a->Q i a:=by
 induction len with
 |zero=>exact⟨[],rfl,by simp⟩
 |succ k ih=>
  obtain⟨l,h1,h2⟩:=ih (λi hi=>h i Zo);obtain⟨a,ha⟩:=h k Zo;refine⟨l++[a],by simp[h1],?_⟩;intro j e he;by_cases hj:j<k
  ·rw[wbk Zo] at he
   exact h2 j e he
  ·have hjk:j=k:=by have:=(wan.1 he).1;simp at this;omega
   subst hjk;rw[wbt Zo,h1,wcw] at he;obtain rfl:a=e:=by simpa using he
   exact ha
theorem qul:Tryz.prog.cellsOf 65=1:=by kernel_rfl
section
variable {H:Type} {enc:TypeId×Value->H} {W:World} {held:Bool}
theorem qyl{r:Reach}{b0:Nat}{v:Value}{d:DataW H}{p:List MemPlace}(hv:Value.okWide Tryz.prog W r b0 63 v)(h:DataW.Trod enc Tryz.prog W 0 (λ_=>true) held 63 v d p):
  ∃(A:Option Addr) (n c:Nat) (ds:List PD),v= .slice A n c/\n<=maxLen/\PkRd W A n ds:=by
 obtain⟨fuel,hf⟩:=h;obtain⟨A,len,cap,rfl⟩:=okWide_slice Tryz.underlying63 hv;rcases open_slice Tryz.underlying63 hf with ⟨hcs,_⟩|⟨a',l',c,m,n,D,Pl,hcs,_,hl,hm,hmm,_,hi⟩
 ·injection hcs with hcs
  injection hcs with h1 h2 h3;subst h1 h2 h3;exact⟨none,0,0,[],rfl,wau _,rfl,λh=>absurd h Zo,by intro i d hd;simp at hd⟩
 ·injection hcs with hcs
  injection hcs with h1 h2 h3;subst h1 h2 h3;have hone:∀i,i<len->∃d:PD,W.cell? (a'.add i)=some (.slice d.A d.n d.cap)/\Rd W d.A d.n (i64V d.T)/\d.n<=9223372036854775807:=by
   intro i hil;have him:i<m:=by rw[hmm];simp;omega
   obtain⟨cs',hc,ht⟩:=hi i him;rw[qul,wb7] at hc;obtain⟨hpath,hlen,hat⟩:=World.cells?_some hc;match cs',hlen,hat,ht with
   |[v],_,hat,ht=>
    obtain⟨B,l,c2,T,rfl,g1,g2⟩:=q3z ht;exact⟨⟨B,l,c2,T⟩,hat 0 Zo,g1,g2⟩
  obtain⟨ds,h1,h2⟩:=q74 len _ hone;exact⟨_,_,_,ds,rfl,Zo,h1,λ_=>⟨_,rfl,λi d hd=>(h2 i d hd).1⟩,λi d hd=>(h2 i d hd).2⟩
end
end Go.Proofs.YtocncmbeinmiaaaGreat
