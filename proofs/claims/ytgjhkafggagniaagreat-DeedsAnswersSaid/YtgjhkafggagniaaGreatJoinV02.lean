/- Parts. No condition. -/
import Derived.Maps.RangeWalk
import Derived.Maps.OwnSet
import Derived.RegionTactic
import Derived.Deep.LoopGhost
import Derived.Test.YtgjhkafggagniaaGreatJoinV00
set_option linter.unusedVariables false
set_option maxRecDepth 100000
set_option maxHeartbeats 8000000
namespace Go.Proofs.YtgjhkafggagniaaGreat
open Go Go.RowKit
open Go.Maps (Keyed)
def qdh(v:Value):Option (DataW Value×List MemPlace):=some (.held v,[])
def qcq(l:List Nat):Value:= .agg (u64V l).toArray
def Noted(D:DataW Value)(n:Nat)(f:Nat->Option (List Nat)):Prop:=
 Maps.IsMap D/\(∀kl,Maps.has D kl=true->∃j:Nat,j<n/\kl= .int .i64 (j:Int))/\
 (∀j:Nat,f j=none->Maps.has D (.int .i64 (j:Int))=false)/\
 (∀(j:Nat) (l:List Nat),f j=some l->j<n/\l.length=8/\(∀x∈l,x<18446744073709551616)/\Maps.has D (.int .i64 (j:Int))=true/\∀zd,D.atKey (.int .i64 (j:Int)) zd= .held (qcq l))
def RegAt(w:World)(base p n c gs cs gk ck m:Nat)(st:Int)(D:DataW Value)(S K:List Nat)(f:Nat->Option (List Nat)):Prop:=
 base<=p/\base<=m/\p≠gs/\p≠gk/\gs≠gk/\0<n/\n<=2048/\
  w.heap[p]? =some (.cells #[.slice (some ⟨gs,0,none⟩) n cs,.slice (some ⟨gk,0,none⟩) n ck,.map (some m),.int .i64 st] 103 (0,0))/\
  w.ownsRow base 130 8 (.slice (some ⟨gs,0,none⟩) n cs) n (u64V S)/\w.ownsRow base 130 8 (.slice (some ⟨gk,0,none⟩) n ck) n (u64V K)/\
  w.ownsMap Tryz.prog 3 qdh m c D/\Noted D n f/\(∀x∈S,x<18446744073709551616)/\(∀x∈K,x<18446744073709551616)
def Reg(w:World)(base p n c:Nat)(S K:List Nat)(f:Nat->Option (List Nat)):Prop:=
 ∃(gs cs gk ck m:Nat) (st:Int) (D:DataW Value),RegAt w base p n c gs cs gk ck m st D S K f
def qaw(S:List Nat)(i:Nat):List Nat:=(S.drop (i*8)).take 8
def putL(S:List Nat)(o:Nat)(l:List Nat):List Nat:=S.take o++l++S.drop (o+l.length)
theorem qkx{S:List Nat}{n i:Nat}(h:S.length=n*8)(hi:i<n):(qaw S i).length=8:=by simp[qaw,List.length_take,List.length_drop];omega
theorem qvm{S:List Nat}{i x:Nat}(h:x∈qaw S i):x∈S:=List.mem_of_mem_drop (wec h)
theorem qtu{S:List Nat}{o x:Nat}{l:List Nat}(ho:o<S.length):putL (S.set o x) (o+1) l=putL S o (x::l):=by
 unfold putL;rw[wdk,List.drop_set_of_lt Zo,wbs,wan ho];rw[show(S.take o++(some S[o]).toList)=S.take o++[S[o]] by rfl,wef _ _ (by simp[List.length_take];omega)];simp only[war,weg (Nat.le_of_lt ho),wce,wae,wbi,wbt,wa7,waz];rw[show o+1+l.length=o+(l.length+1) by omega]
theorem qw8{S:List Nat}{o x:Nat}{l:List Nat}(h:x∈putL S o l):x∈S\/x∈l:=by
 rcases wbu.1 h with h|h
 ·rcases wbu.1 h with h|h
  ·exact .inl (wec h)
  ·exact .inr h
 ·exact .inl (List.mem_of_mem_drop h)
theorem qjw{S l:List Nat}{n i:Nat}(h:S.length=n*8)(hi:i<n)(hl:l.length=8):qaw (putL S (i*8) l) i=l:=by
 unfold qaw putL;rw[wbi,List.drop_append_of_le_length (by simp[List.length_take];omega),weh (by simp[List.length_take];omega),wa7,wfc Zo,wax Zo]
theorem qis{S l:List Nat}{n i k:Nat}(h:S.length=n*8)(hi:i<n)(hk:k<n)(hl:l.length=8)(hne:k≠i):qaw (putL S (i*8) l) k=qaw S k:=by
 apply wa2
 intro j;unfold qaw putL;rw[waw,waw];by_cases hj:j<8
 ·rw[if_pos hj,if_pos hj,wa3,wa3]
  rcases Nat.lt_or_gt_of_ne hne with h1|h1
  ·rw[wbi,wbj (by simp[List.length_take];omega),waw,if_pos Zo]
  ·rw[wbv (by simp[List.length_take];omega),wa3]
   congr 1
   simp[List.length_take];omega
 ·rw[if_neg hj,if_neg hj]
section
variable {w:World} {base p n c gs cs gk ck m:Nat} {st:Int} {D:DataW Value} {S K:List Nat} {f:Nat->Option (List Nat)}
theorem Noted.empty:Noted (.map []) n (λ_=>none):=⟨⟨_,rfl⟩,λkl h=>by simp[Maps.has] at h,λ_ _=>rfl,λj l h=>by cases h⟩
theorem Noted.put(h:Noted D n f){i:Nat}{l:List Nat}(hi:i<n)(hl:l.length=8)(hb:∀x∈l,x<18446744073709551616):
  Noted (D.put (.int .i64 (i:Int)) (.held (qcq l))) n (λk=>if k=i then some l else f k):=by
 obtain⟨h0,h1,h2,h3⟩:=h;refine⟨h0.put _ _,λkl hkl=>?_,λj hj=>?_,λj l' hj=>?_⟩
 ·by_cases e:kl= .int .i64 (i:Int)
  ·exact⟨i,hi,e⟩
  ·rw[wei e] at hkl;exact h1 kl hkl
 ·have hj:(if j=i then some l else f j)=none:=hj
  by_cases e:j=i
  ·simp[e] at hj
  ·rw[if_neg e] at hj
   rw[wei (by intro e';injection e' with _ e';omega)];exact h2 j hj
 ·have hj:(if j=i then some l else f j)=some l':=hj
  by_cases e:j=i
  ·subst e
   rw[if_pos rfl] at hj;obtain rfl:l=l':=by injection hj
   exact⟨hi,hl,hb,Maps.has_put_same h0 (show WideAt.IsKeyLit (.int .i64 (j:Int)) from trivial) _,λzd=>Maps.atKey_put_same h0 (show WideAt.IsKeyLit (.int .i64 (j:Int)) from trivial) _ _⟩
  ·rw[if_neg e] at hj
   obtain⟨a1,a2,a3,a4,a5⟩:=h3 j l' hj;have hne:(Lit.int .i64 (j:Int))≠Lit.int .i64 (i:Int):=by intro e';injection e' with _ e';omega
   exact⟨a1,a2,a3,by rw[wei hne];exact a4,λzd=>by rw[Maps.atKey_put_other hne];exact a5 zd⟩
theorem RegAt.len(h:RegAt w base p n c gs cs gk ck m st D S K f):S.length=n*8/\K.length=n*8:=by
 obtain⟨_,_,_,_,_,_,_,_,hs,hk,_⟩:=h;exact⟨by have:=hs.1;rw[qat] at this;exact this,by have:=hk.1;rw[qat] at this;exact this⟩
theorem Reg.len(h:Reg w base p n c S K f):S.length=n*8/\K.length=n*8:=by
 obtain⟨gs,cs,gk,ck,m,st,D,h⟩:=h;exact h.len
theorem quq{base g n cap:Nat}{e:TypeId}{xs:List Value}(h:w.ownsRow base e 8 (.slice (some ⟨g,0,none⟩) n cap) n xs):base<=g/\g<w.heap.size:=h.lt g rfl
theorem qa4{w':World}{base g n cap:Nat}{e:TypeId}{xs:List Value}(h:w.ownsRow base e 8 (.slice (some ⟨g,0,none⟩) n cap) n xs)(hb:w'.heap[g]? =w.heap[g]?):w'.ownsRow base e 8 (.slice (some ⟨g,0,none⟩) n cap) n xs:=by
 obtain⟨e1,e2⟩:=h;refine⟨e1,?_⟩;rcases e2 with e2|⟨g,cap,cur,a1,a2,a3,a4⟩
 ·exact .inl e2
 ·have a1':=a1
  injection a1' with eg;injection eg with eg;injection eg with eg;exact .inr ⟨g,cap,cur,a1,a2,by rw[<-eg,hb,eg];exact a3,a4⟩
theorem qb5{w':World}(h:w.ownsMap Tryz.prog 3 qdh m c D)(hb:w'.heap[m]? =w.heap[m]?):w'.ownsMap Tryz.prog 3 qdh m c D:=by
 obtain⟨es,clock,a1,a2⟩:=h;exact⟨es,clock,by rw[hb];exact a1,a2⟩
theorem RegAt.apart(h:RegAt w base p n c gs cs gk ck m st D S K f):p≠m/\gs≠m/\gk≠m:=by
 obtain⟨_,_,_,_,_,_,_,hp,hs,hk,⟨es,clock,hm,_⟩,_⟩:=h;refine⟨λe=>?_,λe=>?_,λe=>?_⟩
 ·rw[<-e,hp] at hm;cases hm
 ·obtain⟨_,e2⟩:=hs
  rcases e2 with ⟨e2,_⟩|⟨g,cap,cur,a1,a2,a3,a4⟩
  ·cases e2
  ·injection a1 with a1;injection a1 with a1;injection a1 with a1
   rw[<-a1,e,hm] at a3;cases a3
 ·obtain⟨_,e2⟩:=hk
  rcases e2 with ⟨e2,_⟩|⟨g,cap,cur,a1,a2,a3,a4⟩
  ·cases e2
  ·injection a1 with a1;injection a1 with a1;injection a1 with a1
   rw[<-a1,e,hm] at a3;cases a3
theorem RegAt.lts(h:RegAt w base p n c gs cs gk ck m st D S K f):(base<=p/\p<w.heap.size)/\(base<=gs/\gs<w.heap.size)/\(base<=gk/\gk<w.heap.size)/\(base<=m/\m<w.heap.size):=by
 obtain⟨h1,h2,_,_,_,_,_,hp,hs,hk,hm,_⟩:=h;exact⟨⟨h1,(waj.1 hp).1⟩,quq hs,quq hk,⟨h2,hm.lt⟩⟩
theorem RegAt.of_blocks{w':World}(h:RegAt w base p n c gs cs gk ck m st D S K f)(hb:∀k,k<w.heap.size->w'.heap[k]? =w.heap[k]?):RegAt w' base p n c gs cs gk ck m st D S K f:=by
 obtain⟨⟨_,l1⟩,⟨_,l2⟩,⟨_,l3⟩,⟨_,l4⟩⟩:=h.lts;obtain⟨h1,h2,h3,h4,h5,h6,h6',hp,hs,hk,hm,hD⟩:=h;exact⟨h1,h2,h3,h4,h5,h6,h6',by rw[hb p l1];exact hp,qa4 hs (hb gs l2),qa4 hk (hb gk l3),qb5 hm (hb m l4),hD⟩
theorem RegAt.below{w':World}(h:RegAt w base p n c gs cs gk ck m st D S K f)(hb:Below w.heap.size w w'):RegAt w' base p n c gs cs gk ck m st D S K f:=h.of_blocks hb.block
theorem RegAt.alloc(h:RegAt w base p n c gs cs gk ck m st D S K f)(o:Obj):RegAt (w.alloc o) base p n c gs cs gk ck m st D S K f:=h.below ((wai _ w).alloc (wah _) o)
theorem RegAt.drew(h:RegAt w base p n c gs cs gk ck m st D S K f):RegAt w.drew base p n c gs cs gk ck m st D S K f:=h.of_blocks λ_ _=>rfl
theorem RegAt.reg(h:RegAt w base p n c gs cs gk ck m st D S K f):Reg w base p n c S K f:=⟨gs,cs,gk,ck,m,st,D,h⟩
theorem Reg.of_blocks{w':World}(h:Reg w base p n c S K f)(hb:∀k,k<w.heap.size->w'.heap[k]? =w.heap[k]?):Reg w' base p n c S K f:=by
 obtain⟨gs,cs,gk,ck,m,st,D,h⟩:=h;exact(h.of_blocks hb).reg
theorem Reg.below{w':World}(h:Reg w base p n c S K f)(hb:Below w.heap.size w w'):Reg w' base p n c S K f:=h.of_blocks hb.block
theorem Reg.alloc(h:Reg w base p n c S K f)(o:Obj):Reg (w.alloc o) base p n c S K f:=h.below ((wai _ w).alloc (wah _) o)
theorem Reg.drew(h:Reg w base p n c S K f):Reg w.drew base p n c S K f:=h.of_blocks λ_ _=>rfl
theorem Reg.lt(h:Reg w base p n c S K f):base<=p/\p<w.heap.size/\n<=2048/\0<n:=by
 obtain⟨gs,cs,gk,ck,m,st,D,h1,h2,h3,h4,h5,h6,h6',hp,_⟩:=h;exact⟨h1,(waj.1 hp).1,h6',h6⟩
theorem RegAt.kept{w':World}{b:Nat}(h:RegAt w base p n c gs cs gk ck m st D S K f)(hg:w.grownBy w' (some b))(h1:b≠p)(h2:b≠gs)(h3:b≠gk)(h4:b≠m):RegAt w' base p n c gs cs gk ck m st D S K f:=by
 obtain⟨⟨_,l1⟩,⟨_,l2⟩,⟨_,l3⟩,⟨_,l4⟩⟩:=h.lts;obtain⟨k1,k2,k3,k4,k5,k6,k6',hp,hs,hk,hm,hD⟩:=h;have hne:∀{x:Nat},b≠x->some x≠some b:=λhx e=>hx (by injection e with e;exact e.symm)
 exact⟨k1,k2,k3,k4,k5,k6,k6',by rw[hg.block p l1 (hne h1)];exact hp,qa4 hs (hg.block gs l2 (hne h2)),qa4 hk (hg.block gk l3 (hne h3)),qb5 hm (hg.block m l4 (hne h4)),hD⟩
theorem RegAt.cells(h:RegAt w base p n c gs cs gk ck m st D S K f):w.cell? ⟨p,0,none⟩=some (.slice (some ⟨gs,0,none⟩) n cs)/\w.cell? ⟨p,1,none⟩=some (.slice (some ⟨gk,0,none⟩) n ck)/\w.cell? ⟨p,2,none⟩=some (.map (some m))/\w.cell? ⟨p,3,none⟩=some (.int .i64 st)/\(∀j,w.frozen? ⟨p,j,none⟩=false):=by
 obtain⟨_,_,_,_,_,_,_,hp,_⟩:=h;exact⟨by rw[qab hp];rfl,by rw[qab hp];rfl,by rw[qab hp];rfl,by rw[qab hp];rfl,λj=>qah hp j⟩
theorem qga{g cap:Nat}{e:TypeId}(h:w.ownsRow base e 8 (.slice (some ⟨g,0,none⟩) n cap) n (u64V S)){j:Nat}(hj:j<n*8):∃x,S[j]? =some x/\x∈S/\w.cell? ⟨g,j,none⟩=some (.int .u64 (x:Int)):=by
 have hl:=h.1;rw[qat] at hl;refine⟨S[j],wan Zo,wb4 Zo,?_⟩;rw[h.cellAt j hj];simp[u64V,List.getElem?_eq_getElem (show j<S.length by omega)]
theorem qvn{g cap:Nat}{e:TypeId}(h:w.ownsRow base e 8 (.slice (some ⟨g,0,none⟩) n cap) n (u64V S)){i:Nat}(hi:i<n):w.rangeAt g (i*8) (u64V (qaw S i)):=by
 intro j v hv;have hl:=h.1;rw[qat] at hl;have hj:j<8:=by
  have:=(was.1 hv).1
  rw[qat,qkx hl hi] at this;exact this
 rw[h.cellAt _ Zo,<-hv];simp only[u64V,qaw,way,waw,wa3];rw[if_pos hj]
theorem qso{g cap:Nat}{e:TypeId}(h:w.ownsRow base e 8 (.slice (some ⟨g,0,none⟩) n cap) n (u64V S)){i:Nat}(hi:i<n):w.there g (i*8) 8:=by
 intro j hj;have hl:=h.1;refine⟨?_,h.frozenAt _⟩;rw[h.cellAt _ Zo,wan Zo];rfl
theorem qpd{g cap:Nat}{e:TypeId}:∀(l:List Nat) (o:Nat) (S:List Nat) (w:World),w.ownsRow base e 8 (.slice (some ⟨g,0,none⟩) n cap) n (u64V S)->o+l.length<=n*8->
  (w.setCells g o (u64V l)).ownsRow base e 8 (.slice (some ⟨g,0,none⟩) n cap) n (u64V (putL S o l))
 |[],o,S,w,h,_=>by
  have e:putL S o []=S:=by simp[putL]
  rw[e];exact h
 |x::l,o,S,w,h,ho=>by
  have hl:=h.1;rw[qat] at hl;simp only[waz] at ho;have h1:=(h.stored o (.int .u64 (x:Int))).1;rw[show(u64V S).set o (.int .u64 (x:Int))=u64V (S.set o x) by simp[u64V,List.map_set]] at h1;have h2:=qpd l (o+1) (S.set o x) _ h1 Zo;rw[qtu Zo] at h2;exact h2
theorem RegAt.stepped(h:RegAt w base p n c gs cs gk ck m st D S K f)(s:Int):RegAt (w.setCell ⟨p,3,none⟩ (.int .i64 s)) base p n c gs cs gk ck m s D S K f:=by
 obtain⟨a1,a2,a3⟩:=h.apart;obtain⟨⟨_,l1⟩,⟨_,l2⟩,⟨_,l3⟩,⟨_,l4⟩⟩:=h.lts;obtain⟨h1,h2,h3,h4,h5,h6,h6',hp,hs,hk,hm,hD⟩:=h;have hg:=qd2 w ⟨p,3,none⟩ (.int .i64 s);have hne:∀{x:Nat},p≠x->some x≠some p:=λhx e=>hx (by injection e with e;exact e.symm)
 exact⟨h1,h2,h3,h4,h5,h6,h6',by rw[qaj hp];rfl,qa4 hs (hg.block gs l2 (hne h3)),qa4 hk (hg.block gk l3 (hne h4)),qb5 hm (hg.block m l4 (hne a1)),hD⟩
theorem RegAt.stored(h:RegAt w base p n c gs cs gk ck m st D S K f){j x:Nat}(hj:j<n*8)(hx:x<18446744073709551616):RegAt (w.setCell ⟨gs,j,none⟩ (.int .u64 (x:Int))) base p n c gs cs gk ck m st D (S.set j x) K f:=by
 obtain⟨a1,a2,a3⟩:=h.apart;obtain⟨⟨_,l1⟩,⟨_,l2⟩,⟨_,l3⟩,⟨_,l4⟩⟩:=h.lts;obtain⟨h1,h2,h3,h4,h5,h6,h6',hp,hs,hk,hm,hD,hS,hK⟩:=h;have hg:=qd2 w ⟨gs,j,none⟩ (.int .u64 (x:Int));have hne:∀{x:Nat},gs≠x->some x≠some gs:=λhx e=>hx (by injection e with e;exact e.symm)
 refine⟨h1,h2,h3,h4,h5,h6,h6',by rw[hg.block p l1 (hne (Ne.symm h3))];exact hp,?_,qa4 hk (hg.block gk l3 (hne h5)),qb5 hm (hg.block m l4 (hne a2)),hD,?_,hK⟩
 ·rw[show u64V (S.set j x)=(u64V S).set j (.int .u64 (x:Int)) by simp[u64V,List.map_set]];exact(hs.stored j _).1
 ·intro y hy
  rcases wdl hy with hy|rfl
  ·exact hS y hy
  ·exact hx
theorem RegAt.keptLine(h:RegAt w base p n c gs cs gk ck m st D S K f){i:Nat}{l:List Nat}(hi:i<n)(hl:l.length=8)(hb:∀x∈l,x<18446744073709551616):RegAt (w.setCells gk (i*8) (u64V l)) base p n c gs cs gk ck m st D S (putL K (i*8) l) f:=by
 obtain⟨a1,a2,a3⟩:=h.apart;obtain⟨⟨_,l1⟩,⟨_,l2⟩,⟨_,l3⟩,⟨_,l4⟩⟩:=h.lts;obtain⟨h1,h2,h3,h4,h5,h6,h6',hp,hs,hk,hm,hD,hS,hK⟩:=h;have hg:=qdg gk (u64V l) (i*8) w;have hne:∀{x:Nat},gk≠x->some x≠some gk:=λhx e=>hx (by injection e with e;exact e.symm)
 refine⟨h1,h2,h3,h4,h5,h6,h6',by rw[hg.block p l1 (hne (Ne.symm h4))];exact hp,qa4 hs (hg.block gs l2 (hne (Ne.symm h5))),qpd l (i*8) K w hk Zo,qb5 hm (hg.block m l4 (hne a3)),hD,hS,?_⟩;intro y hy;rcases qw8 hy with hy|hy
 ·exact hK y hy
 ·exact hb y hy
theorem RegAt.noted{w':World}{c':Nat}{D':DataW Value}{f':Nat->Option (List Nat)}(h:RegAt w base p n c gs cs gk ck m st D S K f)(hg:w.grownBy w' (some m))(hm':w'.ownsMap Tryz.prog 3 qdh m c' D')(hD':Noted D' n f'):RegAt w' base p n c' gs cs gk ck m st D' S K f':=by
 obtain⟨a1,a2,a3⟩:=h.apart;obtain⟨⟨_,l1⟩,⟨_,l2⟩,⟨_,l3⟩,⟨_,l4⟩⟩:=h.lts;obtain⟨h1,h2,h3,h4,h5,h6,h6',hp,hs,hk,hm,hD,hS,hK⟩:=h;have hne:∀{x:Nat},m≠x->some x≠some m:=λhx e=>hx (by injection e with e;exact e.symm)
 exact⟨h1,h2,h3,h4,h5,h6,h6',by rw[hg.block p l1 (hne (Ne.symm a1))];exact hp,qa4 hs (hg.block gs l2 (hne (Ne.symm a2))),qa4 hk (hg.block gk l3 (hne (Ne.symm a3))),hm',hD',hS,hK⟩
end
theorem qno(x:Int)(w:World):
  Calls Tryz.prog 116 #[.int .i64 x] w λe w'=>e= .returned (.bool (decide (0<x)&&decide (x<=16384)&&(x.tmod 8==0)))/\w=w':=by
 by_cases h1:0<x
 ·by_cases h2:x<=16384
  ·have e1:decide (0<x)=true:=by simp[h1]
   have e2:decide (x<=16384)=true:=by simp[h2]
   go_enter Tryz.func116,Tryz.ntmps116;go_wp2
   go_ret;exact⟨qae (by rw[e1,e2,wej Zo];simp),rfl⟩
  ·have e1:decide (0<x)=true:=by simp[h1]
   have e2:decide (x<=16384)=false:=by simp[h2]
   go_enter Tryz.func116,Tryz.ntmps116;go_wp2
   go_ret;exact⟨qae Zs,rfl⟩
 ·have e1:decide (0<x)=false:=by simp[h1]
  go_enter Tryz.func116,Tryz.ntmps116;go_wp2
  go_ret;exact⟨qae Zs,rfl⟩
theorem qyf{w:World}{base p n c:Nat}{S K:List Nat}{f:Nat->Option (List Nat)}(h:Reg w base p n c S K f):
  Calls Tryz.prog 389 #[.pointer (some ⟨p,0,none⟩)] w λe w'=>e= .returned (.int .i64 ((n:Int)*8))/\w=w':=by
 obtain⟨_,_,hn,hn0⟩:=h.lt;obtain⟨gs,cs,gk,ck,m,st,D,h⟩:=h;obtain⟨c0,c1,c2,c3,f3⟩:=h.cells;go_enter Tryz.func389,Tryz.ntmps389;go_wp2
 go_ret;exact⟨qb2 Zo,rfl⟩
theorem qlw{w:World}{base p n c:Nat}{S K:List Nat}{f:Nat->Option (List Nat)}(h:Reg w base p n c S K f)(a:Int):
  Calls Tryz.prog 370 #[.pointer (some ⟨p,0,none⟩),.int .i64 a] w λe w'=>e= .returned (.bool (decide (0<=a)&&decide (a<(n:Int)*8)))/\w=w':=by
 by_cases h1:0<=a
 ·have e1:decide (0<=a)=true:=by simp[h1]
  go_enter Tryz.func370,Tryz.ntmps370;go_wp2_with (go_at_call 389;refine(qyf h).mono ?_;rintro e w' ⟨rfl,rfl⟩)
  go_ret;exact⟨qae (by simp[h1]),rfl⟩
 ·have e1:decide (0<=a)=false:=by simp[h1]
  go_enter Tryz.func370,Tryz.ntmps370;go_wp2
  go_ret;exact⟨qae Zs,rfl⟩
theorem qkb:(Tryz.prog.info? 130).map (·.size)=some 8:=by kernel_rfl
theorem qpu:∃d,Tryz.prog.underlying 130=some d/\d.isRow=true:=⟨_,Tryz.underlying130,rfl⟩
theorem qjo:Keyed Tryz.prog 3:=Maps.int_keyed wbn
theorem qys(l:List Nat):(u64V l).toArray.all (·.oneCell')=true:=all_oneCell_toArray λv hv=>by
 obtain⟨x,_,rfl⟩:=wbb.1 hv;rfl
theorem qz3{i:Nat}(hi:i<9223372036854775808):keyOf Tryz.prog 3 (.int .i64 (i:Int))=some (.int .i64 (i:Int)):=Maps.keyOf_int_mk wbn (wek Zo)
theorem qg5{ops:Array Oper}{w:World}{Q:Act->Prop}{rest:List Oper}{op:Oper}{a:Act}{l:List Nat}(hw:Region.wanted op (yielded ops a.tmps)=true)(x:Operand)(ho:op.op= .load 130 x)(b o:Nat)(hx:a.eval x= .pointer (some ⟨b,o,none⟩))(hc:w.rangeAt b o (u64V l))(hl:l.length=8)(h:wpStill Tryz.prog ops w Q rest (a.put op.dst (qcq l))):wpStill Tryz.prog ops w Q (op::rest) a:=by
 obtain⟨d,hd1,hd2⟩:=qpu;exact qhz hw _ x ho b o hx (u64V l) d hc hd1 hd2 (by rw[qat,hl];exact qkb) h
theorem qei{ops:Array Oper}{w:World}{Q:Exit->Act->World->Prop}{rest:List Oper}{op:Oper}{a:Act}{l:List Nat}(hg:op.guard=none)(x y:Operand)(ho:op.op= .store 130 x y)(b o:Nat)(hx:a.eval x= .pointer (some ⟨b,o,none⟩))(hy:a.eval y=qcq l)(ht:w.there b o 8)(hl:l.length=8)(h:wpList Tryz.prog ops Q rest (a.put op.dst undef) (w.setCells b o (u64V l))):wpList Tryz.prog ops Q (op::rest) a w:=
 wpList_store_mid hg _ x y ho b o (u64V l).toArray hx hy (by rw[wa8,qat,hl];exact ht) (by rw[wa8,qat,hl];exact qkb) (qys l) h
theorem qib{ops:Array Oper}{rest:List Oper}{o:Oper}{a:Act}{Q:Exit->Act->World->Prop}{w:World}{m r c n:Nat}{D:DataW Value}{f:Nat->Option (List Nat)}{left:Lit->Bool}{cnt:Nat}(hg:o.guard=none)(it:Operand)(hop:o.op=Op.next it false)(hit:a.eval it= .pointer (some ⟨r,0,none⟩))(h:w.ranges Tryz.prog 3 qdh m r c D left cnt)(hD:Noted D n f)(hleft:∀kl,left kl=true->Maps.has D kl=true)(hDone:(∀kl,left kl=false)->wpList Tryz.prog ops Q rest (a.put o.dst (.tuple #[.bool false])) w)(hMore:∀(j:Nat) (l:List Nat) (w':World) (cnt':Nat),j<n->f j=some l->left (.int .i64 (j:Int))=true->w'.ranges Tryz.prog 3 qdh m r c D (λz=>left z&&!z.sameKey (.int .i64 (j:Int))) cnt'->cnt'<cnt->
   w.grownBy w' (some r)->w'.heap.size=w.heap.size->(Instr.entry (.pointer (some ⟨r,0,none⟩))).run Tryz.prog w'= .ok (.tuple #[.int .i64 (j:Int),qcq l]) w'->wpList Tryz.prog ops Q rest (a.put o.dst (.tuple #[.bool true,.int .i64 (j:Int),qcq l])) w'):
  wpList Tryz.prog ops Q (o::rest) a w:=by
 refine wpList_next_ranges (α:=Int) (β:=Value) w hg it hop 3 qjo qdh (Value.int .i64) (λv=>v) (λkey kl hkey=>by obtain⟨x,rfl,_⟩:=Maps.keyOf_int_inv wbn hkey;exact⟨x,rfl⟩) (λv y _=>⟨v,rfl⟩) m r c D left cnt hit h (λ_ hl=>hDone hl) ?_;intro x v kl y w' cnt' hkey hlk hv hat hrg hlt hgr hsz hen;obtain⟨_,h1,h2,h3⟩:=hD;have hh:=hleft kl hlk;obtain⟨j,hj,rfl⟩:=h1 kl hh;obtain⟨x',ex,ekl,_⟩:=Maps.keyOf_int_inv wbn hkey;cases ex
 cases ekl
 cases hf:f j with
 |none=>rw[h2 j hf] at hh;cases hh
 |some l=>
  obtain⟨_,_,_,_,hat'⟩:=h3 j l hf;have e1:=(hat (.held (qcq l))).symm.trans (hat' _);have e2:v=qcq l:=by
   unfold qdh at hv;injection hv with hv;rw[<-hv] at e1;injection e1
  subst e2;exact hMore j l w' cnt' hj hf hlk hrg hlt hgr hsz hen
theorem qn7{H:Type}{P:Program}{k t e:TypeId}{R:Value->Option (DataW H×List MemPlace)}{b n:Nat}{D:DataW H}{w:World}(h:w.ownsMap P k R b n D)(ht:P.underlying t=some (.map k e))(ty:TypeId):
  ∃w',(Builtin.clear_ #[t] ty #[.map (some b)]).run P w= .ok (.tuple #[]) w'/\w'.ownsMap P k R b n (.map [])/\w.grownBy w' (some b):=by
 obtain⟨es,clock,hb,F,hs,rfl⟩:=h;have hlt:b<w.heap.size:=(waj.1 hb).1;refine⟨{w with heap:=w.heap.setIfInBounds b (.map #[] clock)},?_,⟨#[],clock,?_,⟨by simp,MapKept.stamped_empty clock,by simp⟩,by simp,rfl⟩,⟨rfl,rfl,rfl,by simp,λi _ hi=>?_⟩⟩
 ·simp[Builtin.clear_,run_underlying ht,MapKept.run_getObj_map hb,MapKept.run_setObj_map _ hb,Result.andThen]
 ·simp[hlt]
 ·have:b≠i:=λe=>hi (by rw[e])
  simp[this]
theorem qhy{H:Type}{P:Program}{ops:Array Oper}{rest:List Oper}{o:Oper}{a:Act}{Q:Exit->Act->World->Prop}{w:World}(hg:o.guard=none)(m:Operand)(t:TypeId)(hop:o.op=Op.call {callee:=Callee.builtin Builtin.clear,args:=#[m],argTypes:=#[t]}){k e:TypeId}(ht:P.underlying t=some (.map k e)){R:Value->Option (DataW H×List MemPlace)}{b n:Nat}{D:DataW H}(hm:a.eval m= .map (some b))(hown:w.ownsMap P k R b n D)(hK:∀w',w'.ownsMap P k R b n (.map [])->w.grownBy w' (some b)->wpList P ops Q rest (a.put o.dst (.tuple #[])) w'):wpList P ops Q (o::rest) a w:=by
 refine wpList_plain hg λK' hK'=>?_
 obtain⟨w',hrun,r1,r2⟩:=qn7 hown ht o.type;unfold Oper.wp;simp[execOp,hop,resolve,invoke,builtin,hm,hrun,Result.andThen]
 exact hK' _ _ (hK w' r1 r2)
section
variable {w:World} {base p n c:Nat} {S K:List Nat} {f:Nat->Option (List Nat)}
theorem q0q(h:Reg w base p n c S K f)(i j bx br:Nat)(u:Int)(hi:i<n)(hj:j<8)(hbx:Boxed w bx 40 (.int .u64 u))(hbr:Boxed w br 53 (.pointer (some ⟨p,0,none⟩)))(hb:base<=bx):
  Calls Tryz.prog 368 #[.int .i64 (i:Int),.int .i64 (j:Int),.pointer (some ⟨br,0,none⟩),.pointer (some ⟨bx,0,none⟩)] w λe w'=>
   e= .returned (.tuple #[])/\∃x:Nat,S[i*8+j]? =some x/\w'=w.setCell ⟨bx,0,none⟩ (.int .u64 (x:Int)):=by
 obtain⟨_,_,hn,hn0⟩:=h.lt;obtain⟨gs,cs,gk,ck,m,st,D,h⟩:=h;obtain⟨c0,c1,c2,c3,f3⟩:=h.cells;obtain⟨x,hx,_,hcx⟩:=qga (h.2.2.2.2.2.2.2.2.1) (j:=i*8+j) Zo;have hb1:=hbx.cell;have hb1f:=hbx.frozen;have hb2:=hbr.cell;have z1:(0:Int)<=(i:Int):=Zo
 have z2:(i:Int)<(n:Int):=Zo
 have z3:(0:Int)<=(j:Int):=Zo
 have z4:(j:Int)<8:=Zo
 go_enter Tryz.func368,Tryz.ntmps368;go_wp2
 go_end0
 exact⟨rfl,x,hx,rfl⟩
end
def qhk(D:DataW Value)(n:Nat)(f:Nat->Option (List Nat))(K K':List Nat)(left:Lit->Bool):Prop:=
 (∀kl,left kl=true->Maps.has D kl=true)/\∀k,k<n->qaw K' k=if left (.int .i64 (k:Int)) then qaw K k else(f k).getD (qaw K k)
theorem qk1{D:DataW Value}{n:Nat}{f:Nat->Option (List Nat)}(hD:Noted D n f)(K:List Nat):qhk D n f K K (Maps.has D):=by
 refine⟨λ_ h=>h,λk hk=>?_⟩;by_cases h:Maps.has D (.int .i64 (k:Int))=true
 ·rw[if_pos h]
 ·rw[if_neg h]
  cases hf:f k with
  |none=>rfl
  |some l=>exact absurd (hD.2.2.2 k l hf).2.2.2.1 h
theorem qnd{D:DataW Value}{n:Nat}{f:Nat->Option (List Nat)}{K K' l:List Nat}{left:Lit->Bool}{j:Nat}(h:qhk D n f K K' left)(hK:K'.length=n*8)(hj:j<n)(hf:f j=some l)(hl:l.length=8):
  qhk D n f K (putL K' (j*8) l) (λz=>left z&&!z.sameKey (.int .i64 (j:Int))):=by
 refine⟨λkl hkl=>h.1 kl (by simp at hkl;exact hkl.1),λk hk=>?_⟩;by_cases e:k=j
 ·subst e
  have hs:(Lit.int .i64 (k:Int)).sameKey (.int .i64 (k:Int))=true:=WideAt.sameKey_self (show WideAt.IsKeyLit (.int .i64 (k:Int)) from trivial);rw[qjw hK hj hl];simp[hf,hs]
 ·have hs:(Lit.int .i64 (k:Int)).sameKey (.int .i64 (j:Int))=false:=Maps.sameKey_ne (by intro e';injection e' with _ e';omega)
  rw[qis hK hj hk hl e,h.2 k hk];simp[hs]
section
variable {w:World} {base p n c:Nat} {S K:List Nat} {f:Nat->Option (List Nat)}
theorem qhh(h:Reg w base p n c S K f){a:Nat}(ha:a<n*8):
  Calls Tryz.prog 370 #[.pointer (some ⟨p,0,none⟩),.int .i64 (a:Int)] w λe w'=>e= .returned (.bool true)/\w=w':=
 (qlw h (a:Int)).mono λe w' ⟨he,hw⟩=>⟨by rw[he];exact qae Zx,hw⟩
theorem q2a(h:Reg w base p n c S K f){a:Int}(ha:¬(0<=a/\a<(n:Int)*8)):
  Calls Tryz.prog 370 #[.pointer (some ⟨p,0,none⟩),.int .i64 a] w λe w'=>e= .returned (.bool false)/\w=w':=
 (qlw h a).mono λe w' ⟨he,hw⟩=>⟨by rw[he];exact qae Zx,hw⟩
theorem qjy(h:Reg w base p n c S K f){a:Int}(ha:¬(0<=a/\a<(n:Int)*8))(v:Value):
  Calls Tryz.prog 328 #[.pointer (some ⟨p,0,none⟩),.int .i64 a,v] w λe w'=>e= .returned (.int .i64 13)/\w=w':=by
 go_enter wc3,wc4;go_wp2_with (go_at_call 370;refine(q2a h ha).mono ?_;rintro e w' ⟨rfl,rfl⟩)
 go_ret;exact⟨rfl,rfl⟩
theorem qtw(h:Reg w base p n c S K f){a:Nat}(ha:a<n*8){c1 c2:Value}{R:World->Prop}(hdo:Calls Tryz.prog 368 #[.int .i64 ((a/8:Nat):Int),.int .i64 ((a%8:Nat):Int),c1,c2] w λe w'=>e= .returned (.tuple #[])/\R w')(hR:∀w1,R w1->∃st,w1.cell? ⟨p,3,none⟩=some (.int .i64 st)/\w1.frozen? ⟨p,3,none⟩=false):
  Calls Tryz.prog 328 #[.pointer (some ⟨p,0,none⟩),.int .i64 (a:Int),.func (.func 368) #[] #[c1,c2]] w λe w'=>
   e= .returned (.int .i64 0)/\∃(w1:World) (s:Int),R w1/\w'=w1.setCell ⟨p,3,none⟩ (.int .i64 s):=by
 obtain⟨_,_,hn,hn0⟩:=h.lt;go_enter wc3,wc4;go_wp2_with (first|(go_at_call 370;refine(qhh h ha).mono ?_;rintro e w' ⟨rfl,rfl⟩)|(go_at_call 368;refine hdo.mono ?_;rintro e w1 ⟨rfl,hr⟩;obtain⟨st,hc3,hf3⟩:=hR w1 hr))
 go_ret;exact⟨rfl,_,_,hr,rfl⟩
theorem qqy(h:Reg w base p n c S K f){a:Nat}(ha:a<n*8){c1 c2:Value}{R:World->Prop}(hdo:Calls Tryz.prog 329 #[.int .i64 ((a/8:Nat):Int),.int .i64 ((a%8:Nat):Int),c1,c2] w λe w'=>e= .returned (.tuple #[])/\R w')(hR:∀w1,R w1->∃st,w1.cell? ⟨p,3,none⟩=some (.int .i64 st)/\w1.frozen? ⟨p,3,none⟩=false):
  Calls Tryz.prog 328 #[.pointer (some ⟨p,0,none⟩),.int .i64 (a:Int),.func (.func 329) #[] #[c1,c2]] w λe w'=>
   e= .returned (.int .i64 0)/\∃(w1:World) (s:Int),R w1/\w'=w1.setCell ⟨p,3,none⟩ (.int .i64 s):=by
 obtain⟨_,_,hn,hn0⟩:=h.lt;go_enter wc3,wc4;go_wp2_with (first|(go_at_call 370;refine(qhh h ha).mono ?_;rintro e w' ⟨rfl,rfl⟩)|(go_at_call 329;refine hdo.mono ?_;rintro e w1 ⟨rfl,hr⟩;obtain⟨st,hc3,hf3⟩:=hR w1 hr))
 go_ret;exact⟨rfl,_,_,hr,rfl⟩
theorem qqh(h:Reg w base p n c S K f){a:Nat}(ha:a<n*8){c1:Value}{R:World->Prop}(hdo:Calls Tryz.prog 373 #[.int .i64 ((a/8:Nat):Int),.int .i64 ((a%8:Nat):Int),c1] w λe w'=>e= .returned (.tuple #[])/\R w')(hR:∀w1,R w1->∃st,w1.cell? ⟨p,3,none⟩=some (.int .i64 st)/\w1.frozen? ⟨p,3,none⟩=false):
  Calls Tryz.prog 328 #[.pointer (some ⟨p,0,none⟩),.int .i64 (a:Int),.func (.func 373) #[] #[c1]] w λe w'=>
   e= .returned (.int .i64 0)/\∃(w1:World) (s:Int),R w1/\w'=w1.setCell ⟨p,3,none⟩ (.int .i64 s):=by
 obtain⟨_,_,hn,hn0⟩:=h.lt;go_enter wc3,wc4;go_wp2_with (first|(go_at_call 370;refine(qhh h ha).mono ?_;rintro e w' ⟨rfl,rfl⟩)|(go_at_call 373;refine hdo.mono ?_;rintro e w1 ⟨rfl,hr⟩;obtain⟨st,hc3,hf3⟩:=hR w1 hr))
 go_ret;exact⟨rfl,_,_,hr,rfl⟩
theorem qrd(h:Reg w base p n c S K f){a:Nat}(ha:a<n*8){c1:Value}{R:World->Prop}(hdo:Calls Tryz.prog 374 #[.int .i64 ((a/8:Nat):Int),.int .i64 ((a%8:Nat):Int),c1] w λe w'=>e= .returned (.tuple #[])/\R w')(hR:∀w1,R w1->∃st,w1.cell? ⟨p,3,none⟩=some (.int .i64 st)/\w1.frozen? ⟨p,3,none⟩=false):
  Calls Tryz.prog 328 #[.pointer (some ⟨p,0,none⟩),.int .i64 (a:Int),.func (.func 374) #[] #[c1]] w λe w'=>
   e= .returned (.int .i64 0)/\∃(w1:World) (s:Int),R w1/\w'=w1.setCell ⟨p,3,none⟩ (.int .i64 s):=by
 obtain⟨_,_,hn,hn0⟩:=h.lt;go_enter wc3,wc4;go_wp2_with (first|(go_at_call 370;refine(qhh h ha).mono ?_;rintro e w' ⟨rfl,rfl⟩)|(go_at_call 374;refine hdo.mono ?_;rintro e w1 ⟨rfl,hr⟩;obtain⟨st,hc3,hf3⟩:=hR w1 hr))
 go_ret;exact⟨rfl,_,_,hr,rfl⟩
theorem Reg.count(h:Reg w base p n c S K f):∃st,w.cell? ⟨p,3,none⟩=some (.int .i64 st)/\w.frozen? ⟨p,3,none⟩=false:=by
 obtain⟨gs,cs,gk,ck,m,st,D,h⟩:=h;obtain⟨_,_,_,c3,f3⟩:=h.cells;exact⟨st,c3,f3 3⟩
end
end Go.Proofs.YtgjhkafggagniaaGreat
