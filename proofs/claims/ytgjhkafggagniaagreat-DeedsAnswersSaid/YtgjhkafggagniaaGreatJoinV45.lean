/- Parts. No condition. -/
import Derived.Test.YtgjhkafggagniaaGreatJoinV44
import Derived.Test.YtgjhkafggagniaaGreatJoinV43
set_option linter.unusedVariables false
set_option maxRecDepth 100000
set_option maxHeartbeats 8000000
namespace Go.Proofs.YtgjhkafggagniaaGreat
open Go Go.RowKit
section
variable {τ:Type} {B:DB τ} {l:List Nat} {s:DM×τ} {F:Nat->Prop} {w:World} {C:Nat} {ov:Bool} {T:List Nat}
def DB.AllO(B:DB τ)(C:Nat)(F:Nat->Prop)(w:World)(e:Ending)(w':World):Out (DM×τ) (List Nat)->Prop
 | .done T i l s=>e= .returned (.int .i64 0)/\∃F',B.At (C+l.length+1) l s true T F' w'/\Grows F F' w
 | .stop bl l s=>e= .returned (.int .i64 (if bl then 5 else 12))/\∃F',B.At (C+l.length+1) l s false [] F' w'/\Grows F F' w
 | .wild=>True
theorem qxf{DF:Nat}{caps:Array Value}{t:AP (DM×τ) (List Nat)}(hen:∀(args:Array Value) (w:World),(callFunc DF args).run Tryz.prog w= .ok (.enter DF args) w)(h:B.At C l s false T F w)(hC:C+100000<maxLen)(hl:l.length<=99000)(fuse:Int)(hdf:B.df= .func (.func DF) #[] caps)(hw:t (qa0 fuse l.length) 0 l s≠ .wild)(hdeed:∀eb a b c fs V F',Upd (λ_=>False) w V->(B.env eb a b c fs fuse l.length C).In 0 l s F' V->(∀k,F' k->F k\/w.heap.size<=k)->Calls Tryz.prog DF (#[.pointer (some ⟨eb,0,none⟩)]++caps) V λe w'=>(B.env eb a b c fs fuse l.length C).Post (t (qa0 fuse l.length) 0 l s) ansR F' V e w'):
  Calls Tryz.prog 16 #[.pointer (some ⟨B.X,0,none⟩),.int .i64 fuse] w λe w'=>Upd F w w'/\B.AllO C F w e w' (t (qa0 fuse l.length) 0 l s):=by
 have hlet:=qw0 hen h hC hl fuse hdf hw hdeed;obtain⟨lv,G,an,hR,-,-,-,han⟩:=h;obtain⟨-,-,-,-,-,x5,-,-⟩:=hR.cells;unfold DB.Let at hlet;clear hdeed hR han;generalize t (qa0 fuse l.length) 0 l s=o at hlet hw ⊢;cases o with
 |wild=>exact absurd rfl hw
 |done T' i l' s'=>
  have hlet:=waa hlet;go_enter Tryz.func16,Tryz.ntmps16;go_wp2_with fail;refine hlet.out.mono ?_;rintro e w1 ⟨hu,rfl,F',hA,hg⟩;have hA':=hA;obtain⟨lv',G',an',hR',-⟩:=hA';obtain⟨-,-,-,-,-,y5,-,-⟩:=hR'.cells;have hfin:=waa (And.intro hu (And.intro hA hg));clear hA hg hu hR' hlet;go_wp2_with fail;go_ret;exact⟨hfin.out.1,rfl,F',hfin.out.2.1,hfin.out.2.2⟩
 |stop bl l' s'=>
  have hlet:=waa hlet;go_enter Tryz.func16,Tryz.ntmps16;go_wp2_with fail;refine hlet.out.mono ?_;rintro e w1 ⟨hu,rfl,F',hA,hg⟩;have hA':=hA;obtain⟨lv',G',an',hR',-⟩:=hA';obtain⟨-,-,-,-,-,y5,-,-⟩:=hR'.cells;have hfin:=waa (And.intro hu (And.intro hA hg));clear hA hg hu hR' hlet;cases bl with
  |true=>
   go_wp2_with fail;go_ret;exact⟨hfin.out.1,rfl,F',hfin.out.2.1,hfin.out.2.2⟩
  |false=>
   go_wp2_with fail;go_ret;exact⟨hfin.out.1,rfl,F',hfin.out.2.1,hfin.out.2.2⟩
theorem qya(p tp:Nat)(who:Int)(DF:Nat)(caps:Array Value)(w:World):
  Calls Tryz.prog 37 #[.pointer (some ⟨p,0,none⟩),.pointer (some ⟨tp,0,none⟩),.int .i64 who,.func (.func DF) #[] caps] w λe w'=>
   ∃X,e= .returned (.pointer (some ⟨X,0,none⟩))/\w.heap.size<=X/\RnP w' X p tp who (.func (.func DF) #[] caps) (.slice none 0 0) [] false (.slice none 0 0)/\Upd (λ_=>False) w w':=by
 have hU:Upd (λ_=>False) w (w.alloc (.cells #[.pointer (some ⟨p,0,none⟩),.pointer (some ⟨tp,0,none⟩),.int .i64 who,.func (.func DF) #[] caps,.slice none 0 0,.bool false,.slice none 0 0] 97)):=(Upd.refl _ w).alloc _;have hR:RnP (w.alloc (.cells #[.pointer (some ⟨p,0,none⟩),.pointer (some ⟨tp,0,none⟩),.int .i64 who,.func (.func DF) #[] caps,.slice none 0 0,.bool false,.slice none 0 0] 97)) w.heap.size p tp who (.func (.func DF) #[] caps) (.slice none 0 0) [] false (.slice none 0 0):=
  ⟨qad rfl _ _,⟨rfl,.inl ⟨rfl,rfl⟩⟩⟩
 replace hU:=waa hU;replace hR:=waa hR;go_enter Tryz.func37,Tryz.ntmps37;go_wp2_with fail;go_ret;exact⟨_,rfl,wah _,hR.out,hU.out⟩
theorem DB.At.make{G:Nat->Prop}(hR:RnP w B.X B.p B.tp B.who B.df (.slice none 0 0) [] false (.slice none 0 0))(hP:PsR w B.p B.gs B.gk B.m B.n B.tp B.tg B.nl C s.1)(hE:B.Ex s.2 G w)(hG:∀k,G k->¬psF B.p B.gs B.gk B.m B.tp B.tg k):
  B.At C [] s false [] (λk=>psF B.p B.gs B.gk B.m B.tp B.tg k\/G k\/k=B.X) w:=by
 refine⟨_,G,_,hR,⟨hP,hE⟩,⟨?_,?_,hG⟩,λe=>(by cases e),λ_=>rfl,by simp⟩
 ·rintro k (e|e|e|e|e)
  ·exact .inl e
  ·exact .inr (.inl e)
  ·exact .inr (.inr e)
  ·cases e
  ·cases e
 ·rintro k (e|e|rfl)
  ·exact hP.lts e
  ·exact B.exLt _ _ _ _ hE e
  ·exact hR.lt
def AnsV(w w':World)(v:Value)(T:List Nat):Prop:=w'.ownsRow w.heap.size 40 1 v T.length (u64V T)/\(T.length=0->v= .slice none 0 0)/\Below w.heap.size w w'
end
def ansN(a:ANS):List Nat:=[(IntKind.u64.wrap a.1).toNat,(IntKind.u64.wrap a.2.1).toNat,a.2.2]
noncomputable def deed19 (A:AC) (E:DP HS) (n L:Nat):AP (DM×HS) (List Nat):=(doneA A E n L []).bind λr=>AP.ret (ansN r.1)
theorem qn5{w:World}{K:Nat}(hK:w.heap.size=K){x y z:Nat}:(w.alloc (.cells #[.int .u64 (x:Int),.int .u64 (y:Int),.int .u64 (z:Int)] 40)).ownsRow 0 40 1 (.slice (some ⟨K,0,none⟩) 3 3) 3 (u64V [x,y,z]):=by
 subst hK;exact⟨rfl,.inr ⟨_,3,_,rfl,wat _,World.alloc_heap_new w _,wah _,by unfold maxLen;omega,rfl,rfl⟩⟩
section
variable {A:AC} {E:DP HS} {i i':Nat} {l l':List Nat} {s s':DM×HS} {F F':Nat->Prop} {w w':World} {base n L b1 b2 b3:Nat} {e:Ending}
theorem qud(h:E.In i l s F w)(hab:A.ab=w.heap.size)(heb:A.eb=E.eb)(hD:DdE A E base n L)(h1:Gi w b1 A.s A.l A.r)(h2:Boxed w b2 54 (.pointer (some ⟨A.hb,0,none⟩))){eX:Option Addr}{en ec:Nat}(hed:A.ed= .slice eX en ec)(h3:w.heap[b3]? =some (.cells #[.int .i64 A.kind,.int .i64 A.who,.bool A.root,.int .i64 A.obj,.int .i64 A.idx,.int .i64 A.words,.int .i64 A.slots,.int .i64 A.target,.int .i64 A.many,.int .u64 (A.x:Int),.slice eX en ec] 43 (0,0)))(ho:-9223372036854775808<=A.obj/\A.obj<=9223372036854775807)(hw:deed19 A E n L E.sp i l s≠ .wild):
  Calls Tryz.prog 69 #[.pointer (some ⟨E.eb,0,none⟩),.pointer (some ⟨b1,0,none⟩),.pointer (some ⟨b2,0,none⟩),.pointer (some ⟨b3,0,none⟩)] w λe w'=>E.Post (deed19 A E n L E.sp i l s) ansR F w e w':=by
 obtain⟨g0,g1,g2,gf⟩:=h1.cells;have c2:=h2.cell;have k0:w.cell? ⟨b3,0,none⟩=some (.int .i64 A.kind):=qab h3 0;have k1:w.cell? ⟨b3,1,none⟩=some (.int .i64 A.who):=qab h3 1;have k2:w.cell? ⟨b3,2,none⟩=some (.bool A.root):=qab h3 2;have k3:w.cell? ⟨b3,3,none⟩=some (.int .i64 A.obj):=qab h3 3;have k4:w.cell? ⟨b3,4,none⟩=some (.int .i64 A.idx):=qab h3 4;have k5:w.cell? ⟨b3,5,none⟩=some (.int .i64 A.words):=qab h3 5;have k6:w.cell? ⟨b3,6,none⟩=some (.int .i64 A.slots):=qab h3 6;have k7:w.cell? ⟨b3,7,none⟩=some (.int .i64 A.target):=qab h3 7;have k8:w.cell? ⟨b3,8,none⟩=some (.int .i64 A.many):=qab h3 8;have k9:w.cell? ⟨b3,9,none⟩=some (.int .u64 (A.x:Int)):=qab h3 9;have k10:w.cell? ⟨b3,10,none⟩=some (.slice eX en ec):=qab h3 10;have hu0:Upd (λ_=>False) w (w.alloc (.cells #[.pointer (some ⟨E.eb,0,none⟩),.int .i64 A.s,.int .i64 A.l,.int .i64 A.r,.pointer (some ⟨A.hb,0,none⟩),.int .i64 A.kind,.int .i64 A.who,.bool A.root,.int .i64 A.obj,.int .i64 A.idx,.int .i64 A.words,.int .i64 A.slots,.int .i64 A.target,.int .i64 A.many,.int .u64 (A.x:Int),.slice eX en ec,.slice none 0 0] 157)):=(Upd.refl _ w).alloc _;have hblk:(w.alloc (.cells #[.pointer (some ⟨E.eb,0,none⟩),.int .i64 A.s,.int .i64 A.l,.int .i64 A.r,.pointer (some ⟨A.hb,0,none⟩),.int .i64 A.kind,.int .i64 A.who,.bool A.root,.int .i64 A.obj,.int .i64 A.idx,.int .i64 A.words,.int .i64 A.slots,.int .i64 A.target,.int .i64 A.many,.int .u64 (A.x:Int),.slice eX en ec,.slice none 0 0] 157)).heap[A.ab]? =some (.cells (A.cells (.slice none 0 0)) 157 (0,0)):=by
  rw[hab];unfold AC.cells;rw[heb,hed];exact World.alloc_heap_new w _
 have hAI:AIn A E i l s F (.slice none 0 0) [] (w.alloc (.cells #[.pointer (some ⟨E.eb,0,none⟩),.int .i64 A.s,.int .i64 A.l,.int .i64 A.r,.pointer (some ⟨A.hb,0,none⟩),.int .i64 A.kind,.int .i64 A.who,.bool A.root,.int .i64 A.obj,.int .i64 A.idx,.int .i64 A.words,.int .i64 A.slots,.int .i64 A.target,.int .i64 A.many,.int .u64 (A.x:Int),.slice eX en ec,.slice none 0 0] 157)):=⟨h.new hu0,⟨hblk,⟨rfl,.inl ⟨rfl,rfl⟩⟩,λe he=>by cases he⟩,λe=>by have:=h.lt e;omega,λk hk=>(by cases hk),heb⟩
 have hFl:∀k,F k->k<w.heap.size:=λk hk=>h.lt hk
 have hw1:doneA A E n L [] E.sp i l s≠ .wild:=AP.tame hw;obtain⟨W1,hW1⟩:∃W1,w.alloc (.cells #[.pointer (some ⟨E.eb,0,none⟩),.int .i64 A.s,.int .i64 A.l,.int .i64 A.r,.pointer (some ⟨A.hb,0,none⟩),.int .i64 A.kind,.int .i64 A.who,.bool A.root,.int .i64 A.obj,.int .i64 A.idx,.int .i64 A.words,.int .i64 A.slots,.int .i64 A.target,.int .i64 A.many,.int .u64 (A.x:Int),.slice eX en ec,.slice none 0 0] 157)=W1:=⟨_,rfl⟩
 rw[hW1] at hAI hu0;have hs1:w.heap.size<=W1.heap.size:=hu0.size;have hdn:=waa (qu2 (H:=noH) hAI hD ho Zs hed hw1 (λk e=>e.elim));replace hAI:=waa hAI;replace hW1:=waa hW1;replace hu0:=waa hu0;rw[hab] at hdn;clear h1 h2 h3 h hblk;go_enter Tryz.func69,Tryz.ntmps69;go_upto_region 4 with fail
 rw[hW1.out];go_wp2_with fail;refine hdn.out.mono ?_;intro e V hpost;obtain⟨hu1,hp1⟩:=hpost;have hU:Upd F w V:=((hu0.out).mono (λ_ e=>e.elim)).after hu1 (λk hk=>by
  rcases hk with e|e|e|e
  ·exact .inl e
  ·exact .inr Zo
  ·cases e
  ·exact e.elim)
 cases ho1:doneA A E n L [] E.sp i l s with
 |wild=>exact absurd ho1 hw1
 |stop bl l1 s1=>
  rw[ho1] at hp1;obtain⟨F1,rfl,hO1,hg1⟩:=hp1;exact⟨rfl,DP.Post.stopped (t:=deed19 A E n L) (AP.bind_stop ho1) rfl hO1 (λk hk=>(hg1 k hk).imp id (λe=>wam hs1 e)) hU⟩
 |done r i1 l1 s1=>
  rw[ho1] at hp1;obtain⟨x1,F1,v1,rfl,rfl,hI1,hg1,hr1⟩:=hp1;obtain⟨⟨a0,a1,a2⟩,aw⟩:=r;unfold anX anV;dsimp only
  obtain⟨y0,hy0⟩:∃y0:Nat,IntKind.u64.wrap a0=(y0:Int):=⟨_,(qhj a0).1.symm⟩
  obtain⟨y1,hy1⟩:∃y1:Nat,IntKind.u64.wrap a1=(y1:Int):=⟨_,(qhj a1).1.symm⟩
  have hT:ansN (a0,a1,a2)=[y0,y1,a2]:=by simp[ansN,hy0,hy1]
  obtain⟨⟨z0,z1,z2⟩,zf⟩:=qaf (heap_alloc_new V (.cells #[.int .i64 a0,.int .i64 a1,.int .u64 (a2:Int)] 60));have hfin:=waa (DP.Post.ended (t:=deed19 A E n L) (R:=ansR) (a:=ansN (a0,a1,a2)) (v:= .slice (some ⟨V.heap.size+1,0,none⟩) 3 3) (AP.bind_done ho1) rfl (w':=(V.alloc (.cells #[.int .i64 a0,.int .i64 a1,.int .u64 (a2:Int)] 60)).alloc (.cells #[.int .u64 (y0:Int),.int .u64 (y1:Int),.int .u64 (a2:Int)] 40)) (by
   rw[hT];exact⟨⟨0,qn5 Zs⟩,λe=>by simp at e,by simp⟩) (hI1.i.new (((Upd.refl _ V).alloc _).alloc _)) (λk hk=>(hg1 k hk).imp id (λe=>wam hs1 e)) ((hU.alloc _).alloc _))
  clear hI1 hg1 hr1 ho1 hU hu1 hdn hAI hT;go_wp2_with fail;go_ret;exact hfin.out
end
theorem qkz(w:World):(binOp .eql 41 (.slice none 0 0) (.slice none 0 0)).run Tryz.prog w= .ok (.bool true) w:=by
 have h:∀d:Nat,(Op.equalIn (d+1) 41 (.slice none 0 0) (.slice none 0 0)).run Tryz.prog w= .ok true w:=λd=>by
  simp[Op.equalIn,run_underlying Tryz.underlying41]
 simp only[binOp];simp[Op.equal,Op.maxDepth,h 9999]
theorem qrv(w:World):Calls Tryz.prog 68 #[.slice none 0 0] w λe w'=>e= .returned (.slice none 0 0)/\w=w':=by
 have hnil:=qkz;go_enter Tryz.func68,Tryz.ntmps68;go_wp2_with fail;go_ret;exact⟨rfl,rfl⟩
theorem qqf(s l r:Int)(hb:Nat)(kind who obj idx words slots target many:Int)(root:Bool)(x:Nat)(w:World):
  Calls Tryz.prog 38 #[.agg #[.int .i64 s,.int .i64 l,.int .i64 r],.pointer (some ⟨hb,0,none⟩),.agg #[.int .i64 kind,.int .i64 who,.bool root,.int .i64 obj,.int .i64 idx,.int .i64 words,.int .i64 slots,.int .i64 target,.int .i64 many,.int .u64 (x:Int),.slice none 0 0]] w
   λe w'=>∃B,w.heap.size<=B/\e= .returned (.func (.func 69) #[] #[.pointer (some ⟨B,0,none⟩),.pointer (some ⟨B+1,0,none⟩),.pointer (some ⟨B+2,0,none⟩)])/\Gi w' B s l r/\Boxed w' (B+1) 54 (.pointer (some ⟨hb,0,none⟩))/\
    w'.heap[B+2]? =some (.cells #[.int .i64 kind,.int .i64 who,.bool root,.int .i64 obj,.int .i64 idx,.int .i64 words,.int .i64 slots,.int .i64 target,.int .i64 many,.int .u64 (x:Int),.slice none 0 0] 43 (0,0))/\Upd (λ_=>False) w w':=by
 have hmf:∀(fn:Fn) (first cap:Array Value) (w:World),(Instr.makeFunc fn first cap).run Tryz.prog w= .ok (.func fn first cap) w:=λ_ _ _ _=>rfl
 have hcl:=waa (λV=>qrv V);go_enter Tryz.func38,Tryz.ntmps38;go_wp2_with fail;refine(hcl.out _).mono ?_;rintro e V ⟨rfl,rfl⟩;go_wp2_with fail;go_ret;exact⟨w.heap.size,wah _,rfl,qag (qag (heap_alloc_new w _) _) _,qag (qad Zs _ _) _,qad Zs _ _,(((Upd.refl _ w).alloc _).alloc _).alloc _⟩
def qfw(T:List Nat):ANS:=match T with
 |[a,b,c]=>(IntKind.i64.wrap (a:Int),IntKind.i64.wrap (b:Int),c)
 |_=>(0,0,0)
theorem qmd{T:List Nat}(h:T.length≠3):qfw T=(0,0,0):=by
 unfold qfw;split
 ·exact absurd rfl h
 ·rfl
theorem qf3(A:Option Addr)(n cap:Nat)(T:List Nat)(w:World)(hr:Rd w A n (u64V T)):
  Calls Tryz.prog 19 #[.slice A n cap] w λe w'=>e= .returned (anX (qfw T))/\Below w.heap.size w w':=by
 have hT:T.length=n:=by have:=hr.1;rw[qat] at this;exact this
 have hL0:(w.alloc (.cells #[.int .i64 0,.int .i64 0,.int .u64 0] 60)).heap[w.heap.size]? =some (.cells #[.int .i64 0,.int .i64 0,.int .u64 0] 60 (0,0)):=heap_alloc_new w _;have hB0:=(wai w.heap.size w).alloc (wah _) (.cells #[.int .i64 0,.int .i64 0,.int .u64 0] 60);by_cases hn:n=3
 rotate_left
 ·rw[qmd Zo]
  have hn':¬(n:Int)=3:=Zo
  replace hB0:=waa hB0;clear hr hT hL0;go_enter Tryz.func19,Tryz.ntmps19;go_wp2_with fail;exact qak rfl rfl rfl (qai (heap_alloc_new w _)) ⟨rfl,hB0.out⟩
 subst hn;match T,hT,hr with
 |[a,b,c],_,hr=>
 obtain⟨p,rfl,hp⟩:=hr.2 Zo;have q0:w.cell? p=some (.int .u64 (a:Int)):=hp 0 _ rfl;have q1:w.cell? ⟨p.block,p.off+1,none⟩=some (.int .u64 (b:Int)):=hp 1 _ rfl;have q2:w.cell? ⟨p.block,p.off+2,none⟩=some (.int .u64 (c:Int)):=hp 2 _ rfl;have e0:=qaa hB0 q0;have e1:=qaa hB0 q1;have e2:=qaa hB0 q2;obtain⟨⟨z0,z1,z2⟩,zf⟩:=qaf hL0;have hpl:p.block<w.heap.size:=wal w _ q0;have hb1:p.block≠w.heap.size:=Zo
 clear hr hp;go_enter Tryz.func19,Tryz.ntmps19;go_upto_region 3 with fail
 refine wp_region_held_drew (S:=(λU=>U.cell? p=some (.int .u64 (a:Int))/\U.cell? ⟨p.block,p.off+1,none⟩=some (.int .u64 (b:Int))/\U.cell? ⟨p.block,p.off+2,none⟩=some (.int .u64 (c:Int)))) Zk (⟨e0,e1,e2⟩) (λhHeld=>?_);refine wpAnyH_take (i:=0) (v:=?_) rfl Zk Zk Zk (λ_ _ _ h=>h) (Or.inl ⟨by rfl,?_⟩) Za ?_;rotate_left;(·intro u h;(try dsimp only at h);(try simp only[wab,wac]);go_simp;try with_reducible rfl);try simp only[Act.put,waf,wae,wag,wab,wac]
 refine wpAnyH_take (i:=1) (v:=?_) rfl Zk Zk Zk (λ_ _ _ h=>h) (Or.inl ⟨by rfl,?_⟩) Za ?_;rotate_left;(·intro u h;(try dsimp only at h);(try simp only[wab,wac,wad]);go_simp;try with_reducible rfl);try simp only[Act.put,waf,wae,wag,wab,wac,wad]
 refine wpAnyH_take (i:=2) (v:=?_) rfl Zk Zk Zk (λ_ _ _ h=>h) (Or.inl ⟨by rfl,?_⟩) Za ?_;rotate_left;(·intro u h;(try dsimp only at h);(try simp only[wab,wac,wad]);go_simp;try with_reducible rfl);try simp only[Act.put,waf,wae,wag,wab,wac,wad]
 refine wpAnyH_take (i:=3) (v:=?_) rfl Zk Zk Zk (λ_ _ _ h=>h) (Or.inl ⟨by rfl,?_⟩) Za ?_;rotate_left;(·intro u h;(try dsimp only at h);(try simp only[wab,wac,wad]);go_simp;try with_reducible rfl);try simp only[Act.put,waf,wae,wag,wab,wac,wad]
 refine wpAnyH_take (i:=4) (v:=?_) rfl Zk Zk Zk (λ_ _ _ h=>h) (Or.inl ⟨by rfl,?_⟩) Za ?_;rotate_left;(·intro u h;(try dsimp only at h);(try simp only[wab,wac,wad]);go_simp;try with_reducible rfl);try simp only[Act.put,waf,wae,wag,wab,wac,wad]
 refine wpAnyH_take (i:=5) (v:=?_) rfl Zk Zk Zk (λ_ _ _ h=>h) (Or.inl ⟨by rfl,?_⟩) Za ?_;rotate_left;(·intro u h;(try dsimp only at h);(try simp only[wab,wac,wad]);go_simp;try with_reducible rfl);try simp only[Act.put,waf,wae,wag,wab,wac,wad]
 refine wpAnyH_take (i:=6) (v:=?_) rfl Zk Zk Zk (λ_ _ _ h=>h) (Or.inl ⟨by rfl,?_⟩) Za ?_;rotate_left;(·intro u h;(try dsimp only at h);(try simp only[wab,wac,wad]);go_simp;try with_reducible rfl);try simp only[Act.put,waf,wae,wag,wab,wac,wad]
 refine wpAnyH_take (i:=7) (v:=?_) rfl Zk Zk Zk (λ_ _ _ h=>h) (Or.inl ⟨by rfl,?_⟩) Za ?_;rotate_left;(·intro u h;(try dsimp only at h);(try simp only[wab,wac,wad]);go_simp;try with_reducible rfl);try simp only[Act.put,waf,wae,wag,wab,wac,wad]
 refine wpAnyH_take (i:=8) (v:=?_) rfl Zk Zk Zk (λ_ _ _ h=>h) (Or.inl ⟨by rfl,?_⟩) Za ?_;rotate_left;(·intro u h;(try dsimp only at h);(try simp only[wab,wac,wad]);go_simp;try with_reducible rfl);try simp only[Act.put,waf,wae,wag,wab,wac,wad]
 refine wpAnyH_take (i:=9) (v:=?_) rfl Zk Zk Zk (λ_ _ _ h=>h) (Or.inl ⟨by rfl,?_⟩) Za ?_;rotate_left;(·intro u h;(try dsimp only at h);(try simp only[wab,wac,wad]);go_simp;try with_reducible rfl);try simp only[Act.put,waf,wae,wag,wab,wac,wad]
 refine wpAnyH_take (i:=10) (v:=?_) rfl Zk Zk Zk (λ_ _ _ h=>h) (Or.inl ⟨by rfl,?_⟩) Za ?_;rotate_left;(·intro u h;(try dsimp only at h);(try simp only[wab,wac,wad]);go_simp;try with_reducible rfl);try simp only[Act.put,waf,wae,wag,wab,wac,wad]
 refine wpAnyH_take (i:=11) (v:=?_) rfl Zk Zk Zk (λ_ _ _ h=>h) (Or.inl ⟨by rfl,?_⟩) Za ?_;rotate_left;(·intro u h;(try dsimp only at h);(try simp only[wab,wac,wad]);go_simp;try with_reducible rfl);try simp only[Act.put,waf,wae,wag,wab,wac,wad]
 refine wpAnyH_ready (rs:=[12]) Zk Zs ?_;refine AllReadyH.cons rfl (λK hK=>?_) AllReadyH.nil
 (try simp only[wab,wac,wad])
 go_simp
 have hBs:=waa ((wai w.heap.size w).alloc (wah _) (.cells #[.int .i64 (IntKind.i64.wrap (a:Int)),.int .i64 (IntKind.i64.wrap (b:Int)),.int .u64 (c:Int)] 60)).drew;refine hK.out _ _ (⟨qaa hBs.out q0,qaa hBs.out q1,qaa hBs.out q2⟩) (λhHeld2=>?_);clear hK K hHeld;have hHeld:=hHeld2;clear hHeld2;try simp only[Act.put,waf,wae,wag,wab,wac,wad]
 refine wpAnyH_done Zk ?_ _;clear hHeld;go_wp2_with fail;exact qak rfl rfl rfl (qai (qmm (heap_alloc_new w _))) ⟨rfl,hBs.out⟩
end Go.Proofs.YtgjhkafggagniaaGreat
