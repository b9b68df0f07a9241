/- Parts. No condition. -/
import Derived.Test.YtocncmbeinmiaaaGreatJoinU54
import Derived.Test.YtocncmbeinmiaaaGreatJoinU43
set_option linter.unusedVariables false
set_option maxRecDepth 100000
set_option maxHeartbeats 8000000
namespace Go.Proofs.YtocncmbeinmiaaaGreat
open Go Go.RowKit
section
variable {ws:List Nat} {s l r s' l' r':Int} {fx fx':List (Int×Nat)}
end
section
variable {τ:Type}
end
section
variable {τ:Type} {pl:List Nat->Option (Int×Int×Int×List (Int×Nat))} {ws rr v:List Nat} {s l r:Int} {n nl:Nat} {who:Int}
theorem q61(hpl:qgs pl)(hno:¬∃v,MendR ws v)(hn:n*8=ws.length):Goes (τ:=τ) n (qds pl n nl who ws.length) (ofD ws n nl) [] [11] ws.length:=by
 have h1:Goes (τ:=τ) n (qbg n nl who (qbm 0 ws.length) []) (ofD ws n nl) [] ([]++ws) (qbm 0 ws.length).length:=Goes.loads _ _ _ (by simp[qbm]) (λi z hz=>by
  obtain⟨hi,rfl⟩:i<ws.length/\z=((i:Nat):Int):=by
   simp only[qbm,wa1] at hz;obtain⟨j,hj,rfl⟩:=wcz.1 hz;obtain⟨hj1,rfl⟩:=wan.1 hj;simp only[we5] at hj1;simp only[whc];exact⟨hj1,Zo⟩
  refine⟨thereB_iff.2 Zo,?_⟩;rw[wam];rfl)
 have hlen:(qbm 0 ws.length).length=ws.length:=by simp[qbm]
 rw[hlen,wba] at h1;unfold qds qdf;refine Goes.of (Goes.bind (qs:=[]) (qs2:=[]) (k:=ws.length+0) (Goes.bind (qs:=[]) (qs2:=[]) h1 ?_) (Goes.ret _)) rfl rfl Zo;rw[hpl.2 _ hno];exact Goes.ret _
end
theorem qqa(n:Nat)(hn:n<=2000)(w:World):Calls Tryz.prog 27 #[.int .i64 (n:Int)] w λe w'=>e= .returned (.int .i64 (10*(n:Int)+100))/\w=w':=by
 have h1:¬(922337203685477570:Int)<(n:Int):=Zo
 have h2:max (n:Int) 0=(n:Int):=Zo
 have h3:IntKind.i64.wrap (10*(n:Int))=10*(n:Int):=wao _ Zo;have h4:IntKind.i64.wrap (10*(n:Int)+100)=10*(n:Int)+100:=wao _ Zo;go_enter Tryz.func27,Tryz.ntmps27;go_wp2_with fail;go_ret;exact⟨rfl,rfl⟩
section
variable {A:Option Addr} {cap:Nat} {ws:List Nat} {w:World}
theorem quy(hr:Rd w A ws.length (u64V ws))(hlt:∀x∈ws,x<18446744073709551616)(v:List Nat)(hcap:ws.length<=cap)(h:MendR ws v):
  Calls Tryz.prog 28 #[.slice A ws.length cap] w λe w'=>(∃B d,e= .returned (.tuple #[.slice B ws.length d,.bool true])/\Rd w' B ws.length (u64V v))/\Below w.heap.size w w':=by
 have hm:=waa (qjv A cap ws w hr hlt v hcap h);clear hr h hcap hlt;generalize ws.length=n at hm ⊢;go_enter Tryz.func28,Tryz.ntmps28;go_wp2_with fail;refine hm.out.mono ?_;rintro e w1 ⟨⟨B,d,rfl,hR⟩,hB⟩;replace hR:=waa hR;replace hB:=waa hB;go_wp2_with fail;go_ret2;exact⟨⟨_,_,rfl,hR.out⟩,hB.out⟩
theorem q0h(hr:Rd w A ws.length (u64V ws))(hlt:∀x∈ws,x<18446744073709551616)(hcap:ws.length<=cap)(hl:ws.length<=2000)(h:¬∃v,MendR ws v):
  Calls Tryz.prog 28 #[.slice A ws.length cap] w λe w'=>e= .returned (.tuple #[.slice none 0 0,.bool false])/\Below w.heap.size w w':=by
 have hm:=waa (qss A cap ws w hr hlt hcap hl h);clear hr h hcap hlt hl;generalize ws.length=n at hm ⊢;go_enter Tryz.func28,Tryz.ntmps28;go_wp2_with fail;refine hm.out.mono ?_;rintro e w1 ⟨rfl,hB⟩;replace hB:=waa hB;go_wp2_with fail;go_ret2;exact⟨rfl,hB.out⟩
theorem qqr{n:Nat}(h:¬(8<=n/\n<=2000/\n%8=0)):
  Calls Tryz.prog 6 #[.slice A n cap] w λe w'=>e= .returned (.bool true)/\Below w.heap.size w w':=by
 have hm:=waa (λV=>qw1 (A:=A) (cap:=cap) h V);clear h;go_enter Tryz.func6,Tryz.ntmps6;go_wp2_with fail;refine(qcw w).mono ?_;rintro e w1 ⟨rfl,hB1⟩;replace hB1:=waa hB1;go_wp2_with fail;refine(hm.out _).mono ?_;rintro e w2 ⟨rfl,rfl⟩;go_wp2_with fail;go_ret;exact⟨rfl,hB1.out⟩
theorem qrd(hr:Rd w A ws.length (u64V ws))(hcap:ws.length<=cap)(hlt:∀x∈ws,x<18446744073709551616)(hmay:8<=ws.length/\ws.length<=2000/\ws.length%8=0)(h:¬∃v,MendR ws v):
  Calls Tryz.prog 6 #[.slice A ws.length cap] w λe w'=>e= .returned (.bool true)/\Below w.heap.size w w':=by
 obtain⟨pl,hpl⟩:=qk0;obtain⟨n,hn⟩:∃n,n*8=ws.length:=⟨ws.length/8,Zo⟩
 have hgo:=q61 (τ:=Unit) (nl:=2) (who:=0) hpl h hn;have hm:=waa (λV=>qjb (A:=A) (cap:=cap) hmay.1 hmay.2.1 hmay.2.2 V);have hof:=waa (λ(V:World) (hV:Below w.heap.size w V)=>show Calls Tryz.prog 24 #[.slice A ws.length cap] V λe w'=>∃p,e= .returned (.pointer (some ⟨p,0,none⟩))/\Reg w' V.heap.size p n 0 ws ws (λ_=>none)/\Below V.heap.size V w' from by
  rw[<-hn];exact qk4 (n:=n) (by rw[hn];exact hr.below hV) Zo Zo hlt)
 have hop:=waa (λ(V:World) (p gs gk m B:Nat) (hBV:B<=V.heap.size) (hq:RegQ V B p n 0 gs gk m ws ws (λ_=>none))=>qhn hpl hBV hq hn hlt hmay.2.1 (by simp only[maxLen];omega) hgo Zo (-1));have hrf:=waa (λ(V:World) (hV:Below w.heap.size w V)=>q0h (cap:=cap) (hr.below hV) hlt hcap hmay.2.1 h);have hbd:=waa (λV=>qqa ws.length hmay.2.1 V);have hwd:=waa (λ(B C:Option Addr) (d e:Nat) (V:World) (hB:Rd V B ws.length (u64V ws)) (hC:Rd V C ws.length (u64V ws))=>qjl rfl hmay.2.1 B C d e V hB hC);have hrK:=waa (λ(V:World) (hV:Below w.heap.size w V)=>hr.below hV);have hn':=waa hn;have hN:=hmay.2.1;have hD:runL n (ofD ws n 2) []=ofD ws n 2:=rfl;clear hr hcap hlt h hpl hgo hmay hn;generalize hNN:ws.length=N at hm hof hop hrf hbd hwd hrK hn' hN ⊢;go_enter Tryz.func6,Tryz.ntmps6;go_wp2_with fail;refine(qcw w).mono ?_;rintro e w1 ⟨rfl,hB1⟩;replace hB1:=waa hB1;go_wp2_with fail;refine(hm.out _).mono ?_;rintro e w1' ⟨rfl,rfl⟩;have hof1:=waa (hof.out w1 hB1.out);clear hof hm;go_wp2_with fail;refine hof1.out.mono ?_;rintro e w2 ⟨p,rfl,hreg,hB2⟩;obtain⟨gs,gk,m,hq⟩:=hreg.q;have hop2:=waa (hop.out w2 p gs gk m w1.heap.size hB2.size hq);have hBw2:=waa (hB1.out.trans (hB2.mono hB1.out.size));have hs1:=waa hB1.out.size;clear hreg hB2 hB1 hq hop hof1;go_wp2_with fail;refine hop2.out.mono ?_;rintro e w3 ⟨X,c,rfl,hB3,hO⟩;obtain⟨rfl,Bq,F',C',l',g,hX,hl,hA,hRg⟩:=hO.2 Zd;rw[hD] at hRg;have hans:=qdv hA Zs (λe=>by cases e);rw[hX] at hans;have hBw3:=waa (hBw2.out.trans (hB3.mono hs1.out));replace hans:=waa hans;replace hA:=waa hA;replace hRg:=waa hRg;clear hO hB3 hBw2 hop2;go_wp2_with fail;refine hans.out.mono ?_;rintro e w4 ⟨v,rfl,hrow,-,hB4⟩;obtain⟨Y,cY,rfl,hR⟩:=Rd.of_own hrow;obtain⟨q,rfl,cq⟩:=qa6 hR (k:=0) (show[11][0]? =some 11 from rfl);replace cq:w4.cell? q=some (Value.int .u64 11):=cq;have hA4:=hA.out.upd (Upd.of_below (F:=λ_=>False) hB4 (wab _)) (λ_ _ e=>e);have hst:=qgn hA4;rw[hX,hl] at hst;replace hst:=waa hst;replace hA4:=waa hA4;have hR4:=waa (hRg.out.below (hB4.mono (by have:=hRg.out.base_le;omega)));have hBw4:=waa (hBw3.out.trans (hB4.mono hBw3.out.size));clear hA hRg hrow hR hB4 hBw3 hans;have hle:¬(10*(N:Int)+100)<(N:Int):=Zo
 go_wp2_with fail;refine hst.out.mono ?_;rintro e w5 ⟨rfl,rfl⟩;go_wp2_with fail;refine(hbd.out _).mono ?_;rintro e w5 ⟨rfl,rfl⟩;have hrf4:=waa (hrf.out _ hBw4.out);clear hrf hst hbd;go_wp2_with fail;refine hrf4.out.mono ?_;rintro e w6 ⟨rfl,hB6⟩;have cq6:=(hB6.cell (wak _ _ cq)).trans cq;have hst6:=qgn (hA4.out.upd (Upd.of_below (F:=λ_=>False) hB6 (wab _)) (λ_ _ e=>e));rw[hX,hl] at hst6;replace hst6:=waa hst6;have hkp:=qhd (hR4.out.below (hB6.mono (by have:=hR4.out.base_le;omega)));rw[hn'.out] at hkp;replace hkp:=waa hkp;have hB7:=waa (hBw4.out.trans (hB6.mono hBw4.out.size));clear cq hA4 hR4 hrf4 hB6 hBw4;go_wp2_with fail;refine hst6.out.mono ?_;rintro e w7 ⟨rfl,rfl⟩;go_wp2_with fail;refine hkp.out.mono ?_;rintro e w8 ⟨⟨KA,kd,rfl,hkd,hKR⟩,hB8⟩;have hB9:=waa (hB7.out.trans (hB8.mono hB7.out.size));have hw9:=waa (hwd.out KA A kd cap w8 hKR (hrK.out _ hB9.out));clear hkp hKR hB8 hB7 hst6;go_wp2_with fail;refine hw9.out.mono ?_;rintro e w10 ⟨rfl,hB10⟩;have hfin:=waa (hB9.out.trans (hB10.mono hB9.out.size));clear hB10 hw9;go_wp2_with fail;go_ret;exact⟨rfl,hfin.out⟩
theorem qqn(hr:Rd w A ws.length (u64V ws))(hcap:ws.length<=cap)(hlt:∀x∈ws,x<18446744073709551616)(hmay:8<=ws.length/\ws.length<=2000/\ws.length%8=0){s l r:Int}{rr v:List Nat}(hh:Hit ws s l r)(hp:repF s l r ws l.toNat=some rr)(hmd:StandR rr v):
  Calls Tryz.prog 6 #[.slice A ws.length cap] w λe w'=>e= .returned (.bool true)/\Below w.heap.size w w':=by
 obtain⟨pl,hpl⟩:=qk0;obtain⟨n,hn⟩:∃n,n*8=ws.length:=⟨ws.length/8,Zo⟩
 obtain⟨k,hk,-,hgo⟩:=qjx (τ:=Unit) (nl:=2) (who:=0) hpl hh hp hmd hn;obtain⟨hS,hK⟩:=que (nl:=2) hh hp hmd hn;have hvl:v.length=ws.length:=by have h1:=qhh hmd;have h2:=qg1 hh hp;omega
 generalize qbf (qcl ws l rr v)=qs at hgo hS hK;have hm:=waa (λV=>qjb (A:=A) (cap:=cap) hmay.1 hmay.2.1 hmay.2.2 V);have hof:=waa (λ(V:World) (hV:Below w.heap.size w V)=>show Calls Tryz.prog 24 #[.slice A ws.length cap] V λe w'=>∃p,e= .returned (.pointer (some ⟨p,0,none⟩))/\Reg w' V.heap.size p n 0 ws ws (λ_=>none)/\Below V.heap.size V w' from by
  rw[<-hn];exact qk4 (n:=n) (by rw[hn];exact hr.below hV) Zo Zo hlt)
 have hop:=waa (λ(V:World) (p gs gk m B:Nat) (hBV:B<=V.heap.size) (hq:RegQ V B p n 0 gs gk m ws ws (λ_=>none))=>qhn hpl hBV hq hn hlt hmay.2.1 (by simp only[maxLen];omega) hgo Zo (-1));have hrf:=waa (λ(V:World) (hV:Below w.heap.size w V)=>quy (cap:=cap) (hr.below hV) hlt v hcap ⟨s,l,r,rr,hh,hp,hmd⟩);have hbd:=waa (λV=>qqa ws.length hmay.2.1 V);have hwd:=waa (λ(B C:Option Addr) (d e:Nat) (V:World) (hB:Rd V B ws.length (u64V v)) (hC:Rd V C ws.length (u64V v))=>qjl hvl hmay.2.1 B C d e V hB hC);have hn':=waa hn;have hN:=hmay.2.1;clear hr hcap hlt hh hp hmd hpl hgo hmay hn hvl;generalize hNN:ws.length=N at hm hof hop hrf hbd hwd hk hn' hN ⊢;go_enter Tryz.func6,Tryz.ntmps6;go_wp2_with fail;refine(qcw w).mono ?_;rintro e w1 ⟨rfl,hB1⟩;replace hB1:=waa hB1;go_wp2_with fail;refine(hm.out _).mono ?_;rintro e w1' ⟨rfl,rfl⟩;have hof1:=waa (hof.out w1 hB1.out);clear hof hm;go_wp2_with fail;refine hof1.out.mono ?_;rintro e w2 ⟨p,rfl,hreg,hB2⟩;obtain⟨gs,gk,m,hq⟩:=hreg.q;have hop2:=waa (hop.out w2 p gs gk m w1.heap.size hB2.size hq);have hBw2:=waa (hB1.out.trans (hB2.mono hB1.out.size));have hs1:=waa hB1.out.size;clear hreg hB2 hB1 hq hop hof1;go_wp2_with fail;refine hop2.out.mono ?_;rintro e w3 ⟨X,c,rfl,hB3,hO⟩;obtain⟨rfl,Bq,F',C',l',g,hX,hl,hA,hRg⟩:=hO.2 Zd;rw[hS,hK] at hRg;have hans:=qdv hA Zs (λe=>by cases e);rw[hX] at hans;have hBw3:=waa (hBw2.out.trans (hB3.mono hs1.out));replace hans:=waa hans;replace hA:=waa hA;replace hRg:=waa hRg;clear hO hB3 hBw2 hop2;go_wp2_with fail;refine hans.out.mono ?_;rintro e w4 ⟨v,rfl,hrow,-,hB4⟩;obtain⟨Y,cY,rfl,hR⟩:=Rd.of_own hrow;obtain⟨q,rfl,cq⟩:=qa6 hR (k:=0) (show[0][0]? =some 0 from rfl);replace cq:w4.cell? q=some (Value.int .u64 0):=cq;have hA4:=hA.out.upd (Upd.of_below (F:=λ_=>False) hB4 (wab _)) (λ_ _ e=>e);have hst:=qgn hA4;rw[hX,hl] at hst;replace hst:=waa hst;replace hA4:=waa hA4;have hR4:=waa (hRg.out.below (hB4.mono (by have:=hRg.out.base_le;omega)));have hBw4:=waa (hBw3.out.trans (hB4.mono hBw3.out.size));clear hA hRg hrow hR hB4 hBw3 hans;have hle:¬(10*(N:Int)+100)<(k:Int):=Zo
 go_wp2_with fail;refine hst.out.mono ?_;rintro e w5 ⟨rfl,rfl⟩;go_wp2_with fail;refine(hbd.out _).mono ?_;rintro e w5 ⟨rfl,rfl⟩;have hrf4:=waa (hrf.out _ hBw4.out);clear hrf hst hbd;go_wp2_with fail;refine hrf4.out.mono ?_;rintro e w6 ⟨⟨WB,wd,rfl,hWR⟩,hB6⟩;have cq6:=(hB6.cell (wak _ _ cq)).trans cq;have hR6:=waa (hR4.out.below (hB6.mono (by have:=hR4.out.base_le;omega)));have hkp:=qhd hR6.out;rw[hn'.out] at hkp;replace hkp:=waa hkp;replace hWR:=waa hWR;have hB7:=waa (hBw4.out.trans (hB6.mono hBw4.out.size));clear cq hA4 hR4 hrf4 hB6 hBw4;go_wp2_with fail;refine hkp.out.mono ?_;rintro e w8 ⟨⟨KA,kd,rfl,hkd,hKR⟩,hB8⟩;have hB9:=waa (hB7.out.trans (hB8.mono hB7.out.size));have hW9:=hWR.out.below hB8;have hw9:=waa (hwd.out KA WB kd wd w8 hKR hW9);have hR8:=waa (hR6.out.below (hB8.mono (by have:=hR6.out.base_le;omega)));replace hW9:=waa hW9;clear hkp hKR hB8 hB7 hR6 hWR;go_wp2_with fail;refine hw9.out.mono ?_;rintro e w10 ⟨rfl,hB10⟩;have hB11:=waa (hB9.out.trans (hB10.mono hB9.out.size));have hsn:=q9n (hR8.out.below (hB10.mono (by have:=hR8.out.base_le;omega)));rw[hn'.out] at hsn;replace hsn:=waa hsn;have hW10:=waa (hW9.out.below hB10);clear hB10 hw9 hB9 hW9 hR8;go_wp2_with fail;refine hsn.out.mono ?_;rintro e w12 ⟨⟨SA,sd,rfl,hsd,hSR⟩,hB12⟩;have hB13:=waa (hB11.out.trans (hB12.mono hB11.out.size));have hw13:=waa (hwd.out SA WB sd wd w12 hSR (hW10.out.below hB12));clear hsn hSR hB12 hB11 hW10;go_wp2_with fail;refine hw13.out.mono ?_;rintro e w14 ⟨rfl,hB14⟩;have hfin:=waa (hB13.out.trans (hB14.mono hB13.out.size));clear hB14 hw13;go_wp2_with fail;go_ret;exact⟨rfl,hfin.out⟩
theorem qoc(w:World)(A:Option Addr)(n c:Nat)(ws:List Nat)(hn:ws.length=n)(hm:n<=maxLen)(hc:n<=c)(hA:(A=none/\n=0/\c=0)\/∃q,A=some q)(hr:Rd w A n (u64V ws))(hw:∀y∈ws,y<18446744073709551616):
  Calls Tryz.prog 6 #[.slice A n c] w λe w'=>e= .returned (.bool true)/\Below w.heap.size w w':=by
 subst hn;by_cases hmay:8<=ws.length/\ws.length<=2000/\ws.length%8=0
 ·by_cases h:∃v,MendR ws v
  ·obtain⟨v,s,l,r,rr,hh,hp,hst⟩:=h
   exact qqn hr hc hw hmay hh hp hst
  ·exact qrd hr hc hw hmay h
 ·exact qqr hmay
end
end Go.Proofs.YtocncmbeinmiaaaGreat
