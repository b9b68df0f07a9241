/- Parts. No condition. -/
import Derived.Test.YtgjhkafggagniaaGreatJoinV48
set_option linter.unusedVariables false
set_option maxRecDepth 100000
set_option maxHeartbeats 8000000
namespace Go.Proofs.YtgjhkafggagniaaGreat
open Go Go.RowKit
def AC.to(A:AC)(ab eb hb:Nat):AC:={A with ab:=ab,eb:=eb,hb:=hb}
section
variable (A:AC) (ab eb hb:Nat) (E E':DP HS) (n L:Nat) (ws more:List (Int×Nat))
theorem qgo(hn:E'.n=E.n)(hl:E'.nl=E.nl)(hw:E'.who=E.who)(a:Int):objectA (A.to ab eb hb) E' ws a=objectA A E ws a:=by
 unfold objectA;rw[hn,hl,hw];rfl
theorem qi1(hn:E'.n=E.n)(hl:E'.nl=E.nl)(hw:E'.who=E.who)(root:Bool)(obj idx:Int):destA (A.to ab eb hb) E' ws root obj idx=destA A E ws root obj idx:=by
 unfold destA;rw[qgo A ab eb hb E E' ws hn hl hw];rfl
theorem qiu(hn:E'.n=E.n)(hl:E'.nl=E.nl)(hw:E'.who=E.who)(o:Option OV):∀r k,qcr E' ws o r k=qcr E ws o r k
 |0,_=>rfl
 |r+1,k=>by
  unfold qcr;rw[hn,hl,hw];congr 1
  funext y
  rw[qiu hn hl hw o r (k+1)]
theorem qku(hn:E'.n=E.n)(hl:E'.nl=E.nl)(hw:E'.who=E.who):pubA (A.to ab eb hb) E' ws=pubA A E ws:=by
 unfold pubA;rw[hn,hl,hw];rfl
theorem quu(hn:E'.n=E.n)(hl:E'.nl=E.nl)(hw:E'.who=E.who)(a blk ta:Int):begD (A.to ab eb hb) E' ws more a blk ta=begD A E ws more a blk ta:=by
 have h:begC (A.to ab eb hb) E' ws more a blk ta=begC A E ws more a blk ta:=by
  funext m
  unfold begC;rw[show begW (A.to ab eb hb) a blk ta m ws more=begW A a blk ta m ws more from rfl,qku A ab eb hb E E' _ hn hl hw]
 unfold begD;rw[h,hn,hl,hw];rfl
theorem qnu(hn:E'.n=E.n)(hl:E'.nl=E.nl)(hw:E'.who=E.who)(a blk:Int):beginA (A.to ab eb hb) E' ws more a blk=beginA A E ws more a blk:=by
 have h:∀ta,begE (A.to ab eb hb) E' ws more a blk ta=begE A E ws more a blk ta:=λta=>by
  funext y
  unfold begE;rw[quu A ab eb hb E E' ws more hn hl hw a blk ta,hn,hl,hw];rfl
 have h2:begF (A.to ab eb hb) E' ws more a blk=begF A E ws more a blk:=by
  funext d
  unfold begF;rw[h,hn,hl,hw]
 unfold beginA;rw[h2,show(A.to ab eb hb).root=A.root from rfl,show(A.to ab eb hb).obj=A.obj from rfl,show(A.to ab eb hb).idx=A.idx from rfl,qi1 A ab eb hb E E' ws hn hl hw]
theorem qop(hn:E'.n=E.n)(hl:E'.nl=E.nl)(hw:E'.who=E.who)(c:Int):carveA (A.to ab eb hb) E' n L c=carveA A E n L c:=by
 have h:carveF (A.to ab eb hb) E' n L c=carveF A E n L c:=by
  funext z
  unfold carveF;rw[hn,hl,hw];rfl
 unfold carveA;rw[h]
theorem qrc(hn:E'.n=E.n)(hl:E'.nl=E.nl)(hw:E'.who=E.who)(c:Int):tknIn (A.to ab eb hb) E' n L c ws=tknIn A E n L c ws:=by
 have h:tknZ (A.to ab eb hb) E' n L c ws=tknZ A E n L c ws:=by
  funext z
  unfold tknZ;rw[qop A ab eb hb E E' n L hn hl hw];rfl
 unfold tknIn;rw[h];rfl
theorem qht{t:AP (DM×HS) (ANS×List (Int×Nat))}(hn:E'.n=E.n)(hl:E'.nl=E.nl)(hw:E'.who=E.who)(lock:Int):qbe E' lock t=qbe E lock t:=by
 unfold qbe lkA;rw[hn,hl,hw]
theorem qoh{β:Type}{t:AP (DM×HS) (β×List (Int×Nat))}(hn:E'.n=E.n)(hl:E'.nl=E.nl)(hw:E'.who=E.who)(lock:Int):underG E' lock t=underG E lock t:=by
 unfold underG lkA;rw[hn,hl,hw]
theorem qsj(hn:E'.n=E.n)(hl:E'.nl=E.nl)(hw:E'.who=E.who)(c:Int):tknA (A.to ab eb hb) E' n L c ws=tknA A E n L c ws:=by
 have h:tknO (A.to ab eb hb) E' n L c ws=tknO A E n L c ws:=by
  funext x
  unfold tknO;rw[qrc A ab eb hb E E' n L ws hn hl hw,qht E E' hn hl hw]
 unfold tknA;rw[h];rfl
theorem qot(hn:E'.n=E.n)(hl:E'.nl=E.nl)(hw:E'.who=E.who)(c:Int):smallA (A.to ab eb hb) E' n L c ws=smallA A E n L c ws:=by
 have h1:∀ws a,smlB (A.to ab eb hb) E' L ws a c=smlB A E L ws a c:=λws a=>by
  unfold smlB;rw[qnu A ab eb hb E E' ws [] hn hl hw];rfl
 have h:smlC (A.to ab eb hb) E' L c=smlC A E L c:=by
  funext r
  unfold smlC;rw[h1,qht E E' hn hl hw]
 unfold smallA;rw[h,qsj A ab eb hb E E' n L ws hn hl hw]
theorem qlr(hn:E'.n=E.n)(hl:E'.nl=E.nl)(hw:E'.who=E.who):mallocA (A.to ab eb hb) E' n L ws=mallocA A E n L ws:=by
 unfold mallocA;rw[qot A ab eb hb E E' n L ws hn hl hw];rfl
theorem qm5(hn:E'.n=E.n)(hl:E'.nl=E.nl)(hw:E'.who=E.who):endingA (A.to ab eb hb) E' ws=endingA A E ws:=by
 have h1:∀ta,qes E' ws ta=qes E ws ta:=λta=>by
  funext o
  unfold qes;rw[qiu E E' ws hn hl hw]
 have h2:∀ta,endgY (A.to ab eb hb) E' ws ta=endgY A E ws ta:=λta=>by
  funext y
  unfold endgY;rw[h1,qgo A ab eb hb E E' ws hn hl hw]
 have h3:endgF (A.to ab eb hb) E' ws=endgF A E ws:=by
  funext d
  unfold endgF;rw[h2,hn,hl,hw]
 unfold endingA;rw[h3,show(A.to ab eb hb).root=A.root from rfl,show(A.to ab eb hb).obj=A.obj from rfl,show(A.to ab eb hb).idx=A.idx from rfl,qi1 A ab eb hb E E' ws hn hl hw]
theorem qup(hn:E'.n=E.n)(hl:E'.nl=E.nl)(hw:E'.who=E.who)(to_ j0 j4 j5 j6:Int):endA (A.to ab eb hb) E' ws to_ j0 j4 j5 j6=endA A E ws to_ j0 j4 j5 j6:=by
 have h:endC (A.to ab eb hb) E' ws to_ j0 j4 j5 j6=endC A E ws to_ j0 j4 j5 j6:=by
  funext m
  unfold endC;rw[show endW (A.to ab eb hb) ws to_ j0 j4 j5 j6 m=endW A ws to_ j0 j4 j5 j6 m from rfl,qku A ab eb hb E E' _ hn hl hw]
 unfold endA;rw[h,hn,hl,hw];rfl
theorem qqi(hn:E'.n=E.n)(hl:E'.nl=E.nl)(hw:E'.who=E.who):freeA (A.to ab eb hb) E' L ws=freeA A E L ws:=by
 have h1:frbA (A.to ab eb hb) E' L ws=frbA A E L ws:=by
  funext x
  unfold frbA;rw[qup A ab eb hb E E' ws hn hl hw];rfl
 have h2:fraA (A.to ab eb hb) E' L ws=fraA A E L ws:=by
  unfold fraA;rw[h1,qm5 A ab eb hb E E' ws hn hl hw]
 unfold freeA;rw[h2,qoh E E' hn hl hw];rfl
theorem qnv(hn:E'.n=E.n)(hl:E'.nl=E.nl)(hw:E'.who=E.who):deed19 (A.to ab eb hb) E' n L=deed19 A E n L:=by
 have h:doneA (A.to ab eb hb) E' n L []=doneA A E n L []:=by
  unfold doneA;rw[qlr A ab eb hb E E' n L [] hn hl hw,qqi A ab eb hb E E' L [] hn hl hw];rfl
 unfold deed19;rw[h]
end
end Go.Proofs.YtgjhkafggagniaaGreat
