import PyProof.Rows.All
import Wide.All
import OpenK.AllK
import Wide.FinOn
import Lean
import PyProof.EqAt
import PyProof.EqKinds
import PyProof.TupleCall
import PySem.Challenge.RW_freshsheet_k21_leaves_opened
set_option Elab.async false
set_option linter.all false
set_option maxRecDepth 100000
set_option maxHeartbeats 4000000
namespace Hw
open PySem PySem.W PyProof.Rows PySem.Calls
def topRunT (tb:String→Option Builtin)(p:Program)(w:World)(n₀:Nat)(ann:Option Value):Nat→SharedT→Thread→Option SharedT
 | 0,_,_=>none
 | n+1,s,t=>match through t with
  | true=>some s
  | false=>match stepOk n₀ ann t with
   | false=>none
   | true=>match stepT (denote tb) p w s t with
    | some (s',t')=>topRunT tb p w n₀ ann n s' t'
    | none=>none
theorem topRun_ofT {tb:String→Option Builtin}{p:Program}{w:World}{n₀:Nat}{ann:Option Value}:∀{n:Nat} {s s':SharedT} {t:Thread},topRunT tb p w n₀ ann n s t=some s'→topRun tb p w n₀ ann n s.abs t=some s'.abs
 | 0,_,_,_,h=>by cases h
 | n+1,s,s',t,h=>by
  unfold topRunT at h
  unfold topRun
  cases he:through t with
  | true=>rw[he]at h;cases h;rfl
  | false=>
   rw[he]at h
   cases hk:stepOk n₀ ann t with
   | false=>rw[hk]at h;cases h
   | true=>
    rw[hk]at h
    cases hs:stepT (denote tb) p w s t with
    | none=>rw[hs]at h;cases h
    | some r=>obtain⟨s₂,t₂⟩:=r;rw[hs]at h;rw[stepT_spec hs];exact topRun_ofT h
def toBT:List Obj→Nat→BT→BT
 | [],_,t=>t
 | o::r,n,t=>toBT r (n+1) (t.ins n o)
noncomputable def bootT (P:Params):BT:=toBT (boot_heap P).objs.toList 0 .nil
noncomputable def bootS (w:World)(os:OsState):SharedT:=⟨bootT w.params,(boot_heap w.params).objs.size,(boot_heap w.params).life,Array.mk [],boot_drawn,boot_toks,os⟩
theorem bootT_abs (P:Params):absHeap (bootT P) (boot_heap P).objs.size (boot_heap P).life=boot_heap P:=by kernel_rfl
theorem boot_size (w:World):((boot_heap w.params).isNs mainGlobals&&(Array.mk []:Array GenState).size==0,(boot_heap w.params).objs.size,(boot_heap w.params).nsMap mainGlobals "__annotations__")=(true,11,some (.ref 6)):=by kernel_rfl
noncomputable def tops (p:Program)(N:Nat)(w:World)(os:OsState):Option SharedT:=topRunT treeTable p w 11 (some (.ref 6)) N (bootS w os) (topStub p)
def look1 (p:Program)(h:Heap)(s:Shared):Bool:=staticsOk (importedModules p.main.body) h s.heap&&namesBound p s.heap&&gensDone s&&laidKept h s.heap
def look3 (q:Program)(loose mods:List Str)(Xt:Shared→Bool)(g0:Bool)(s:Shared):Bool:=(openSeen q loose mods Xt g0 s).2.2.1
theorem left_whole {p q:Program}{loose:List Str}{Xt:Shared→Bool}{α:Type}{Yf:Shared→α}{Ya:World→α}{N:Nat}{g0:Bool}
 (e:opening p=plainProg p.main.scope.names) (hN:Nat.ble 600 N=true) (f:∀ s,fenceModules? p s=some s)
 (run1:∀(w:World) (os:OsState),(tops p N w os).map (fun s=>(look1 p (boot_heap w.params) s.abs,s.abs.heap.bltView,tabsOk q s.abs))=some (true,bltViewBooted,true))
 (run2:∀(w:World) (os:OsState),(tops p N w os).map (fun s=>seen ((recsOf q).map (·.name)) (ownsOf q) [] { s.abs with gens:=#[] })=some (expectedOf q))
 (run3:∀(w:World) (os:OsState),(tops p N w os).map (fun s=>look3 q loose (importedModules p.main.body) Xt g0 s.abs)=some true)
 (run4:∀(w:World) (os:OsState),(tops p N w os).map (fun s=>(pinSeenD q (drecsOf q) s.abs,plainSeenE q (looseW q loose) s.abs,plainSeenD q loose s.abs,wideSeen q s.abs,clsSeenW q loose s.abs))=some (pinGoodD (drecsOf q),plainGoodE q (looseW q loose),plainGoodD q loose,wideGood q,clsGoodW q loose))
 (run5:∀(w:World) (os:OsState),(tops p N w os).map (fun s=>Yf s.abs)=some (Ya w)):LeftO p q loose Xt Yf Ya N g0:=fun w=>by
 obtain⟨⟨h,gs,d,k,os⟩,e1,e'⟩:=Option.map_eq_some_iff.mp (boot_open e hN f w)
 obtain⟨rfl,rfl,rfl,rfl⟩:h=boot_heap w.params∧gs=Array.mk []∧d=boot_drawn∧k=boot_toks:=by simpa using e'
 obtain⟨z1,z2,z3⟩:_∧_∧_:=by simpa only[Prod.mk.injEq]using boot_size w
 obtain⟨s',hs,l1⟩:=Option.map_eq_some_iff.mp (run1 w os)
 have l2:=run2 w os
 have l3:=run3 w os
 have l4:=run4 w os
 have l5:=run5 w os
 rw[hs]at l2 l3 l4 l5
 replace l2:=Option.some.inj l2
 replace l3:=Option.some.inj l3
 replace l4:=Option.some.inj l4
 replace l5:=Option.some.inj l5
 dsimp only at l1 l2 l3 l4 l5
 obtain⟨l1,l6,l7⟩:_∧_∧_:=by simpa only[Prod.mk.injEq]using l1
 have l8:openSeen q loose (importedModules p.main.body) Xt g0 s'.abs=openGood q loose:=Prod.ext l2 (Prod.ext l6 (Prod.ext l3 (Prod.ext l7 l4)))
 have r:=topRun_ofT hs
 have hb:(bootS w os).abs=⟨boot_heap w.params,Array.mk [],boot_drawn,boot_toks,os⟩:=by
  show Shared.mk _ _ _ _ _=_
  rw[show absHeap (bootS w os).tree (bootS w os).n (bootS w os).life=boot_heap w.params from bootT_abs w.params]
  rfl
 rw[hb]at r
 have t:topFrom treeTable p w N ⟨boot_heap w.params,Array.mk [],boot_drawn,boot_toks,os⟩=some s'.abs:=by
  unfold topFrom
  dsimp only
  rw[z1,z2,z3,r]
  show(match look1 p (boot_heap w.params) s'.abs with | true=>some s'.abs | false=>none)=_
  rw[l1]
 unfold openEnds
 rw[e1]
 show(topFrom treeTable p w N _).map _=_
 rw[t]
 exact congrArg some (Prod.ext l8 l5)
abbrev pw:=PySem.Challenge.pw_freshsheet_k21_leaves_opened
abbrev lw:=PySem.Challenge.rw_freshsheet_k21_leaves_opened
section
local macro_rules | `(tactic| o_head $H)=>do let f:=Lean.mkIdent `foo;`(tactic| exact $f $H)
theorem pack (foo:PySem.W.Hook→(OpenLaw.row lw).Holds):(OpenLaw.row lw).Holds:=by k_head
end
def _root_.PySem.W.Fast.tw18137811575016804663:Program:=pw
theorem _root_.PySem.W.Fast.te18137811575016804663:PySem.Challenge.pw_freshsheet_k21_leaves_opened=PySem.W.Fast.tw18137811575016804663:=rfl
def hAs:List Addr:=[2,3,15,22,23,24,25,28,35,36,37,40,42,43,45,46,47,49,50,52,53,54,56,57,59,60,61,64,65,66,68,69,71,72,73,75,76,78,79,80,81,83,84,86,87,88,90,91,93,94,95,98,99,100,102,103,105,106,107,109,110,112,113,114,115,116,117,119,120,121,122,123,124,125,126,127,128,129,130,131,132,133,136,137,138,140,141,143,144,145,147,148,150,151,152,154,155,157,158,159,161,162,164,165,166,168,169,171,172,173,175,176,178,179,180,182,183,185,186,187,189,190,192,193,194,196,197,199,200,201,203,204,206,207,208,210,211,213,214,215,217,218,220,221,222,224,225,227,228,229,231,232,234,235,236,239,240,241,243,244,246,247,248,250,251,253,254,255,257,258,260,261,269,271,272,274,275,276,278,279,281,282,283,285,286,288,289,290,292,293,295,296,297,299,300,302,303,304,306,307,309,310,311,313,314,316,317,318,320,321,323,324,325,326,327,328,329,332,334,335,337,338,339,341,342,344,345,346,348,349,351,352,353,355,356,358,359,360,362,363,365,366,367,370,371,372,374,375,377,378,379,381,382,384,385,386,388,389,391,392,393,395,396,398,399,400,403,404,405,408,409,410,413,414,415,418,419,420,423,424,425,427,428,430,431,432,434,435,437,438,439,441,442,444,445,446,448,449,451,452,453,455,456,458,459,460,462,463,465,466,467,469,470,472,473,474,476,477,479,480,481,483,484,486,487,488,490,491,493,494,495,497,498,500,501,502,505,506,507,509,510,512,513,514,516,517,519,520,521,523,524,526,527,528,530,531,533,534]
theorem hAs_eq:∀ P,hAs=(pack.heap_1 P).map (·.1):=fun _=>by kernel_rfl
def qv:Program:=view pw [1,2,4,5,6,8,9,10,11,12,13,14,16,17,18,19,20,21,22,23,24,26,27,28,29,30,31,32,33,34,35,36,37,38,39,40,41,42,43,44,45,46,47,48,49,50,51,52,54,55,56,57,58,60,61,62,63,64,65,66,67,68,69,70,71,72,73,74,75,76,77,78,79,80,82,83,84,85,86,87,88,89,90,91,92,93,94,95]
def Xv:Shared→Bool:=fun s=>xlAt qv [] s&&recOk (RowW.records (OpenRow.toRowW (OpenLaw.row lw))) s
abbrev N0:Nat:=5000
abbrev lo:List PySem.Str:=[PySem.Str.ofString "LENGTHS",PySem.Str.ofString "PART_PLACES"]
noncomputable def lhs1 (w:World)(os:OsState):=(tops pw N0 w os).map (fun s=>(look1 pw (boot_heap w.params) s.abs,s.abs.heap.bltView,tabsOk qv s.abs))
theorem lhs1_self:lhs1=lhs1:=rfl
name_quick hw1 for Hw.lhs1 by Hw.lhs1_self
set_option maxHeartbeats 0 in
theorem run1f:∀(w:World) (os:OsState),PySem.W.Fast.hw1 (w.withFollow "special-get-raises" false) os=some (true,bltViewBooted,true):=by
 intro w os
 kernel_rfl
set_option maxHeartbeats 0 in
theorem run1t:∀(w:World) (os:OsState),PySem.W.Fast.hw1 (w.withFollow "special-get-raises" true) os=some (true,bltViewBooted,true):=by
 intro w os
 kernel_rfl
theorem run1:∀ w os,PySem.W.Fast.hw1 w os=some (true,bltViewBooted,true):=fun w=>PySem.W.byRow2 "special-get-raises" (P:=fun w=>∀ os,PySem.W.Fast.hw1 w os=some (true,bltViewBooted,true)) run1f run1t w
noncomputable def lhs2 (w:World)(os:OsState):=(tops pw N0 w os).map (fun s=>seen ((recsOf qv).map (·.name)) (ownsOf qv) [] { s.abs with gens:=#[] })
theorem lhs2_self:lhs2=lhs2:=rfl
name_quick hw2 for Hw.lhs2 by Hw.lhs2_self
noncomputable def rhs2:=expectedOf qv
theorem rhs2_self:rhs2=rhs2:=rfl
name_quick hg2 for Hw.rhs2 by Hw.rhs2_self
set_option maxHeartbeats 0 in
theorem run2f:∀(w:World) (os:OsState),PySem.W.Fast.hw2 (w.withFollow "special-get-raises" false) os=some (PySem.W.Fast.hg2):=by
 intro w os
 kernel_rfl
set_option maxHeartbeats 0 in
theorem run2t:∀(w:World) (os:OsState),PySem.W.Fast.hw2 (w.withFollow "special-get-raises" true) os=some (PySem.W.Fast.hg2):=by
 intro w os
 kernel_rfl
theorem run2:∀ w os,PySem.W.Fast.hw2 w os=some (PySem.W.Fast.hg2):=fun w=>PySem.W.byRow2 "special-get-raises" (P:=fun w=>∀ os,PySem.W.Fast.hw2 w os=some (PySem.W.Fast.hg2)) run2f run2t w
noncomputable def lhs3 (w:World)(os:OsState):=(tops pw N0 w os).map (fun s=>look3 qv lo (importedModules pw.main.body) Xv true s.abs)
theorem lhs3_self:lhs3=lhs3:=rfl
name_quick hw3 for Hw.lhs3 by Hw.lhs3_self
set_option maxHeartbeats 0 in
theorem run3f:∀(w:World) (os:OsState),PySem.W.Fast.hw3 (w.withFollow "special-get-raises" false) os=some (true):=by
 intro w os
 kernel_rfl
set_option maxHeartbeats 0 in
theorem run3t:∀(w:World) (os:OsState),PySem.W.Fast.hw3 (w.withFollow "special-get-raises" true) os=some (true):=by
 intro w os
 kernel_rfl
theorem run3:∀ w os,PySem.W.Fast.hw3 w os=some (true):=fun w=>PySem.W.byRow2 "special-get-raises" (P:=fun w=>∀ os,PySem.W.Fast.hw3 w os=some (true)) run3f run3t w
noncomputable def lhs4 (w:World)(os:OsState):=(tops pw N0 w os).map (fun s=>(pinSeenD qv (drecsOf qv) s.abs,plainSeenE qv (looseW qv lo) s.abs,plainSeenD qv lo s.abs,wideSeen qv s.abs,clsSeenW qv lo s.abs))
theorem lhs4_self:lhs4=lhs4:=rfl
name_quick hw4 for Hw.lhs4 by Hw.lhs4_self
noncomputable def rhs4:=(pinGoodD (drecsOf qv),plainGoodE qv (looseW qv lo),plainGoodD qv lo,wideGood qv,clsGoodW qv lo)
theorem rhs4_self:rhs4=rhs4:=rfl
name_quick hg4 for Hw.rhs4 by Hw.rhs4_self
set_option maxHeartbeats 0 in
theorem run4f:∀(w:World) (os:OsState),PySem.W.Fast.hw4 (w.withFollow "special-get-raises" false) os=some (PySem.W.Fast.hg4):=by
 intro w os
 kernel_rfl
set_option maxHeartbeats 0 in
theorem run4t:∀(w:World) (os:OsState),PySem.W.Fast.hw4 (w.withFollow "special-get-raises" true) os=some (PySem.W.Fast.hg4):=by
 intro w os
 kernel_rfl
theorem run4:∀ w os,PySem.W.Fast.hw4 w os=some (PySem.W.Fast.hg4):=fun w=>PySem.W.byRow2 "special-get-raises" (P:=fun w=>∀ os,PySem.W.Fast.hw4 w os=some (PySem.W.Fast.hg4)) run4f run4t w
noncomputable def lhs5 (w:World)(os:OsState):=(tops pw N0 w os).map (fun s=>hAs.map s.abs.heap.get?)
theorem lhs5_self:lhs5=lhs5:=rfl
name_quick hw5 for Hw.lhs5 by Hw.lhs5_self
set_option maxHeartbeats 0 in
theorem run5f:∀(w:World) (os:OsState),PySem.W.Fast.hw5 (w.withFollow "special-get-raises" false) os=some ((pack.heap_1 (w.withFollow "special-get-raises" false).params).map fun p=>some p.2):=by
 intro w os
 kernel_rfl
set_option maxHeartbeats 0 in
theorem run5t:∀(w:World) (os:OsState),PySem.W.Fast.hw5 (w.withFollow "special-get-raises" true) os=some ((pack.heap_1 (w.withFollow "special-get-raises" true).params).map fun p=>some p.2):=by
 intro w os
 kernel_rfl
theorem run5:∀ w os,PySem.W.Fast.hw5 w os=some ((pack.heap_1 w.params).map fun p=>some p.2):=fun w=>PySem.W.byRow2 "special-get-raises" (P:=fun w=>∀ os,PySem.W.Fast.hw5 w os=some ((pack.heap_1 w.params).map fun p=>some p.2)) run5f run5t w
theorem q_open:opening pw=plainProg pw.main.scope.names:=by kernel_rfl
theorem q_fence:∀ s,fenceModules? pw s=some s:=fun s=>by kernel_rfl
theorem left:LeftO pw qv lo Xv (Hook.obs (kHook pack.heap_1 hAs hAs_eq)) (Hook.val (kHook pack.heap_1 hAs hAs_eq)) N0 true:=
 left_whole q_open rfl q_fence (fun w os=>(congrFun (congrFun PySem.W.Fast.hw1_eq w) os).trans (run1 w os))
  (fun w os=>((congrFun (congrFun PySem.W.Fast.hw2_eq w) os).trans (run2 w os)).trans (congrArg some PySem.W.Fast.hg2_eq.symm))
  (fun w os=>(congrFun (congrFun PySem.W.Fast.hw3_eq w) os).trans (run3 w os))
  (fun w os=>((congrFun (congrFun PySem.W.Fast.hw4_eq w) os).trans (run4 w os)).trans (congrArg some PySem.W.Fast.hg4_eq.symm))
  (fun w os=>(congrFun (congrFun PySem.W.Fast.hw5_eq w) os).trans (run5 w os))
end Hw
set_option Elab.async false
set_option linter.all false
set_option maxRecDepth 100000
local macro_rules | `(tactic| omega) => `(tactic| lia)
local macro_rules | `(tactic| nofun) => `(tactic| decide +kernel)
namespace L2
open PySem PySem.Spec PyProof.Rows
abbrev BI:=Sum Int Str
def Fj:BI→Value→Bool
 | .inl k,v=>Value.isInt k v
 | .inr x,v=>Value.isStrOf x v
def NX (w:World):BI→Int
 | .inl k=>hashInt k
 | .inr x=>hashStr w x
theorem BF:∀{k:BI} {v:Value},Fj k v=true→(∃ i t,k=Sum.inl i∧v=Value.int i t)∨(∃ x t,k=Sum.inr x∧v=Value.str x t)
 | .inl i,v,h=>by
  obtain⟨t,e⟩:=Value.isInt_shape (k:=i) (v:=v) h
  exact .inl ⟨i,t,rfl,e⟩
 | .inr x,v,h=>by
  obtain⟨t,e⟩:=Value.isStrOf_shape (x:=x) (v:=v) h
  exact .inr ⟨x,t,rfl,e⟩
theorem JZ (i:Int)(t:Tok):Fj (.inl i) (.int i t)=true:=by simp[Fj,Value.isInt]
theorem Ja (x:Str)(t:Tok):Fj (.inr x) (.str x t)=true:=by simp[Fj,Value.isStrOf]
theorem MX (a b:Int):decide ((Sum.inl a:BI)=Sum.inl b)=(a==b):=by
 by_cases e:a=b
 ·subst e;simp
 ·have h:¬ (Sum.inl a:BI)=Sum.inl b:=fun q=>e (Sum.inl.inj q)
  rw[decide_eq_false h]
  exact(beq_eq_false_iff_ne.mpr e).symm
theorem MY (a b:Str):decide ((Sum.inr a:BI)=Sum.inr b)=decide (a=b):=by
 by_cases e:a=b
 ·subst e;simp
 ·have h:¬ (Sum.inr a:BI)=Sum.inr b:=fun q=>e (Sum.inr.inj q)
  rw[decide_eq_false h,decide_eq_false e]
theorem MZ (a:Int)(b:Str):decide ((Sum.inl a:BI)=Sum.inr b)=false:=decide_eq_false (fun q=>nomatch q)
theorem Ma (a:Str)(b:Int):decide ((Sum.inr a:BI)=Sum.inl b)=false:=decide_eq_false (fun q=>nomatch q)
def A9 (prog:Program)(w:World):PySem.KeyKind prog w BI where
 is:=Fj
 hash:=NX w
 inj:=fun v a b ha hb=>by
  rcases BF ha with⟨i,t,rfl,rfl⟩ | ⟨x,t,rfl,rfl⟩
  ·rcases BF hb with⟨j,u,rfl,e⟩ | ⟨y,u,rfl,e⟩
   ·injection e with e1 _;rw[e1]
   ·exact nomatch e
  ·rcases BF hb with⟨j,u,rfl,e⟩ | ⟨y,u,rfl,e⟩
   ·exact nomatch e
   ·injection e with e1 _;rw[e1]
 byValue:=fun k v h=>by
  rcases BF h with⟨i,t,rfl,rfl⟩ | ⟨x,t,rfl,rfl⟩ <;> rfl
 pyHash:=fun hv h=>by
  rcases BF hv with⟨i,t,rfl,rfl⟩ | ⟨x,t,rfl,rfl⟩
  ·exact wpAny_pyHash_int h
  ·exact wpAny_pyHash_str h
 eqBool:=fun hu hv h=>by
  rcases BF hu with⟨i,t,rfl,rfl⟩ | ⟨x,t,rfl,rfl⟩
  ·rcases BF hv with⟨j,u,rfl,rfl⟩ | ⟨y,u,rfl,rfl⟩
   ·rw[MX]at h;exact wpAny_eqBool_int h
   ·rw[MZ]at h;exact SeqAt.EqAt.int_str i t y u _ _ _ _ h
  ·rcases BF hv with⟨j,u,rfl,rfl⟩ | ⟨y,u,rfl,rfl⟩
   ·rw[Ma]at h;exact SeqAt.EqAt.str_int x t j u _ _ _ _ h
   ·rw[MY]at h;exact wpAny_eqBool_str h
 «strs»:=fun k x t v h=>by
  rcases BF h with⟨i,u,rfl,e⟩ | ⟨y,u,rfl,e⟩
  ·exact nomatch e
  ·injection e with e1 _
   subst e1
   cases v <;> rfl
theorem G9 (prog:Program)(w:World)(i:Int)(t:Tok):(A9 prog w).is (.inl i) (.int i t)=true:=JZ i t
theorem HD (prog:Program)(w:World)(x:Str)(t:Tok):(A9 prog w).is (.inr x) (.str x t)=true:=Ja x t
inductive V where
 | non | bl (b:Bool) | int (i:Int) | str (x:Str) | byt (b:Array UInt8) | flt (b:UInt64) | ref (a:Addr) | ty (n:String)
 deriving DecidableEq
def Aj:V→Value→Prop
 | .non,u=>u=Value.none
 | .bl b,u=>u=Value.bool b
 | .int i,u=>∃ t,u=Value.int i t
 | .str x,u=>∃ t,u=Value.str x t
 | .byt b,u=>∃ t,u=Value.bytes b t
 | .flt b,u=>∃ t,u=Value.float b t
 | .ref a,u=>u=Value.ref a
 | .ty n,u=>u=Value.type n
abbrev Ag:List V→List Value→Prop:=Paired Aj
theorem Ag.length {xs:List V}{us:List Value}(r:Ag xs us):xs.length=us.length:=Paired.length r
theorem Ag.get:∀{xs:List V} {us:List Value} {i:Nat} {x:V},Ag xs us→xs[i]?=some x→∃ u,us[i]?=some u∧Aj x u:=by
 intro A B j x h
 induction h generalizing j with
 | nil=>
  intro e
  simp at e
 | cons r t ih=>
  intro e
  cases j with
  | zero=>
   simp at e
   subst e
   exact⟨_,rfl,r⟩
  | succ j=>
   obtain⟨y,h1,h2⟩:=ih (by simpa using e)
   exact⟨y,by simpa using h1,h2⟩
theorem Ag.set {x:V}{u:Value}(r:Aj x u):∀{xs:List V} {us:List Value} (i:Nat),Ag xs us→Ag (xs.set i x) (us.set i u)
 | _,_,_,.nil=>.nil
 | _,_,0,.cons _ t=>.cons r t
 | _,_,i+1,.cons q t=>.cons q (Ag.set r i t)
theorem Ag.append:∀{xs ys:List V} {us ws:List Value},Ag xs us→Ag ys ws→Ag (xs++ys) (us++ws):=by
 intro A B C D h g
 induction h with
 | nil=>exact g
 | cons r t ih=>exact .cons r ih
theorem Ag.take:∀{xs:List V} {us:List Value} (n:Nat),Ag xs us→Ag (xs.take n) (us.take n)
 | _,_,0,_=>.nil
 | _,_,_+1,.nil=>.nil
 | _,_,n+1,.cons r t=>.cons r (Ag.take n t)
theorem Ag.drop:∀{xs:List V} {us:List Value} (n:Nat),Ag xs us→Ag (xs.drop n) (us.drop n)
 | _,_,0,r=>r
 | _,_,_+1,.nil=>.nil
 | _,_,n+1,.cons _ t=>Ag.drop n t
theorem Ag.none_of:∀{xs:List V} {us:List Value} {i:Nat},Ag xs us→xs[i]?=none→us[i]?=none:=fun {xs us i} r e=>by
 have h1:=r.length
 have h2:xs.length≤i:=List.getElem?_eq_none_iff.mp e
 exact List.getElem?_eq_none_iff.mpr (by omega)
def DR:Option V→Option Value→Prop
 | some v,some u=>Aj v u
 | none,none=>True
 | _,_=>False
def KV {κ:Type}:List (κ×V)→List (κ×Value)→Prop:=Paired fun(p:κ×V) (q:κ×Value)=>p.1=q.1∧Aj p.2 q.2
def kV:BI→V
 | .inl i=>.int i
 | .inr x=>.str x
inductive HO where
 | lst (xs:List V)
 | tup (xs:List V)
 | dK (kvs:List (BI×V)) | dT (kvs:List (List BI×V))
 | set (S:Int→Bool) (n:Nat)
 | ins (C dx:Addr) (fs:List (Str×V))
 | own (x:Addr)
 | xd (fs:List (Str×V))
 | met (f x:Addr)
 | rng (lo hi:Int)
 | frz (o:Obj) (u:HO)
 | tbl (ps:Array Value)
 | ext (φ:Heap→Prop)
abbrev Hp:=Addr→Option HO
def upd (H:Hp)(a:Addr)(o:HO):Hp:=fun b=>if b=a then some o else H b
theorem AB {H:Hp}{a:Addr}{o:HO}:upd H a o a=some o:=by unfold upd;rw[if_pos rfl]
theorem AT {H:Hp}{a b:Addr}{o:HO}(h:b≠a):upd H a o b=H b:=by unfold upd;rw[if_neg h]
theorem Iv {H:Hp}{a:Addr}{o u:HO}:upd (upd H a o) a u=upd H a u:=by
 funext b;unfold upd;split <;> rfl
theorem CL {H:Hp}{a b:Addr}{o u:HO}(h:H a=some o)(h':H b=some u)(d:o≠u):a≠b:=by
 intro e;subst e;rw[h]at h';exact d (Option.some.inj h')
theorem AX {H:Hp}{a b:Addr}{o:HO}(h:H a=some o)(h':H b=none):a≠b:=by
 intro e;subst e;rw[h]at h';cases h'
section
variable (P:Program)(w:World)
def A7 (H:Hp)(h:Heap)(a:Addr):HO→Prop
 | .lst xs=>xs.length≤sizeLine∧∃(its:List Value) (n:Nat),Ag xs its∧h.get? a=some { cls:=.type "list",data:=.seq its.toArray n }
 | .tup xs=>xs.length≤sizeLine∧∃ its:List Value,Ag xs its∧IsTup h a its.toArray
 | .dK kvs=>kvs.length≤sizeLine∧(a==sysModules)=false∧∃ vs,KV kvs vs∧h.DictOf (A9 P w) a vs
 | .dT kvs=>kvs.length≤sizeLine∧(a==sysModules)=false∧∃ xs:List (List BI×Addr×Value),
  Paired (fun(p:List BI×V) (q:List BI×Addr×Value)=>p.1=q.1∧H q.2.1=some (.tup (p.1.map kV))∧Aj p.2 q.2.2) kvs xs∧
  ∃ o es ep,h.get? a=some o∧o.ExactDict∧o.data=.dict es ep∧es.toList=xs.map (entryOfKey (tupleKind (A9 P w)))∧(xs.map (·.1)).Nodup
 | .set S n=>h.SetOf (intKind P w) a S n
 | .ins C dx fs=>H dx=some (.own a)∧fs.length≤1000∧dx≠a∧h.get? a=some (PySem.W.instObj C dx)∧
  ∃ mA,h.Ns1 dx mA∧(∀ f,DR (fs.lookup f) (mA f))∧PySem.Within mA (fs.map (·.1))
 | .own _=>∃ o,h.get? a=some o
 | .xd fs=>∃ mA,h.Ns1 a mA∧∀ f,DR (fs.lookup f) (mA f)
 | .rng lo hi=>∃ t u v,h.get? a=some { cls:=.type "range",data:=.fields #[.int lo t,.int hi u,.int 1 v] }
 | .frz o u=>h.get? a=some o∧A7 H h a u
 | .tbl ps=>h.get? a=some { cls:=.none,data:=.fields ps }
 | .met f x=>h.get? a=some (PySem.W.methodObj (.ref f) (.ref x))
 | .ext φ=>φ h∧(∃ o,h.get? a=some o)∧∀ h1 h2:Heap,φ h1→(∀ o,h1.get? a=some o→h2.get? a=some o)→φ h2
def EG (H:Hp)(h:Heap):Prop:=∀ a o,H a=some o→A7 P w H h a o
end
section
variable {P:Program}{w:World}{H H':Hp}{h h':Heap}{a:Addr}{o:HO}
theorem A7.lt (x:A7 P w H h a o):a<h.objs.size:=by
 cases o with
 | lst xs=>obtain⟨_,_,_,_,e⟩:=x;exact Heap.lt_size e
 | tup xs=>obtain⟨_,_,_,p⟩:=x;exact p.lt
 | dK kvs=>obtain⟨_,_,_,_,o,_,_,e,_⟩:=x;exact Heap.lt_size e
 | dT kvs=>obtain⟨_,_,_,_,o,_,_,e,_⟩:=x;exact Heap.lt_size e
 | set S n=>obtain⟨o,_,_,_,e,_⟩:=x;exact Heap.lt_size e
 | ins C dx fs=>obtain⟨_,_,_,e,_⟩:=x;exact Heap.lt_size e
 | own y=>obtain⟨_,e⟩:=x;exact Heap.lt_size e
 | xd fs=>obtain⟨_,⟨_,_,_,e,_⟩,_⟩:=x;exact Heap.lt_size e
 | rng lo hi=>obtain⟨_,_,_,e⟩:=x;exact Heap.lt_size e
 | frz ob u=>obtain⟨e,_⟩:=x;exact Heap.lt_size e
 | tbl ps=>exact Heap.lt_size (show h.get? a=some _ from x)
 | met f y=>exact Heap.lt_size (show h.get? a=some _ from x)
 | ext φ=>obtain⟨_,⟨_,e⟩,_⟩:=x;exact Heap.lt_size e
theorem Paired.mapP {α β:Type}{F G:α→β→Prop}:∀{l₁:List α} {l₂:List β},Paired F l₁ l₂→(∀ a b,F a b→G a b)→Paired G l₁ l₂:=by
 intro A B h f
 induction h with
 | nil=>exact .nil
 | cons r t ih=>exact .cons (f _ _ r) ih
theorem Paired.imp' {α β:Type}{F G:α→β→Prop}(f:∀ a b,F a b→G a b){l₁:List α}{l₂:List β}(r:Paired F l₁ l₂):Paired G l₁ l₂:=Paired.mapP r f
theorem A7.stay (x:A7 P w H h a o)(k:∀ b u,(b=a∨H b=some (.own a))→h.get? b=some u→h'.get? b=some u)
 (ho:∀ b,H b=some (.own a)→H' b=some (.own a)) (ht:∀ b xs,H b=some (.tup xs)→H' b=some (.tup xs)):A7 P w H' h' a o:=by
 induction o with
 | lst xs=>obtain⟨z,its,n,r,e⟩:=x;exact⟨z,its,n,r,k _ _ (.inl rfl) e⟩
 | tup xs=>obtain⟨z,its,r,ob,e,c⟩:=x;exact⟨z,its,r,ob,k _ _ (.inl rfl) e,c⟩
 | dK kvs=>obtain⟨z,y,vs,r,ob,es,ep,e,c⟩:=x;exact⟨z,y,vs,r,ob,es,ep,k _ _ (.inl rfl) e,c⟩
 | dT kvs=>
  obtain⟨z,y,xs,r,ob,es,ep,e,c⟩:=x
  exact⟨z,y,xs,Paired.mapP r fun p q z=>⟨z.1,ht _ _ z.2.1,z.2.2⟩,ob,es,ep,k _ _ (.inl rfl) e,c⟩
 | set S n=>obtain⟨ob,es,ep,t,e,c⟩:=x;exact⟨ob,es,ep,t,k _ _ (.inl rfl) e,c⟩
 | ins C dx fs=>
  obtain⟨d,z,ne,e,mA,⟨od,es,ep,e2,c⟩,r⟩:=x
  exact⟨ho _ d,z,ne,k _ _ (.inl rfl) e,mA,⟨od,es,ep,k _ _ (.inr d) e2,c⟩,r⟩
 | own y=>obtain⟨ob,e⟩:=x;exact⟨ob,k _ _ (.inl rfl) e⟩
 | xd fs=>obtain⟨mA,⟨od,es,ep,e,c⟩,r⟩:=x;exact⟨mA,⟨od,es,ep,k _ _ (.inl rfl) e,c⟩,r⟩
 | rng lo hi=>obtain⟨t,u,v,e⟩:=x;exact⟨t,u,v,k _ _ (.inl rfl) e⟩
 | frz ob u ih=>obtain⟨e,q⟩:=x;exact⟨k _ _ (.inl rfl) e,ih q⟩
 | tbl ps=>
  have e:h.get? a=some { cls:=.none,data:=.fields ps }:=x
  show h'.get? a=some { cls:=.none,data:=.fields ps }
  exact k a _ (.inl rfl) e
 | met f y=>
  have e:h.get? a=some (PySem.W.methodObj (.ref f) (.ref y)):=x
  show h'.get? a=some (PySem.W.methodObj (.ref f) (.ref y))
  exact k a _ (.inl rfl) e
 | ext φ=>obtain⟨p,⟨o,e⟩,st⟩:=x;exact⟨st _ _ p fun o q=>k _ _ (.inl rfl) q,⟨o,k _ _ (.inl rfl) e⟩,st⟩
theorem EG.lt (x:EG P w H h)(e:H a=some o):a<h.objs.size:=(x a o e).lt
theorem EG.fresh (x:EG P w H h)(e:h.objs.size≤a):H a=none:=by
 cases q:H a with
 | none=>rfl
 | some u=>exact absurd (Nat.lt_of_lt_of_le (x.lt q) e) (Nat.lt_irrefl _)
theorem EG.kept (x:EG P w H h)(k:∀ b u,h.get? b=some u→h'.get? b=some u):EG P w H h':=fun a o e=>
 (x a o e).stay (fun b u _ q=>k b u q) (fun _ q=>q) fun _ _ q=>q
theorem EG.laid (x:EG P w H h)(k:∀ b u,h.get? b=some u→h'.get? b=some u)(hp:h.objs.size≤a)(new:A7 P w (upd H a o) h' a o):EG P w (upd H a o) h':=fun b u e=>by
 have hn:=x.fresh hp
 by_cases hb:b=a
 ·subst hb;rw[AB]at e;cases e;exact new
 ·rw[AT hb]at e
  exact(x b u e).stay (fun c v _ q=>k c v q) (fun c q=>by rw[AT (AX q hn)];exact q) fun c xs q=>by rw[AT (AX q hn)];exact q
end
def Rd (H:Hp)(a:Addr)(u:HO):Prop:=H a=some u∨∃ o,H a=some (.frz o u)
theorem Rd.of {H:Hp}{a:Addr}{u:HO}(h:H a=some u):Rd H a u:=.inl h
theorem Rd.ok {P:Program}{w:World}{H:Hp}{h:Heap}{a:Addr}{u:HO}(r:Rd H a u)(x:EG P w H h):A7 P w H h a u:=by
 rcases r with r | ⟨o,r⟩
 ·exact x a u r
 ·obtain⟨_,q⟩:=x a _ r
  exact q
def NY:Option HO→Prop
 | some (.lst _)=>True
 | some (.dK _)=>True
 | some (.dT _)=>True
 | some (.set _ _)=>True
 | some (.ins _ _ _)=>True
 | some (.ext _)=>True
 | _=>False
section
variable {P:Program}{w:World}{H:Hp}{h h':Heap}{x e:Addr}{o':HO}
theorem EG.write (ok:EG P w H h)(mu:NY (H x))(he:e=x∨H e=some (.own x))(k:∀ b u,b≠e→h.get? b=some u→h'.get? b=some u)(heo:∃ u,h'.get? e=some u)
 (new:A7 P w (upd H x o') h' x o'):EG P w (upd H x o') h':=fun b u q=>by
 have nown:∀ c y,H c=some (.own y)→c≠x:=fun c y r z=>by subst z;rw[r]at mu;exact mu
 have ntup:∀ c xs,H c=some (.tup xs)→c≠x:=fun c xs r z=>by subst z;rw[r]at mu;exact mu
 by_cases hb:b=x
 ·subst hb;rw[AB]at q;cases q;exact new
 ·rw[AT hb]at q
  by_cases hbe:b=e
  ·have q':H b=some (.own x):=by
    rcases he with z | z
    ·exact absurd (hbe.trans z) hb
    ·rw[hbe];exact z
   rw[q]at q';cases q'
   obtain⟨v,hv⟩:=heo
   exact⟨v,by rw[hbe];exact hv⟩
  ·refine(ok b u q).stay (fun c v hc r=>k c v ?_ r) (fun c r=>by rw[AT (nown c b r)];exact r) fun c xs r=>by rw[AT (ntup c xs r)];exact r
   rcases hc with rfl | hc
   ·exact hbe
   ·rintro rfl
    rcases he with z | z
    ·exact nown c b hc z
    ·rw[hc]at z;cases z;exact hb rfl
end
structure Un (fs ex:List Addr)(H H':Hp)(h h':Heap):Prop where
 keep:∀ b o,h.get? b=some o→H b=none→b∉fs→b∉ex→h'.get? b=some o
 slot:∀ b o,h.get? b=some o→H b=none→b∈fs→b∉ex→∃ sl,h'.get? b=some { o with slots:=sl }
 free:∀ b o,h.get? b=some o→H b=none→b∉ex→H' b=none
 there:∀ b o,h.get? b=some o→b∉ex→∃ o',h'.get? b=some o'
 tups:∀ b xs,H b=some (.tup xs)→H' b=some (.tup xs)
 frzs:∀ b o u,H b=some (.frz o u)→H' b=some (.frz o u)
 tbls:∀ b ps,H b=some (.tbl ps)→∃ more,H' b=some (.tbl (ps++more))
section
variable {fs fs' ex ex':List Addr}{H H1 H2:Hp}{h h1 h2 h':Heap}{a x e:Addr}{o:HO}
theorem Un.any (u:Un fs ex H H1 h h1){b:Addr}{ob:Obj}(q:h.get? b=some ob)(n:H b=none)(hx:b∉ex):∃ sl,h1.get? b=some { ob with slots:=sl }:=by
 by_cases hb:b∈fs
 ·exact u.slot b ob q n hb hx
 ·exact⟨ob.slots,u.keep b ob q n hb hx⟩
theorem Un.trans (a:Un fs ex H H1 h h1)(b:Un fs ex H1 H2 h1 h2):Un fs ex H H2 h h2 where
 keep:=fun c ob q n hc hx=>b.keep c ob (a.keep c ob q n hc hx) (a.free c ob q n hx) hc hx
 slot:=fun c ob q n hc hx=>by
  obtain⟨sl,e1⟩:=a.slot c ob q n hc hx
  obtain⟨sl',e2⟩:=b.slot c _ e1 (a.free c ob q n hx) hc hx
  exact⟨sl',e2⟩
 free:=fun c ob q n hx=>by
  obtain⟨o',e1⟩:=a.there c ob q hx
  exact b.free c o' e1 (a.free c ob q n hx) hx
 there:=fun c ob q hx=>by
  obtain⟨o',e1⟩:=a.there c ob q hx
  exact b.there c o' e1 hx
 tups:=fun c xs q=>b.tups c xs (a.tups c xs q)
 frzs:=fun c ob xs q=>b.frzs c ob xs (a.frzs c ob xs q)
 tbls:=fun c ps q=>by
  obtain⟨m1,e1⟩:=a.tbls c ps q
  obtain⟨m2,e2⟩:=b.tbls c _ e1
  exact⟨m1++m2,by rw[e2,Array.append_assoc]⟩
theorem Un.kept (k:∀ b u,h.get? b=some u→h'.get? b=some u):Un fs ex H H h h':=
 ⟨fun b ob q _ _ _=>k b ob q,fun b ob q _ _ _=>⟨ob.slots,k b ob q⟩,fun _ _ _ n _=>n,fun b ob q _=>⟨ob,k b ob q⟩,fun _ _ q=>q,fun _ _ _ q=>q,fun _ ps q=>⟨#[],by rw[q];simp⟩⟩
theorem Un.refl:Un fs ex H H h h:=Un.kept fun _ _ q=>q
theorem Un.laid (k:∀ b u,h.get? b=some u→h'.get? b=some u)(hp:h.objs.size≤a)(hn:H a=none):Un fs ex H (upd H a o) h h' where
 keep:=fun b u q _ _ _=>k b u q
 slot:=fun b u q _ _ _=>⟨u.slots,k b u q⟩
 free:=fun b u q n _=>by rw[AT (Nat.ne_of_lt (Nat.lt_of_lt_of_le (Heap.lt_size q) hp))];exact n
 there:=fun b u q _=>⟨u,k b u q⟩
 tups:=fun b xs q=>by rw[AT (AX q hn)];exact q
 frzs:=fun b u xs q=>by rw[AT (AX q hn)];exact q
 tbls:=fun b ps q=>⟨#[],by rw[AT (AX q hn),q];simp⟩
theorem Un.write (mu:NY (H x))(he:e=x∨H e=some (.own x))(k:∀ b u,b≠e→h.get? b=some u→h'.get? b=some u)(heo:∃ u,h'.get? e=some u):Un fs ex H (upd H x o) h h':=by
 have hx:∀ b,H b=none→b≠x:=fun b n z=>by subst z;rw[n]at mu;exact mu
 have hb:∀ b,H b=none→b≠e:=fun b n z=>by
  subst z
  rcases he with r | r
  ·exact hx b n r
  ·rw[n]at r;cases r
 have hm:∀ b u,H b=some u→¬ NY (some u)→b≠x:=fun b u q nm z=>by subst z;rw[q]at mu;exact nm mu
 refine⟨fun b u q n _ _=>k b u (hb b n) q,fun b u q n _ _=>⟨u.slots,k b u (hb b n) q⟩,fun b u q n _=>by rw[AT (hx b n)];exact n,fun b u q _=>?_,
  fun b xs q=>by rw[AT (hm b _ q fun z=>z)];exact q,fun b u xs q=>by rw[AT (hm b _ q fun z=>z)];exact q,fun b ps q=>⟨#[],by rw[AT (hm b _ q fun z=>z),q];simp⟩⟩
 by_cases hbe:b=e
 ·subst hbe;exact heo
 ·exact⟨u,k b u hbe q⟩
theorem Un.mono (u:Un fs ex H H1 h h1)(hs:∀ b∈fs,b∈fs')(hx:∀ b∈ex,b∈ex'):Un fs' ex' H H1 h h1:=
 ⟨fun b ob q n hb he=>u.keep b ob q n (fun z=>hb (hs b z)) fun z=>he (hx b z),fun _ _ q n _ he=>u.any q n fun z=>he (hx _ z),fun b ob q n he=>u.free b ob q n fun z=>he (hx b z),fun b ob q he=>u.there b ob q fun z=>he (hx b z),u.tups,u.frzs,u.tbls⟩
end
def trk (h:Heap)(H:Hp):List Addr:=(List.range h.objs.size).filter fun a=>(H a).isSome
def DT (h:Heap)(H:Hp):Heap:=PySem.W.hideAll h (trk h H)
theorem Ew (h:Heap)(H:Hp):(DT h H).objs.size=h.objs.size:=PySem.W.hideAll_size _ _
theorem Fk {h:Heap}{H:Hp}{b:Addr}{o:Obj}(e:h.get? b=some o)(n:H b=none):(DT h H).get? b=some o:=
 PySem.W.hideAll_get _ e fun hm=>by
  have q:(H b).isSome=true:=(List.mem_filter.mp hm).2
  rw[n]at q;simp at q
theorem Iw {h:Heap}{H:Hp}{b:Addr}{o:Obj}(e:(DT h H).get? b=some o):h.get? b=some o∧H b=none:=by
 have e':h.get? b=some o:=PySem.W.of_hideAll (trk h H) e
 refine⟨e',?_⟩
 cases q:H b with
 | none=>rfl
 | some x=>
  have hm:b∈trk h H:=List.mem_filter.mpr ⟨List.mem_range.mpr (Heap.lt_size e'),by simp[q]⟩
  have z:(DT h H).get? b=none:=PySem.W.hideAll_none (trk h H) hm
  rw[z]at e;cases e
def LH (g h:Heap)(L:Addr):List (Addr×Obj):=(List.range h.objs.size).filterMap fun a=>if a=L∨(g.get? a).isSome=true then none else(h.get? a).map fun o=>(a,o)
def Eb (g h:Heap)(L d:Addr):List (Addr×Obj):=(LH g h L).filter fun p=>decide (p.1≠d)
structure Mod (K:PySem.W.Frag)(mg:Str→Option Value)(base:Heap):Prop where
 kin:K.In base
 glob:base.Ns mainGlobals mg
 blt:∃ mb,base.Ns builtinsNs mb∧∀ x:Str,x≠"__name__"→mb x=bootBuiltins x
 nolimit:base.NoLimit
structure Cx where
 prog:Program
 w:World
 K:PySem.W.Frag
 mg:Str→Option Value
 base:Heap
 A:Around
 N:List Str
 s₀:Shared
 H₀:Hp
 env:Env
 outer:List Env
 stack:List Env
 ex:List Addr
 fn:Str→Bool
 calm:Bool
 pn:List (Addr×Obj)
 xe:Value→Shared→Prop
def Fl (l:List Env):List Addr:=l.filterMap (·.frame)
abbrev Cx.fs (X:Cx):List Addr:=Fl X.outer
def Q5 (sc:Scope)(x:Str):Prop:=sc.names.lookup x=some .local∨sc.names.lookup x=some .cell∨sc.names.lookup x=some .free
def PH (sc:Scope)(x:Str):Prop:=sc.names.lookup x=some .local∨sc.names.lookup x=some .cell
def Ps (env:Env)(h:Heap)(m:Str→Option Value)(x:Str)(u:Value):Prop:=
 (env.kindOf x=some .local∧m x=some u)∨((env.kindOf x=some .cell∨env.kindOf x=some .free)∧∃ c,env.cells.lookup x=some c∧h.IsCell c (some u))
structure Cx.Ok (X:Cx):Prop where
 mod:Mod X.K X.mg X.base
 kind:X.env.scope.kind=.function
 glob:X.env.globals=mainGlobals
 blt:X.env.builtins=builtinsNs
 above:X.s₀.heap.objs.size≤X.env.locals
 inj:∀ x y c,X.env.cells.lookup x=some c→X.env.cells.lookup y=some c→x=y
 has:∀ x,(X.env.kindOf x=some .cell∨X.env.kindOf x=some .free)→∃ c,X.env.cells.lookup x=some c
 cab:∀ x c,X.fn x=true→X.env.cells.lookup x=some c→X.s₀.heap.objs.size≤c
 hd:X.calm=true→X.A.handled=none
 frames:X.A.frames=some X.stack
 stk:X.stack=X.outer∨(X.stack=X.env::X.outer∧X.env.frame=some X.env.locals)
 exf:∀ b∈X.ex,b≠X.env.locals∧∀ x c,X.env.cells.lookup x=some c→c≠b
 bs:∀ b o,X.base.get? b=some o→X.s₀.heap.get? b=some o∧X.H₀ b=none
 bsz:X.base.objs.size≤X.s₀.heap.objs.size
 noex:∀ b o,X.base.get? b=some o→b∉X.ex
 exfs:∀ b∈X.ex,b∉X.fs
 funs:X.s₀.heap.FunFrames X.base X.outer
 frf:∀ b∈X.fs,X.H₀ b=none
structure AZ (X:Cx)(pins:List (Addr×Obj))(σ:List (Option V))(H:Hp)(s:Shared):Prop where
 ok:X.Ok
 os:s.os=X.s₀.os
 bare:AllBare s.gens
 base:Un X.fs X.ex X.H₀ H X.s₀.heap s.heap
 loc:∃ m,s.heap.Ns X.env.locals m∧∀(i:Nat) (x:Str) (v:V),X.N[i]?=some x→σ[i]?=some (some v)→Q5 X.env.scope x→∃ u,Aj v u∧Ps X.env s.heap m x u
 cell:∀ x c,X.env.cells.lookup x=some c→∃ v,s.heap.IsCell c v
 free:H X.env.locals=none
 freeC:∀ x c,X.env.cells.lookup x=some c→H c=none
 pin:∀ p∈X.pn++pins,s.heap.get? p.1=some p.2∧H p.1=none∧p.1≠X.env.locals∧p.1∉X.fs∧∀ v,p.2.data≠.cell v
 hok:EG X.prog X.w H s.heap
 len:σ.length=X.N.length
section
variable {X:Cx}{pins:List (Addr×Obj)}{σ:List (Option V)}{H H':Hp}{s:Shared}{h':Heap}
theorem Cx.Ok.nofr (ok:X.Ok){b:Addr}{o:Obj}(e:X.base.get? b=some o):b∉X.fs:=fun hb=>by
 have:=(ok.funs.mem hb).1
 rw[e]at this;cases this
theorem AZ.bs (I:AZ X pins σ H s):∀ b o,X.base.get? b=some o→s.heap.get? b=some o∧H b=none:=fun b o e=>
 ⟨I.base.keep b o (I.ok.bs b o e).1 (I.ok.bs b o e).2 (I.ok.nofr e) (I.ok.noex b o e),I.base.free b o (I.ok.bs b o e).1 (I.ok.bs b o e).2 (I.ok.noex b o e)⟩
theorem AZ.bk (I:AZ X pins σ H s):∀ b o,X.base.get? b=some o→s.heap.get? b=some o:=fun b o e=>(I.bs b o e).1
theorem AZ.mod (I:AZ X pins σ H s):Mod X.K X.mg X.base:=I.ok.mod
theorem AZ.kIn (I:AZ X pins σ H s):X.K.In s.heap:=I.ok.mod.kin.keeps I.bk
theorem AZ.nolimit (I:AZ X pins σ H s):s.heap.NoLimit:=I.ok.mod.nolimit.keeps I.bk
theorem AZ.fr (I:AZ X pins σ H s):∃ m,Fr X.base X.env.locals s.heap m:=
 let ⟨m,hn,_⟩:=I.loc
 ⟨m,hn,I.bk,Nat.le_trans I.ok.bsz I.ok.above⟩
theorem AZ.lt (I:AZ X pins σ H s):X.env.locals<s.heap.objs.size:=by
 obtain⟨_,hn,_⟩:=I.loc
 exact hn.lt
theorem AZ.sz (I:AZ X pins σ H s):X.s₀.heap.objs.size≤s.heap.objs.size:=Nat.le_trans I.ok.above (Nat.le_of_lt I.lt)
theorem AZ.nofs (I:AZ X pins σ H s){a:Addr}(h:s.heap.objs.size≤a):a∉X.fs:=fun hb=>by
 obtain⟨_,o,ho,_⟩:=I.ok.funs.mem hb
 exact absurd (Nat.lt_of_lt_of_le (Heap.lt_size ho) (Nat.le_trans I.sz h)) (Nat.lt_irrefl _)
theorem AZ.cne (I:AZ X pins σ H s):∀ x c,X.env.cells.lookup x=some c→c≠X.env.locals:=fun x c e z=>by
 obtain⟨v,o,ho,hd⟩:=I.cell x c e
 obtain⟨m,⟨o',es,ep,ho',hd',_⟩,_⟩:=I.loc
 rw[z,ho']at ho;cases ho;rw[hd']at hd;cases hd
theorem AZ.funs (I:AZ X pins σ H s):s.heap.FunFrames X.base X.outer:=by
 have all:∀(l:List Env),(∀ b∈Fl l,b∈X.fs)→X.s₀.heap.FunFrames X.base l→s.heap.FunFrames X.base l:=by
  intro l
  induction l with
  | nil=>intro _ _;trivial
  | cons env r ih=>
   intro hs hl
   obtain⟨hk,⟨L,o,hf,hn,ho,hd⟩,hr⟩:=hl
   have hL:L∈X.fs:=hs L (by unfold Fl;rw[List.filterMap_cons,hf];exact List.mem_cons_self)
   obtain⟨sl,e⟩:=I.base.slot L o ho (I.ok.frf L hL) hL fun z=>I.ok.exfs L z hL
   exact⟨hk,⟨L,_,hf,hn,e,hd⟩,ih (fun b hb=>hs b (by unfold Fl;rw[List.filterMap_cons,hf];exact List.mem_cons_of_mem _ hb)) hr⟩
 exact all X.outer (fun _ hb=>hb) I.ok.funs
theorem AZ.stack (I:AZ X pins σ H s):s.heap.FunFrames X.base X.stack:=by
 rcases I.ok.stk with e | ⟨e,hf⟩
 ·rw[e];exact I.funs
 ·rw[e]
  obtain⟨m,hn,_⟩:=I.loc
  refine .cons (by rw[I.ok.kind];decide) hf hn ?_ I.funs
  exact Heap.get?_none_of_le (Nat.le_trans I.ok.bsz I.ok.above)
theorem AZ.stkSub (I:AZ X pins σ H s):∀ b∈Fl X.stack,b∈X.env.locals::X.fs:=fun b hb=>by
 rcases I.ok.stk with e | ⟨e,hf⟩
 ·rw[e]at hb;exact List.mem_cons_of_mem _ hb
 ·rw[e]at hb
  unfold Fl at hb
  rw[List.filterMap_cons,hf]at hb
  exact hb
theorem AZ.stkFree (I:AZ X pins σ H s):∀ b∈Fl X.stack,H b=none:=fun b hb=>by
 rcases List.mem_cons.mp (I.stkSub b hb)with e | hb
 ·rw[e];exact I.free
 ·obtain⟨_,o,ho,_⟩:=I.ok.funs.mem hb
  exact I.base.free b o ho (I.ok.frf b hb) fun z=>I.ok.exfs b z hb
theorem AZ.step {g':Array GenState}{t':Nat}{d':Drawn}{ch:List Addr}(I:AZ X pins σ H s)
 (hch:∀ b∈ch,(b∈X.ex∨X.s₀.heap.objs.size≤b)∧b≠X.env.locals∧(∀ x c,X.env.cells.lookup x=some c→c≠b)∧∀ p∈X.pn++pins,p.1≠b)
 (keep:∀ b o,b≠X.env.locals→b∉X.fs→b∉ch→s.heap.get? b=some o→H b=none→h'.get? b=some o)
 (slot:∀ b o,b≠X.env.locals→b∈X.fs→b∉ch→s.heap.get? b=some o→H b=none→∃ sl,h'.get? b=some { o with slots:=sl }) (free:∀ b o,b∉ch→s.heap.get? b=some o→H b=none→H' b=none)
 (there:∀ b o,b∉ch→s.heap.get? b=some o→∃ o',h'.get? b=some o')
 (tups:∀ b xs,H b=some (.tup xs)→H' b=some (.tup xs)) (frzs:∀ b o u,H b=some (.frz o u)→H' b=some (.frz o u)) (tbls:∀ b ps,H b=some (.tbl ps)→∃ more,H' b=some (.tbl (ps++more)))
 (ns:∀ m,s.heap.Ns X.env.locals m→h'.Ns X.env.locals m) (hok:EG X.prog X.w H' h') (hg:AllBare g'):
 AZ X pins σ H' { s with heap:=h',gens:=g',drawn:=d',toks:=t' }:=by
 have neL:∀ b o,X.s₀.heap.get? b=some o→b≠X.env.locals:=fun b o e=>Nat.ne_of_lt (Nat.lt_of_lt_of_le (Heap.lt_size e) I.ok.above)
 have neC:∀ b o,X.s₀.heap.get? b=some o→b∉X.ex→b∉ch:=fun b o e hx hb=>by
  rcases(hch b hb).1 with z | z
  ·exact hx z
  ·exact absurd (Nat.lt_of_lt_of_le (Heap.lt_size e) z) (Nat.lt_irrefl _)
 have cellK:∀ x c,X.env.cells.lookup x=some c→∀ v,s.heap.IsCell c v→h'.IsCell c v:=fun x c e v ⟨o,ho,hd⟩=>by
  have nch:c∉ch:=fun z=>(hch c z).2.2.1 x c e rfl
  by_cases hc:c∈X.fs
  ·obtain⟨sl,q⟩:=slot c o (I.cne x c e) hc nch ho (I.freeC x c e)
   exact⟨_,q,hd⟩
  ·exact⟨o,keep c o (I.cne x c e) hc nch ho (I.freeC x c e),hd⟩
 refine⟨I.ok,I.os,hg,⟨fun b o e n hb hx=>?_,fun b o e n hb hx=>?_,fun b o e n hx=>?_,fun b o e hx=>?_,fun b xs e=>tups b xs (I.base.tups b xs e),fun b o xs e=>frzs b o xs (I.base.frzs b o xs e),fun b ps e=>?_⟩,?_,fun x c e=>?_,?_,fun x c e=>?_,fun p hp=>?_,hok,I.len⟩
 ·exact keep b o (neL b o e) hb (neC b o e hx) (I.base.keep b o e n hb hx) (I.base.free b o e n hx)
 ·obtain⟨sl,e1⟩:=I.base.slot b o e n hb hx
  obtain⟨sl',e2⟩:=slot b _ (neL b o e) hb (neC b o e hx) e1 (I.base.free b o e n hx)
  exact⟨sl',e2⟩
 ·obtain⟨o',e1⟩:=I.base.there b o e hx
  exact free b o' (neC b o e hx) e1 (I.base.free b o e n hx)
 ·obtain⟨o',e1⟩:=I.base.there b o e hx
  exact there b o' (neC b o e hx) e1
 ·obtain⟨m1,e1⟩:=I.base.tbls b ps e
  obtain⟨m2,e2⟩:=tbls b _ e1
  exact⟨m1++m2,by rw[e2,Array.append_assoc]⟩
 ·obtain⟨m,hn,hl⟩:=I.loc
  refine⟨m,ns m hn,fun i x v e1 e2 e3=>?_⟩
  obtain⟨u,r,l⟩:=hl i x v e1 e2 e3
  refine⟨u,r,?_⟩
  rcases l with l | ⟨k,c,e,z⟩
  ·exact .inl l
  ·exact .inr ⟨k,c,e,cellK x c e _ z⟩
 ·obtain⟨v,z⟩:=I.cell x c e
  exact⟨v,cellK x c e v z⟩
 ·obtain⟨m,⟨o,_,_,ho,_⟩,_⟩:=I.loc
  exact free _ o (fun z=>(hch _ z).2.1 rfl) ho I.free
 ·obtain⟨v,o,ho,hd⟩:=I.cell x c e
  exact free c o (fun z=>(hch c z).2.2.1 x c e rfl) ho (I.freeC x c e)
 ·obtain⟨e,n,ne,nf,d⟩:=I.pin p hp
  have nch:p.1∉ch:=fun z=>(hch p.1 z).2.2.2 p hp rfl
  exact⟨keep p.1 p.2 ne nf nch e n,free p.1 p.2 nch e n,ne,nf,d⟩
theorem AZ.un {t':Nat}(I:AZ X pins σ H s)(u:Un X.fs [] H H' s.heap h')(hok:EG X.prog X.w H' h'):AZ X pins σ H' { s with heap:=h',toks:=t' }:=by
 obtain⟨m,⟨o,es,ep,ho,r⟩,_⟩:=id I.loc
 obtain⟨sl,hL⟩:=u.any ho I.free (by simp)
 exact I.step (g':=s.gens) (d':=s.drawn) (ch:=[]) (fun _ z=>nomatch z) (fun b o _ hb _ e n=>u.keep b o e n hb (by simp)) (fun b o _ hb _ e n=>u.slot b o e n hb (by simp)) (fun b o _ e n=>u.free b o e n (by simp)) (fun b o _ e=>u.there b o e (by simp)) u.tups u.frzs u.tbls (fun m' hm=>by
  obtain⟨o',es',ep',ho',r'⟩:=hm
  rw[ho]at ho';cases ho'
  exact⟨_,es',ep',hL,r'⟩) hok I.bare
theorem AZ.call {g':Array GenState}{t':Nat}{d':Drawn}{ch:List Addr}(I:AZ X pins σ H s)(u:Un (Fl X.stack) ch H H' s.heap h')(hok:EG X.prog X.w H' h')(hg:AllBare g')
 (hch:∀ b∈ch,(b∈X.ex∨X.s₀.heap.objs.size≤b)∧b≠X.env.locals∧(∀ x c,X.env.cells.lookup x=some c→c≠b)∧∀ p∈X.pn++pins,p.1≠b):
 AZ X pins σ H' { s with heap:=h',gens:=g',drawn:=d',toks:=t' }:=by
 obtain⟨m,⟨o,es,ep,ho,r⟩,_⟩:=id I.loc
 obtain⟨sl,hL⟩:=u.any ho I.free fun z=>(hch _ z).2.1 rfl
 exact I.step (ch:=ch) hch (fun b o hL hb hc e n=>u.keep b o e n (fun z=>(List.mem_cons.mp (I.stkSub b z)).elim hL hb) hc) (fun b o _ _ hc e n=>u.any e n hc) (fun b o hc e n=>u.free b o e n hc) (fun b o hc e=>u.there b o e hc) u.tups u.frzs u.tbls (fun m' hm=>by
  obtain⟨o',es',ep',ho',r'⟩:=hm
  rw[ho]at ho';cases ho'
  exact⟨_,es',ep',hL,r'⟩) hok hg
theorem AZ.turned {t':Nat}{it:Addr}(I:AZ X pins σ H s)(k:∀ b o,b≠it→s.heap.get? b=some o→h'.get? b=some o)(hn:H it=none)(hL:it≠X.env.locals)
 (h1:it∈X.ex∨X.s₀.heap.objs.size≤it) (h2:∀ x c,X.env.cells.lookup x=some c→c≠it) (h3:∀ p∈X.pn++pins,p.1≠it):AZ X pins σ H { s with heap:=h',toks:=t' }:=by
 have nit:∀ b u,H b=some u→b≠it:=fun b u e z=>by rw[z,hn]at e;cases e
 refine I.step (g':=s.gens) (d':=s.drawn) (ch:=[it]) (fun b hb=>?_) (fun b o _ _ hc e _=>k b o (fun z=>hc (by simp[z])) e) (fun b o _ _ hc e _=>⟨o.slots,k b o (fun z=>hc (by simp[z])) e⟩) (fun _ _ _ _ n=>n)
  (fun b o hc e=>⟨o,k b o (fun z=>hc (by simp[z])) e⟩) (fun _ _ e=>e) (fun _ _ _ e=>e) (fun b ps e=>⟨#[],by rw[e];simp⟩) (fun m hm=>?_) (fun b u e=>?_) I.bare
 ·have e:b=it:=by simpa using hb
  subst e
  exact⟨h1,hL,h2,h3⟩
 ·obtain⟨o,es,ep,ho,r⟩:=hm
  exact⟨o,es,ep,k _ o (Ne.symm hL) ho,r⟩
 ·refine(I.hok b u e).stay (fun c v hc q=>k c v ?_ q) (fun _ q=>q) fun _ _ q=>q
  rcases hc with z | z
  ·rw[z];exact nit b u e
  ·exact nit c _ z
theorem AZ.tok (I:AZ X pins σ H s)(t:Nat):AZ X pins σ H { s with toks:=t }:=I.un (h':=s.heap) (t':=t) Un.refl I.hok
theorem AZ.kept {t':Nat}(I:AZ X pins σ H s)(k:∀ b u,s.heap.get? b=some u→h'.get? b=some u):AZ X pins σ H { s with heap:=h',toks:=t' }:=I.un (Un.kept k) (I.hok.kept k)
theorem AZ.laid {a:Addr}{o:HO}{t':Nat}(I:AZ X pins σ H s)(k:∀ b u,s.heap.get? b=some u→h'.get? b=some u)(hp:s.heap.objs.size≤a)(new:A7 X.prog X.w (upd H a o) h' a o):
 AZ X pins σ (upd H a o) { s with heap:=h',toks:=t' }:=I.un (Un.laid k hp (I.hok.fresh hp)) (I.hok.laid k hp new)
theorem AZ.write {x e:Addr}{o:HO}{t':Nat}(I:AZ X pins σ H s)(mu:NY (H x))(he:e=x∨H e=some (.own x))(k:∀ b u,b≠e→s.heap.get? b=some u→h'.get? b=some u)(heo:∃ u,h'.get? e=some u)
 (new:A7 X.prog X.w (upd H x o) h' x o):AZ X pins σ (upd H x o) { s with heap:=h',toks:=t' }:=I.un (Un.write mu he k heo) (I.hok.write mu he k heo new)
theorem AZ.pins_of {pins':List (Addr×Obj)}(I:AZ X pins σ H s)(h:∀ p∈pins',s.heap.get? p.1=some p.2∧H p.1=none∧p.1≠X.env.locals∧p.1∉X.fs∧∀ v,p.2.data≠.cell v):AZ X pins' σ H s:=
 ⟨I.ok,I.os,I.bare,I.base,I.loc,I.cell,I.free,I.freeC,fun p hp=>(List.mem_append.mp hp).elim (fun z=>I.pin p (List.mem_append_left _ z)) (h p),I.hok,I.len⟩
theorem HE {N:List Str}(hN:N.Nodup){i j:Nat}{x:Str}(a:N[i]?=some x)(b:N[j]?=some x):i=j:=by
 obtain⟨h1,e1⟩:=List.getElem?_eq_some_iff.mp a
 obtain⟨h2,e2⟩:=List.getElem?_eq_some_iff.mp b
 exact(List.getElem_inj hN).mp (e1.trans e2.symm)
theorem Jb {M:Model}{A:Around}{E:Value→Shared→Prop}{i:Nat}{x:Str}{v:V}{u:Value}{Q:Unit→Shared→Prop}(I:AZ X pins σ H s)(hN:X.N.Nodup)(hi:X.N[i]?=some x)(hx:PH X.env.scope x)(r:Aj v u)
 (h:∀ s',AZ X pins (σ.set i (some v)) H s'→(∃ a,Heap.SameBut a s.heap s'.heap∧(a=X.env.locals∨X.env.cells.lookup x=some a))→Q () s') (hf:X.fn x=true∨X.env.scope.names.lookup x=some .local:=by first | exact .inl rfl | exact .inr rfl | assumption):wpAny M A (storeName X.env x u) Q E s:=by
 obtain⟨m,hn,hl⟩:=id I.loc
 have hcls:(X.env.scope.kind==.class||(X.env.scope.kind==.module&&X.env.locals != X.env.globals))=false:=by rw[I.ok.kind];rfl
 have hiσ:i<σ.length:=by rw[I.len];exact(List.getElem?_eq_some_iff.mp hi).1
 have cne:=I.cne
 have tracked:∀{a:Addr} {h':Heap},(∃ o,s.heap.get? a=some o∧H a=none)→Heap.SameBut a s.heap h'→EG X.prog X.w H h':=fun {a h'} ha hs b ob e=>by
  obtain⟨_,_,hfree⟩:=ha
  refine(I.hok b ob e).stay (fun c w' hc q=>(hs.2 c ?_).trans q) (fun _ q=>q) fun _ _ q=>q
  rintro rfl
  rcases hc with rfl | hc
  ·rw[hfree]at e;cases e
  ·rw[hfree]at hc;cases hc
 rcases hx with hk | hk
 ·refine wpAny_storeName_local hk hn (fun h' hn' hs=>?_) hcls
  obtain⟨oL,_,_,hoL,_⟩:=id hn
  refine h _ ⟨I.ok,I.os,I.bare,⟨fun b o e n hb hx=>?_,fun b o e n hb hx=>?_,I.base.free,fun b o e hx=>?_,I.base.tups,I.base.frzs,I.base.tbls⟩,⟨_,hn',fun j y v' e1 e2 e3=>?_⟩,fun y c e=>?_,I.free,I.freeC,fun p hp=>?_,tracked ⟨oL,hoL,I.free⟩ hs,by simpa using I.len⟩ ⟨_,hs,.inl rfl⟩
  ·exact(hs.2 b (Nat.ne_of_lt (Nat.lt_of_lt_of_le (Heap.lt_size e) I.ok.above))).trans (I.base.keep b o e n hb hx)
  ·obtain⟨sl,e1⟩:=I.base.slot b o e n hb hx
   exact⟨sl,(hs.2 b (Nat.ne_of_lt (Nat.lt_of_lt_of_le (Heap.lt_size e) I.ok.above))).trans e1⟩
  ·obtain⟨o',e1⟩:=I.base.there b o e hx
   exact⟨o',(hs.2 b (Nat.ne_of_lt (Nat.lt_of_lt_of_le (Heap.lt_size e) I.ok.above))).trans e1⟩
  ·by_cases hj:j=i
   ·subst hj
    rw[hi]at e1;cases e1
    rw[List.getElem?_set_self hiσ]at e2
    cases e2
    exact⟨u,r,.inl ⟨hk,by simp⟩⟩
   ·rw[List.getElem?_set_ne (Ne.symm hj)]at e2
    obtain⟨u',r',q⟩:=hl j y v' e1 e2 e3
    refine⟨u',r',?_⟩
    rcases q with⟨k,e⟩ | ⟨k,c,e,z⟩
    ·refine .inl ⟨k,?_⟩
     have:y≠x:=fun e=>hj (HE hN e1 (e▸hi))
     simp[this,e]
    ·exact .inr ⟨k,c,e,z.sameBut hs (cne y c e)⟩
  ·obtain⟨w',z⟩:=I.cell y c e
   exact⟨w',z.sameBut hs (cne y c e)⟩
  ·obtain⟨e,n,ne,nf,d⟩:=I.pin p hp
   exact⟨(hs.2 p.1 ne).trans e,n,ne,nf,d⟩
 ·have hfn:X.fn x=true:=by
   rcases hf with z | z
   ·exact z
   ·rw[z]at hk;cases hk
  obtain⟨c,hc⟩:=I.ok.has x (.inl hk)
  obtain⟨w',z⟩:=I.cell x c hc
  refine wpAny_storeName_cell I.ok.kind hk hc z (fun h' hc' hs=>?_)
  obtain⟨oc,hoc,hocd⟩:=id z
  refine h { s with heap:=h' } ⟨I.ok,I.os,I.bare,⟨fun b o e n hb hx=>?_,fun b o e n hb hx=>?_,I.base.free,fun b o e hx=>?_,I.base.tups,I.base.frzs,I.base.tbls⟩,⟨m,hn.sameBut hs (Ne.symm (cne x c hc)),fun j y v' e1 e2 e3=>?_⟩,fun y c' e=>?_,I.free,I.freeC,fun p hp=>?_,tracked ⟨oc,hoc,I.freeC x c hc⟩ hs,by simpa using I.len⟩ ⟨c,hs,.inr hc⟩
  ·exact(hs.2 b (Nat.ne_of_lt (Nat.lt_of_lt_of_le (Heap.lt_size e) (I.ok.cab x c hfn hc)))).trans (I.base.keep b o e n hb hx)
  ·obtain⟨sl,e1⟩:=I.base.slot b o e n hb hx
   exact⟨sl,(hs.2 b (Nat.ne_of_lt (Nat.lt_of_lt_of_le (Heap.lt_size e) (I.ok.cab x c hfn hc)))).trans e1⟩
  ·obtain⟨o',e1⟩:=I.base.there b o e hx
   exact⟨o',(hs.2 b (Nat.ne_of_lt (Nat.lt_of_lt_of_le (Heap.lt_size e) (I.ok.cab x c hfn hc)))).trans e1⟩
  ·by_cases hj:j=i
   ·subst hj
    rw[hi]at e1;cases e1
    rw[List.getElem?_set_self hiσ]at e2
    cases e2
    exact⟨u,r,.inr ⟨.inl hk,c,hc,hc'⟩⟩
   ·rw[List.getElem?_set_ne (Ne.symm hj)]at e2
    obtain⟨u',r',q⟩:=hl j y v' e1 e2 e3
    refine⟨u',r',?_⟩
    rcases q with q | ⟨k,c',e,z'⟩
    ·exact .inl q
    ·refine .inr ⟨k,c',e,z'.sameBut hs ?_⟩
     rintro rfl
     exact hj (HE hN e1 (I.ok.inj _ _ _ e hc▸hi))
  ·by_cases hcc:c'=c
   ·subst hcc;exact⟨_,hc'⟩
   ·obtain⟨w2,z2⟩:=I.cell y c' e
    exact⟨w2,z2.sameBut hs hcc⟩
  ·obtain⟨e,n,ne,nf,d⟩:=I.pin p hp
   refine⟨(hs.2 p.1 ?_).trans e,n,ne,nf,d⟩
   intro q
   rw[q,hoc]at e
   have q':oc=p.2:=Option.some.inj e
   exact d w' (by rw[← q'];exact hocd)
theorem HF {M:Model}{A:Around}{E:Value→Shared→Prop}{i:Nat}{x:Str}{v:V}{u:Value}{Q:Unit→Shared→Prop}(I:AZ X pins σ H s)(hN:X.N.Nodup)(hi:X.N[i]?=some x)(hx:PH X.env.scope x)(r:Aj v u)
 (h:∀ s',AZ X pins (σ.set i (some v)) H s'→Q () s') (hf:X.fn x=true∨X.env.scope.names.lookup x=some .local:=by first | exact .inl rfl | exact .inr rfl | assumption):wpAny M A (storeName X.env x u) Q E s:=
 Jb I hN hi hx r (fun s' I' _=>h s' I') hf
theorem AZ.call' {s':Shared}{ch:List Addr}(I:AZ X pins σ H s)(ho:s'.os=s.os)(u:Un (Fl X.stack) ch H H' s.heap s'.heap)(hok:EG X.prog X.w H' s'.heap)(hg:AllBare s'.gens)
 (hch:∀ b∈ch,(b∈X.ex∨X.s₀.heap.objs.size≤b)∧b≠X.env.locals∧(∀ x c,X.env.cells.lookup x=some c→c≠b)∧∀ p∈X.pn++pins,p.1≠b):AZ X pins σ H' s':=by
 obtain⟨h',g',d',t',o'⟩:=s'
 have e:o'=s.os:=ho
 subst e
 exact I.call (g':=g') (t':=t') (d':=d') u hok hg hch
end
abbrev XK:=Value→Option Addr→Hp→Prop
abbrev St:=List (Option V)
abbrev VK:=V→Hp→Prop
abbrev TE:=St→Hp→VK→Prop
abbrev TT:=St→Hp→(Bool→Hp→Prop)→Prop
abbrev TA:=St→Hp→(List V→Hp→Prop)→Prop
structure F6 where
 nx:St→Hp→Prop
 rt:VK
 bk:St→Hp→Prop:=fun _ _=>False
 ct:St→Hp→Prop:=fun _ _=>False
abbrev TS:=F6→St→Hp→Prop
def EP (X:Cx)(pins:List (Addr×Obj))(σ:St)(Q:VK)(u:Value)(s':Shared):Prop:=∃ v H',AZ X pins σ H' s'∧Aj v u∧Q v H'
def TP (X:Cx)(pins:List (Addr×Obj))(σ:St)(Q:Bool→Hp→Prop)(b:Bool)(s':Shared):Prop:=∃ H',AZ X pins σ H' s'∧Q b H'
def AP (X:Cx)(pins:List (Addr×Obj))(σ:St)(Q:List V→Hp→Prop)(us:List Value)(s':Shared):Prop:=∃ vs H',AZ X pins σ H' s'∧Ag vs us∧Q vs H'
def SP (X:Cx)(pins:List (Addr×Obj))(D:F6)(f:Flow)(s':Shared):Prop:=
 match f with
 | .next=>∃ σ' H',AZ X pins σ' H' s'∧D.nx σ' H'
 | .brk=>∃ σ' H',AZ X pins σ' H' s'∧D.bk σ' H'
 | .cont=>∃ σ' H',AZ X pins σ' H' s'∧D.ct σ' H'
 | .ret u=>∃ v σ' H',AZ X pins σ' H' s'∧Aj v u∧D.rt v H'
def PE (X:Cx)(e:Expr)(t:TE):Prop:=
 ∀(pins:List (Addr×Obj)) (s:Shared) (σ:St) (H:Hp) (Q:VK),AZ X pins σ H s→t σ H Q→wpAny (model X.prog X.w) X.A (eval e X.env) (EP X pins σ Q) X.xe s
def PT (X:Cx)(e:Expr)(t:TT):Prop:=
 ∀(pins:List (Addr×Obj)) (s:Shared) (σ:St) (H:Hp) (Q:Bool→Hp→Prop),AZ X pins σ H s→t σ H Q→wpAny (model X.prog X.w) X.A (isTrue e X.env (eval e X.env)) (TP X pins σ Q) X.xe s
def PW (X:Cx)(e:Expr)(t:TT):Prop:=
 ∀(whole:Sem Value) (pins:List (Addr×Obj)) (s:Shared) (σ:St) (H:Hp) (Q:Bool→Hp→Prop),AZ X pins σ H s→t σ H Q→wpAny (model X.prog X.w) X.A (isTrue e X.env whole) (TP X pins σ Q) X.xe s
theorem PW.pt {X:Cx}{e:Expr}{t:TT}(h:PW X e t):PT X e t:=h _
def PA (X:Cx)(es:List Expr)(t:TA):Prop:=
 ∀(pos:Pos) (pins:List (Addr×Obj)) (s:Shared) (σ:St) (H:Hp) (Q:List V→Hp→Prop),AZ X pins σ H s→t σ H Q→wpAny (model X.prog X.w) X.A (spliced (backTo pos (starEach es X.env))) (AP X pins σ Q) X.xe s
def PS (X:Cx)(st:Stmt)(t:TS):Prop:=
 ∀(pins:List (Addr×Obj)) (s:Shared) (σ:St) (H:Hp) (D:F6),AZ X pins σ H s→t D σ H→wpAny (model X.prog X.w) X.A (exec st X.env) (SP X pins D) X.xe s
def Hu (X:Cx)(st:List Stmt)(t:TS):Prop:=
 ∀(pins:List (Addr×Obj)) (s:Shared) (σ:St) (H:Hp) (D:F6),AZ X pins σ H s→t D σ H→wpAny (model X.prog X.w) X.A (execs st X.env) (SP X pins D) X.xe s
theorem BJ {α:Type}{t:Sem α}{Q Q':α→Shared→Prop}{M:Model}{A:Around}{E:Value→Shared→Prop}{s:Shared}(h:wpAny M A t Q E s)(hQ:∀ a s,Q a s→Q' a s):wpAny M A t Q' E s:=wpAny_mono h hQ fun _ _ x=>x
section
variable {X:Cx}
def Mb (i:Nat):TE:=fun σ H Q=>∃ v,σ[i]?=some (some v)∧Q v H
def tC (v:V):TE:=fun _ H Q=>Q v H
theorem Mc {i:Nat}{x:Str}{pos:Pos}(hN:X.N[i]?=some x)(hv:Q5 X.env.scope x)(hd:(x==("__debug__":Str))=false:=by decide)(hcd:(x==("__classdict__":Str))=false:=by decide):PE X (.Name x pos) (Mb i):=by
 intro pins s σ H Q I h
 obtain⟨v,e,h⟩:=h
 obtain⟨m,hn,hl⟩:=I.loc
 obtain⟨u,r,l⟩:=hl i x v hN e hv
 have fin:EP X pins σ Q u s:=⟨v,H,I,r,h⟩
 rcases l with⟨hk,hm⟩ | ⟨hk,c,hc,hcell⟩
 ·exact wpAny_Name (wpAny_loadName_local I.ok.kind hk hn hm fin) hd
 ·rcases hk with hk | hk
  ·exact wpAny_Name (wpAny_loadName_cell I.ok.kind hk hc hcell fin) hd
  ·exact wpAny_Name (wpAny_loadName_free I.ok.kind hk hc hcell fin hcd) hd
theorem AE {i j pos}:PE X (.Constant (.int i) j pos) (tC (.int i)):=fun _ _ _ H _ I h=>wpAny_Constant_int ⟨.int i,H,I.tok _,⟨_,rfl⟩,h⟩
theorem Cs {b j pos}:PE X (.Constant (.bool b) j pos) (tC (.bl b)):=fun _ _ _ H _ I h=>Constant_bool ⟨.bl b,H,I,rfl,h⟩
theorem B3 {j pos}:PE X (.Constant .none j pos) (tC .non):=fun _ _ _ H _ I h=>Constant_none ⟨.non,H,I,rfl,h⟩
theorem AJ {x j pos}:PE X (.Constant (.str x) j pos) (tC (.str x)):=fun _ _ _ H _ I h=>Calls.Constant_str ⟨.str x,H,I.tok _,⟨_,rfl⟩,h⟩
def Gl (X:Cx)(x:Str):Prop:=X.env.kindOf x=some .globalImplicit
theorem Fc {E:Value→Shared→Prop}{pins:List (Addr×Obj)}{s:Shared}{σ:St}{H:Hp}{x:Str}{u:Value}{pos:Pos}{Q:Value→Shared→Prop}(I:AZ X pins σ H s)(hg:Gl X x)(hm:X.mg x=some u)(h:Q u s)
 (hd:(x==("__debug__":Str))=false:=by decide):wpAny (model X.prog X.w) X.A (eval (.Name x pos) X.env) Q E s:=
 Calls.Name_function_global I.ok.kind hg (Calls.loadGlobal_global (by rw[I.ok.glob];exact I.mod.glob.keeps I.bk) hm h) hd
theorem DA {E:Value→Shared→Prop}{pins:List (Addr×Obj)}{s:Shared}{σ:St}{H:Hp}{x:Str}{u:Value}{pos:Pos}{Q:Value→Shared→Prop}(I:AZ X pins σ H s)(hg:Gl X x)(hm:X.mg x=none)(hv:bootBuiltins x=some u)(h:Q u s)
 (hn:x≠"__name__":=by decide) (hd:(x==("__debug__":Str))=false:=by decide):wpAny (model X.prog X.w) X.A (eval (.Name x pos) X.env) Q E s:=by
 obtain⟨mb,h1,h2⟩:=I.mod.blt
 exact Calls.Name_function_global I.ok.kind hg (Calls.loadGlobal_builtin (by rw[I.ok.glob];exact I.mod.glob.keeps I.bk) hm (by rw[I.ok.blt];exact h1.keeps I.bk) ((h2 x hn).trans hv) h) hd
theorem GW {x:Str}{v:V}{u:Value}{pos:Pos}(hg:Gl X x)(hm:X.mg x=some u)(r:Aj v u)(hd:(x==("__debug__":Str))=false:=by decide):PE X (.Name x pos) (tC v):=
 fun _ _ _ H _ I h=>Fc I hg hm ⟨v,H,I,r,h⟩ hd
theorem LI {x:Str}{v:V}{u:Value}{pos:Pos}(hg:Gl X x)(hm:X.mg x=none)(hv:bootBuiltins x=some u)(r:Aj v u)(hn:x≠"__name__":=by decide)(hd:(x==("__debug__":Str))=false:=by decide):PE X (.Name x pos) (tC v):=
 fun _ _ _ H _ I h=>DA I hg hm hv ⟨v,H,I,r,h⟩ hn hd
def PL (ta tb:TE)(k:Int→Int→Hp→Prop):St→Hp→Prop:=fun σ H=>ta σ H fun x H1=>tb σ H1 fun y H2=>∃ i j,x=.int i∧y=.int j∧k i j H2
def R0 (ta tb:TE):TE:=fun σ H Q=>PL ta tb (fun i j H2=>Q (.int (i+j)) H2) σ H
def R1 (ta tb:TE):TE:=fun σ H Q=>PL ta tb (fun i j H2=>Q (.int (i-j)) H2) σ H
def R3 (ta tb:TE):TE:=fun σ H Q=>PL ta tb (fun i j H2=>(-(2 ^ 64)<i∧i<2 ^ 64)∧Q (.int (i*j)) H2) σ H
variable {a b:Expr}{ta tb:TE}{pos:Pos}
def PC (X:Cx)(op:CmpOp)(a b:Expr)(t:TE):Prop:=
 ∀(pins:List (Addr×Obj)) (s:Shared) (σ:St) (H:Hp) (Q:VK),AZ X pins σ H s→t σ H Q→
  wpAny (model X.prog X.w) X.A (eval a X.env) (fun v s₁=>wpAny (model X.prog X.w) X.A (eval b X.env) (fun u s₂=>wpAny (model X.prog X.w) X.A (compareOp op v u) (EP X pins σ Q) X.xe s₂) X.xe s₁) X.xe s
def Jc (p:Int→Int→Bool)(ta tb:TE):TE:=fun σ H Q=>PL ta tb (fun i j H2=>Q (.bl (p i j)) H2) σ H
abbrev TK:TE→TE→TE:=Jc fun i j=>decide (i<j)
abbrev TL:TE→TE→TE:=Jc fun i j=>decide (i≤j)
abbrev TM:TE→TE→TE:=Jc fun i j=>decide (j<i)
abbrev TN:TE→TE→TE:=Jc fun i j=>decide (j≤i)
abbrev R4:TE→TE→TE:=Jc fun i j=>decide (i=j)
abbrev R5:TE→TE→TE:=Jc fun i j=>!decide (i=j)
def R6 (ta:TE):TE:=fun σ H Q=>ta σ H fun x H1=>Q (.bl (decide (x=.non))) H1
def Q6 (ta:TE):TE:=fun σ H Q=>ta σ H fun x H1=>Q (.bl (!decide (x=.non))) H1
def tB (t:TE):TT:=fun σ H Q=>t σ H fun x H1=>∃ c,x=.bl c∧Q c H1
theorem BB {e:Expr}{t:TE}(h:PE X e t)(he:∀ whole,isTrue e X.env whole=(do let v ← whole;standAt e.pos;holding [v] (truthy v)):=by intro _;rfl):PT X e (tB t):=by
 intro pins s σ H Q I hw
 refine isTrue_plain (BJ (h pins s σ H _ I hw) fun v s1 zq=>?_) (he _)
 obtain⟨x,H1,I1,r1,q1⟩:=zq
 obtain⟨d,rfl,q⟩:=q1
 cases r1
 exact wpAny_truthy_bool ⟨H1,I1,q⟩
variable {tA tB':TT}{Eb:List Expr}
def Pt (t u:TT):TT:=fun σ H Q=>t σ H fun c H1=>if c=true then u σ H1 Q else Q false H1
def R7 (t u:TT):TT:=fun σ H Q=>t σ H fun c H1=>if c=true then Q true H1 else u σ H1 Q
def Pu (t:TT):TT:=fun σ H Q=>t σ H fun c H1=>Q (!c) H1
theorem Ix (ha:PT X a tA):PW X (.BoolOp .And [a] pos) tA:=by
 intro wh pins s σ H Q I h
 refine isTrue_and (BJ (ha pins s σ H Q I h) fun c s1 e=>?_)
 cases c with
 | true=>exact isTrue_and_nil e
 | false=>exact e
theorem DB (ha:PT X a tA):PW X (.BoolOp .Or [a] pos) tA:=by
 intro wh pins s σ H Q I h
 refine isTrue_or (BJ (ha pins s σ H Q I h) fun c s1 e=>?_)
 cases c with
 | false=>exact isTrue_or_nil e
 | true=>exact e
theorem J9 (ha:PT X a tA)(hb:PW X (.BoolOp .And (b::Eb) pos) tB'):PW X (.BoolOp .And (a::b::Eb) pos) (Pt tA tB'):=by
 intro wh pins s σ H Q I h
 refine isTrue_and (BJ (ha pins s σ H _ I h) fun c s1 zq=>?_)
 obtain⟨H1,I1,q1⟩:=zq
 cases c with
 | true=>exact hb wh pins s1 σ H1 Q I1 q1
 | false=>exact⟨H1,I1,q1⟩
theorem Ct (ha:PT X a tA)(hb:PW X (.BoolOp .Or (b::Eb) pos) tB'):PW X (.BoolOp .Or (a::b::Eb) pos) (R7 tA tB'):=by
 intro wh pins s σ H Q I h
 refine isTrue_or (BJ (ha pins s σ H _ I h) fun c s1 zq=>?_)
 obtain⟨H1,I1,q1⟩:=zq
 cases c with
 | true=>exact⟨H1,I1,q1⟩
 | false=>exact hb wh pins s1 σ H1 Q I1 q1
theorem Bl (ha:PT X a tA):PT X (.UnaryOp .Not a pos) (Pu tA):=by
 intro pins s σ H Q I h
 exact isTrue_not (ha pins s σ H (fun c H1=>Q (!c) H1) I h)
def NZ (ta tb:TE):TE:=fun σ H Q=>ta σ H fun x H1=>∃ c,x=.bl c∧if c=true then tb σ H1 Q else Q (.bl false) H1
def R8 (ta tb:TE):TE:=fun σ H Q=>ta σ H fun x H1=>∃ c,x=.bl c∧if c=true then Q (.bl true) H1 else tb σ H1 Q
def Na (ta:TE):TE:=fun σ H Q=>ta σ H fun x H1=>∃ c,x=.bl c∧Q (.bl (!c)) H1
theorem CT {op}{t:TE}(h:PE X a t):PE X (.BoolOp op [a] pos) t:=fun pins s σ H Q I hw=>BoolOp_one (h pins s σ H Q I hw)
theorem Bd (ha:PE X a ta)(hb:PE X (.BoolOp .And (b::Eb) pos) tb):PE X (.BoolOp .And (a::b::Eb) pos) (NZ ta tb):=by
 intro pins s σ H Q I h
 refine BoolOp_and (BJ (ha pins s σ H _ I h) fun v s1 zq=>?_)
 obtain⟨x,H1,I1,r1,q1⟩:=zq
 obtain⟨c,rfl,q1⟩:=q1
 cases r1
 refine wpAny_truthy_bool ?_
 cases c with
 | true=>exact hb pins s1 σ H1 Q I1 q1
 | false=>exact⟨.bl false,H1,I1,rfl,q1⟩
theorem Hx (ha:PE X a ta):PE X (.UnaryOp .Not a pos) (Na ta):=by
 intro pins s σ H Q I h
 refine UnaryOp_ (BJ (ha pins s σ H _ I h) fun v s1 zq=>?_)
 obtain⟨x,H1,I1,r1,q1⟩:=zq
 obtain⟨c,rfl,q1⟩:=q1
 cases r1
 exact not_of (wpAny_truthy_bool ⟨.bl (!c),H1,I1,rfl,q1⟩)
def R9 (t:TT)(ta tb:TE):TE:=fun σ H Q=>t σ H fun c H1=>if c=true then ta σ H1 Q else tb σ H1 Q
theorem Ec {c:Expr}(hc:PT X c tA)(ha:PE X a ta)(hb:PE X b tb):PE X (.IfExp c a b pos) (R9 tA ta tb):=by
 intro pins s σ H Q I h
 refine wpAny_IfExp (BJ (hc pins s σ H _ I h) fun d s1 zq=>?_)
 obtain⟨H1,I1,q1⟩:=zq
 cases d with
 | true=>exact ha pins s1 σ H1 Q I1 q1
 | false=>exact hb pins s1 σ H1 Q I1 q1
end
def Aq (K:PySem.W.Frag)(H:Hp)(a:Addr)(xs:List V):Prop:=
 Rd H a (.lst xs)∨
  ∃(o:Obj) (its:Array Value) (n:Nat),K.lookup a=some o∧o.cls=.type "list"∧o.dict=none∧o.data=.seq its n∧its.size≤sizeLine∧Ag xs its.toList
def Am (K:PySem.W.Frag)(H:Hp)(a:Addr)(xs:List V):Prop:=
 Rd H a (.tup xs)∨
  ∃(o:Obj) (its:Array Value) (n:Nat),K.lookup a=some o∧o.cls=.type "tuple"∧o.data=.seq its n∧its.size≤sizeLine∧Ag xs its.toList
def Pw:Value→Option V
 | .none=>some .non
 | .bool b=>some (.bl b)
 | .int i _=>some (.int i)
 | .str x _=>some (.str x)
 | .bytes b _=>some (.byt b)
 | .float b _=>some (.flt b)
 | .ref a=>some (.ref a)
 | .type n=>some (.ty n)
 | _=>none
theorem Aj.abs {x:V}{u:Value}(r:Aj x u):Pw u=some x:=by
 cases x with
 | non=>cases r;rfl
 | bl _=>cases r;rfl
 | int _=>obtain⟨t,rfl⟩:=r;rfl
 | str _=>obtain⟨t,rfl⟩:=r;rfl
 | byt _=>obtain⟨t,rfl⟩:=r;rfl
 | flt _=>obtain⟨t,rfl⟩:=r;rfl
 | ref _=>cases r;rfl
 | ty _=>cases r;rfl
theorem Aj.inj {x y:V}{u:Value}(r:Aj x u)(q:Aj y u):x=y:=Option.some.inj (r.abs.symm.trans q.abs)
theorem Ag.inj:∀{xs ys:List V} {us:List Value},Ag xs us→Ag ys us→xs=ys:=by
 intro A B C h g
 induction h generalizing B with
 | nil=>
  cases g
  rfl
 | cons r t ih=>
  cases g with
  | cons r' t'=>rw[r.inj r',ih t']
section
variable {X:Cx}{pins:List (Addr×Obj)}{σ:St}{H:Hp}{s:Shared}{a:Addr}{xs ys:List V}
theorem Aq.of {K:PySem.W.Frag}(h:H a=some (.lst xs)):Aq K H a xs:=.inl (.inl h)
theorem Am.of {K:PySem.W.Frag}(h:H a=some (.tup xs)):Am K H a xs:=.inl (.inl h)
theorem AZ.list (I:AZ X pins σ H s)(h:Aq X.K H a xs):∃ its:List Value,Ag xs its∧PlainL s.heap a its.toArray∧xs.length≤sizeLine:=by
 rcases h with h | ⟨o,its,n,hk,hc,hd,hs,hz,r⟩
 ·obtain⟨z,its,n,r,e⟩:=h.ok I.hok
  exact⟨its,r,⟨_,n,e,rfl,rfl,rfl⟩,z⟩
 ·refine⟨its.toList,r,⟨o,n,I.kIn a o hk,hc,hd,by simpa using hs⟩,?_⟩
  have e:=r.length
  simp only[Array.length_toList]at e
  omega
theorem AZ.tuple (I:AZ X pins σ H s)(h:Am X.K H a xs):∃ its:List Value,Ag xs its∧IsTup s.heap a its.toArray∧xs.length≤sizeLine:=by
 rcases h with h | ⟨o,its,n,hk,hc,hs,hz,r⟩
 ·obtain⟨z,its,r,p⟩:=h.ok I.hok
  exact⟨its,r,p,z⟩
 ·refine⟨its.toList,r,⟨o,I.kIn a o hk,hc,n,by simpa using hs⟩,?_⟩
  have e:=r.length
  simp only[Array.length_toList]at e
  omega
theorem AZ.list_inj (I:AZ X pins σ H s)(h:Aq X.K H a xs)(h':Aq X.K H a ys):xs=ys:=by
 obtain⟨its,r,⟨o,n,e,_,_,d⟩,_⟩:=I.list h
 obtain⟨its',r',⟨o',n',e',_,_,d'⟩,_⟩:=I.list h'
 rw[e]at e';cases e'
 rw[d]at d'
 injection d' with d1 _
 have:its=its':=by simpa using congrArg Array.toList d1
 subst this
 exact r.inj r'
theorem AZ.tuple_inj (I:AZ X pins σ H s)(h:Am X.K H a xs)(h':Am X.K H a ys):xs=ys:=by
 obtain⟨its,r,⟨o,e,_,n,d⟩,_⟩:=I.tuple h
 obtain⟨its',r',⟨o',e',_,n',d'⟩,_⟩:=I.tuple h'
 rw[e]at e';cases e'
 rw[d]at d'
 injection d' with d1 _
 have:its=its':=by simpa using congrArg Array.toList d1
 subst this
 exact r.inj r'
end
abbrev Cx.wish (X:Cx)(E:Value→Shared→Prop):Cx:={ X with xe:=E }
abbrev Cx.nox (X:Cx):Cx:=X.wish fun _ _=>False
theorem Cx.Ok.wish {X:Cx}(ok:X.Ok)(E:Value→Shared→Prop):(X.wish E).Ok:=
 ⟨ok.mod,ok.kind,ok.glob,ok.blt,ok.above,ok.inj,ok.has,ok.cab,ok.hd,ok.frames,ok.stk,ok.exf,ok.bs,ok.bsz,ok.noex,ok.exfs,ok.funs,ok.frf⟩
theorem Cx.Ok.unwish {X:Cx}{E:Value→Shared→Prop}(ok:(X.wish E).Ok):X.Ok:=
 ⟨ok.mod,ok.kind,ok.glob,ok.blt,ok.above,ok.inj,ok.has,ok.cab,ok.hd,ok.frames,ok.stk,ok.exf,ok.bs,ok.bsz,ok.noex,ok.exfs,ok.funs,ok.frf⟩
section
variable {X:Cx}{pins:List (Addr×Obj)}{σ:St}{H:Hp}{s:Shared}{E:Value→Shared→Prop}
theorem AZ.wish (I:AZ X pins σ H s)(E:Value→Shared→Prop):AZ (X.wish E) pins σ H s:=⟨I.ok.wish E,I.os,I.bare,I.base,I.loc,I.cell,I.free,I.freeC,I.pin,I.hok,I.len⟩
theorem AZ.unwish (I:AZ (X.wish E) pins σ H s):AZ X pins σ H s:=⟨I.ok.unwish,I.os,I.bare,I.base,I.loc,I.cell,I.free,I.freeC,I.pin,I.hok,I.len⟩
theorem SP.unwish {D:F6}{f:Flow}{s':Shared}(h:SP (X.wish E) pins D f s'):SP X pins D f s':=by
 cases f with
 | next=>obtain⟨σ',H',I,q⟩:=h;exact⟨σ',H',I.unwish,q⟩
 | brk=>obtain⟨σ',H',I,q⟩:=h;exact⟨σ',H',I.unwish,q⟩
 | cont=>obtain⟨σ',H',I,q⟩:=h;exact⟨σ',H',I.unwish,q⟩
 | ret u=>obtain⟨v,σ',H',I,r,q⟩:=h;exact⟨v,σ',H',I.unwish,r,q⟩
theorem PE.nox {e:Expr}{t:TE}(h:PE X.nox e t):PE X e t:=fun pins s σ H Q I hw=>
 wpAny_mono (h pins s σ H Q (I.wish _) hw) (fun _ _ ⟨v,H',I',r,q⟩=>⟨v,H',I'.unwish,r,q⟩) fun _ _ z=>False.elim z
theorem PT.nox {e:Expr}{t:TT}(h:PT X.nox e t):PT X e t:=fun pins s σ H Q I hw=>
 wpAny_mono (h pins s σ H Q (I.wish _) hw) (fun _ _ ⟨H',I',q⟩=>⟨H',I'.unwish,q⟩) fun _ _ z=>False.elim z
theorem Hu.nox {st:List Stmt}{t:TS}(h:Hu X.nox st t):Hu X st t:=fun pins s σ H D I hw=>
 wpAny_mono (h pins s σ H D (I.wish _) hw) (fun _ _ q=>q.unwish) fun _ _ z=>False.elim z
end
section
variable {X:Cx}{st:Stmt}{Eb:List Stmt}{t u:TS}{e:Expr}{te:TE}{pos:Pos}
def Nb:TS:=fun D σ H=>D.nx σ H
def Nc (t u:TS):TS:=fun D σ H=>t { D with nx:=u D } σ H
theorem AM:Hu X [] Nb:=fun _ _ σ H _ I h=>wpAny_execs_nil ⟨σ,H,I,h⟩
theorem AF (h1:PS X st t)(h2:Hu X Eb u):Hu X (st::Eb) (Nc t u):=by
 intro pins s σ H D I h
 refine wpAny_execs_cons (BJ (h1 pins s σ H { D with nx:=u D } I h) fun f s1 q=>?_)
 cases f with
 | next=>
  obtain⟨σ',H',I',q⟩:=q
  exact h2 pins s1 σ' H' D I' q
 | ret v=>exact q
 | brk=>exact q
 | cont=>exact q
theorem AH (h1:PS X st t):Hu X [st] t:=by
 intro pins s σ H D I h
 refine wpAny_execs_cons (BJ (h1 pins s σ H D I h) fun f s1 q=>?_)
 cases f with
 | next=>exact wpAny_execs_nil q
 | ret v=>exact q
 | brk=>exact q
 | cont=>exact q
def Px:TS:=fun D σ H=>D.bk σ H
def Q7:TS:=fun D σ H=>D.ct σ H
theorem AZ.quiet {pins:List (Addr×Obj)}{σ:St}{H:Hp}{s:Shared}(I:AZ X pins σ H s):interactive X.env=false:=by simp[interactive,I.ok.kind]
def Nd (te:TE):TS:=fun D σ H=>te σ H fun _ H1=>D.nx σ H1
theorem Fd (he:PE X e te)(hs:swapsWith e none pos.line X.env=pure false:=by rfl):PS X (.Expr e pos) (Nd te):=by
 intro pins s σ H D I h
 exact wpAny_Expr_any (BJ (he pins s σ H _ I h) fun v s1 ⟨x,H1,I1,r1,q1⟩=>⟨σ,H1,I1,q1⟩) I.quiet hs
def Py (te:TE):TS:=fun D σ H=>te σ H D.rt
theorem AK (he:PE X e te):PS X (.Return (some e) pos) (Py te):=by
 intro pins s σ H D I h
 exact wpAny_Return_some (BJ (he pins s σ H _ I h) fun v s1 ⟨x,H1,I1,r1,q1⟩=>⟨x,σ,H1,I1,r1,q1⟩)
def Q8:TS:=fun D _ H=>D.rt .non H
def Pz (c:TT)(t u:TS):TS:=fun D σ H=>c σ H fun b H1=>if b=true then t D σ H1 else u D σ H1
theorem Ah {c:Expr}{a b:List Stmt}{tc:TT}(hc:PT X c tc)(ha:Hu X a t)(hb:Hu X b u):PS X (.If c a b pos) (Pz tc t u):=by
 intro pins s σ H D I h
 refine wpAny_If (BJ (hc pins s σ H _ I h) fun d s1 zq=>?_)
 obtain⟨H1,I1,q1⟩:=zq
 cases d with
 | true=>exact ha pins s1 σ H1 D I1 q1
 | false=>exact hb pins s1 σ H1 D I1 q1
def Md:TS:=fun _ _ _=>False
theorem DU:PS X st Md:=fun _ _ _ _ _ _ h=>h.elim
end
abbrev TG:=V→St→Hp→(St→Hp→Prop)→Prop
abbrev LJ:=List V→St→Hp→(St→Hp→Prop)→Prop
def PG (X:Cx)(target:Expr)(t:TG):Prop:=
 ∀(pins:List (Addr×Obj)) (s:Shared) (σ:St) (H:Hp) (v:V) (u:Value) (Q:St→Hp→Prop),AZ X pins σ H s→Aj v u→t v σ H Q→
  wpAny (model X.prog X.w) X.A (assign target X.env u) (fun _ s'=>∃ σ' H',AZ X pins σ' H' s'∧Q σ' H') X.xe s
def NR (X:Cx)(ts:List Expr)(t:LJ):Prop:=
 ∀(pins:List (Addr×Obj)) (s:Shared) (σ:St) (H:Hp) (vs:List V) (us:List Value) (Q:St→Hp→Prop),AZ X pins σ H s→Ag vs us→t vs σ H Q→
  wpAny (model X.prog X.w) X.A (assignInOrder ((assignEach ts X.env).map (·.2)) us) (fun _ s'=>∃ σ' H',AZ X pins σ' H' s'∧Q σ' H') X.xe s
abbrev LK:=V→V→V→Hp→(Hp→Prop)→Prop
def Nf (X:Cx)(t:LK):Prop:=
 ∀(pins:List (Addr×Obj)) (s:Shared) (σ:St) (H:Hp) (o i v:V) (ov iv u:Value) (Q:Hp→Prop),AZ X pins σ H s→Aj o ov→Aj i iv→Aj v u→t o i v H Q→
  wpAny (model X.prog X.w) X.A (setItem ov iv u) (fun _ s'=>∃ H',AZ X pins σ H' s'∧Q H') X.xe s
abbrev PM:=V→V→Hp→VK→Prop
def TQ (X:Cx)(op:Operator)(t:PM):Prop:=
 ∀(pins:List (Addr×Obj)) (s:Shared) (σ:St) (H:Hp) (x y:V) (v u:Value) (Q:VK),AZ X pins σ H s→Aj x v→Aj y u→t x y H Q→
  wpAny (model X.prog X.w) X.A (inplaceOp op v u) (EP X pins σ Q) X.xe s
section
variable {X:Cx}{pos:Pos}
def Fn (i:Nat):TG:=fun v σ H Q=>Q (σ.set i (some v)) H
theorem BG {i:Nat}{x:Str}(hN:X.N.Nodup)(hi:X.N[i]?=some x)(hx:PH X.env.scope x)(hf:X.fn x=true∨X.env.scope.names.lookup x=some .local:=by first | exact .inl rfl | exact .inr rfl | assumption):PG X (.Name x pos) (Fn i):=by
 intro pins s σ H v u Q I r h
 exact wpAny_assign_Name (HF I hN hi hx r (fun s' I'=>⟨_,H,I',h⟩) hf)
def Me:LJ:=fun vs σ H Q=>vs=[]∧Q σ H
def HG (t:TG)(u:LJ):LJ:=fun vs σ H Q=>∃ v r,vs=v::r∧t v σ H fun σ' H'=>u r σ' H' Q
theorem Fe:NR X [] Me:=by
 intro pins s σ H vs us Q I r h
 obtain⟨e,h⟩:=h
 subst e
 cases r
 exact assignInOrder_nil ⟨σ,H,I,h⟩
theorem Br {e:Expr}{es:List Expr}{t:TG}{u:LJ}(h1:PG X e t)(h2:NR X es u)
 (hs:(assignEach (e::es) X.env).map (·.2)=assign e X.env::(assignEach es X.env).map (·.2):=by rfl):NR X (e::es) (HG t u):=by
 intro pins s σ H vs us Q I r h
 obtain⟨v,vr,e1,h⟩:=h
 subst e1
 cases r with
 | cons r rr=>
  rw[hs]
  refine assignInOrder_cons (BJ (h1 pins s σ H _ _ _ I r h) fun _ s1 zq=>?_)
  obtain⟨σ1,H1,I1,q1⟩:=zq
  exact h2 pins s1 σ1 H1 _ _ Q I1 rr q1
def Mf (K:PySem.W.Frag)(n:Nat)(t:LJ):TG:=fun v σ H Q=>∃ a xs,v=.ref a∧Am K H a xs∧xs.length=n∧t xs σ H Q
theorem Hy {es:List Expr}{k:Nat}{t:LJ}{n:Nat}(hc:X.calm=true)(h:NR X es t)
 (hn:(assignEach es X.env).length=n:=by rfl) (hst:(assignEach es X.env).findIdx? (·.1)=none:=by rfl):PG X (.Tuple es k pos) (Mf X.K n t):=by
 intro pins s σ H v u Q I r hw
 obtain⟨a,xs,e1,hq,hl,hw⟩:=hw
 subst e1
 cases r
 obtain⟨its,rv,ht,hz⟩:=I.tuple hq
 refine assign_Tuple_tuple (I.ok.hd hc) ht (by simp[hn,← hl,rv.length]) hst fun h' hx=>?_
 have I1:AZ X pins σ H { s with heap:=h' }:=I.kept (t':=s.toks) fun b o e=>hx b o (Nat.ne_of_lt (Heap.lt_size e)) e
 exact h pins _ σ H xs _ Q I1 (by simpa using rv) hw
def P0 (to ti:TE)(t:LK):TG:=fun v σ H Q=>to σ H fun o H1=>ti σ H1 fun i H2=>t o i v H2 fun H3=>Q σ H3
theorem Hz {o i:Expr}{to ti:TE}{t:LK}(ho:PE X o to)(hi:PE X i ti)(hs:Nf X t)
 (ha:∀ v,assign (.Subscript o i pos) X.env v=(do
  let ov ← holding [v] (eval o X.env)
  let iv ← holding [v,ov] (eval i X.env)
  standAt pos
  holding [v,ov,iv] (setItem ov iv v)
  release [v,ov,iv] []):=by intro _;rfl):PG X (.Subscript o i pos) (P0 to ti t):=by
 intro pins s σ H v u Q I r h
 rw[ha]
 refine wpAny_bind (wpAny_holding (BJ (ho pins s σ H _ I h) fun ov s1 zq=>?_))
 obtain⟨x,H1,I1,r1,q1⟩:=zq
 refine wpAny_bind (wpAny_holding (BJ (hi pins s1 σ H1 _ I1 q1) fun iv s2 zq=>?_))
 obtain⟨y,H2,I2,r2,q2⟩:=zq
 refine wpAny_bind (wpAny_standAt (wpAny_bind (wpAny_holding (BJ (hs pins s2 σ H2 x y v ov iv u _ I2 r1 r2 r q2) fun _ s3 zq=>?_))))
 obtain⟨H3,I3,q3⟩:=zq
 exact wpAny_release ⟨σ,H3,I3,q3⟩
def Ng (te:TE)(g:TG):TS:=fun D σ H=>te σ H fun x H1=>g x σ H1 D.nx
theorem Fo {tg e:Expr}{te:TE}{g:TG}(he:PE X e te)(hg:PG X tg g)(hs:swapsWithSole [tg] e pos.line X.env=pure false:=by rfl)(hw:swappedStores [tg] e X.env=pure none:=by rfl)
 (h1:(assignEach [tg] X.env).map (·.2)=[assign tg X.env]:=by rfl):PS X (.Assign [tg] e pos) (Ng te g):=by
 intro pins s σ H D I h
 refine wpAny_Assign_stores (BJ (he pins s σ H _ I h) fun v s1 zq=>?_) hs hw
 obtain⟨x,H1,I1,r1,q1⟩:=zq
 rw[h1]
 exact BJ (hg pins s1 σ H1 x v _ I1 r1 q1) fun _ s2 q=>q
theorem Ao {i:Nat}{x:Str}{e:Expr}{te:TE}{pos':Pos}(hN:X.N.Nodup)(hi:X.N[i]?=some x)(hx:PH X.env.scope x)(he:PE X e te)(hs:swapsWith e (some (.Name x pos')) pos.line X.env=pure false:=by rfl)(hf:X.fn x=true∨X.env.scope.names.lookup x=some .local:=by first | exact .inl rfl | exact .inr rfl | assumption):
 PS X (.Assign [.Name x pos'] e pos) (Ng te (Fn i)):=by
 intro pins s σ H D I h
 refine wpAny_Assign_Name (BJ (he pins s σ H _ I h) fun v s1 zq=>?_) hs
 obtain⟨y,H1,I1,r1,q1⟩:=zq
 exact HF I1 hN hi hx r1 (fun s2 I2=>⟨_,H1,I2,q1⟩) hf
def SA (i j:Nat)(ta:TA):TS:=fun D σ H=>ta σ H fun vs H1=>∃ v w,vs=[v,w]∧D.nx ((σ.set i (some v)).set j (some w)) H1
def SC (i:Nat)(te:TE)(ti:PM):TS:=fun D σ H=>∃ x,σ[i]?=some (some x)∧te σ H fun y H1=>ti x y H1 fun z H2=>D.nx (σ.set i (some z)) H2
def Q9 (to ti te:TE)(tget:V→V→Hp→VK→Prop)(tip:PM)(tset:LK):TS:=fun D σ H=>to σ H fun o H1=>ti σ H1 fun i H2=>tget o i H2 fun x H3=>te σ H3 fun y H4=>tip x y H4 fun z H5=>tset o i z H5 fun H6=>D.nx σ H6
def SD (X:Cx)(t:V→V→Hp→VK→Prop):Prop:=
 ∀(pins:List (Addr×Obj)) (s:Shared) (σ:St) (H:Hp) (o i:V) (ov iv:Value) (Q:VK),AZ X pins σ H s→Aj o ov→Aj i iv→t o i H Q→
  wpAny (model X.prog X.w) X.A (getItem ov iv) (EP X pins σ Q) X.xe s
def TR (f:Int→Int→Int):PM:=fun x y H Q=>∃ i j,x=.int i∧y=.int j∧Q (.int (f i j)) H
end
section
variable {X:Cx}{pos:Pos}
def P2 (c:TT)(tb:TS):TS:=fun D σ H=>∃ W:Nat→St→Hp→Prop,(∃ m,W m σ H)∧∀ m σ H,W m σ H→
 c σ H fun b H1=>if b=true then ∃ N:St→Hp→Prop,(∀ σ' H',N σ' H'→∃ m',m'<m∧W m' σ' H')∧tb { D with nx:=N,ct:=N,bk:=D.nx } σ H1 else D.nx σ H1
end
structure It where
 go:Nat→Hp→Prop
 yld:Nat→Hp→V→Hp→Prop
 stop:Nat→Hp→Prop
def EL (X:Cx)(pins:List (Addr×Obj))(H:Hp)(b:Addr):Prop:=
 H b=none∧b≠X.env.locals∧b∉X.fs∧(b∈X.ex∨X.s₀.heap.objs.size≤b)∧(∀ x c,X.env.cells.lookup x=some c→c≠b)∧∀ p∈X.pn++pins,p.1≠b
theorem AZ.fpOk {X:Cx}{pins:List (Addr×Obj)}{σ:St}{H H':Hp}{s:Shared}{b:Addr}(I:AZ X pins σ H s)(hb:s.heap.objs.size≤b)(hn:H' b=none):EL X pins H' b:=by
 refine⟨hn,Nat.ne_of_gt (Nat.lt_of_lt_of_le I.lt hb),I.nofs hb,.inr (Nat.le_trans I.sz hb),fun x c e z=>?_,fun p hp z=>?_⟩
 ·obtain⟨v,q⟩:=I.cell x c e
  exact absurd (Nat.lt_of_lt_of_le q.lt (by rw[z];exact hb)) (Nat.lt_irrefl _)
 ·exact absurd (Nat.lt_of_lt_of_le (Heap.lt_size (I.pin p hp).1) (by rw[z];exact hb)) (Nat.lt_irrefl _)
structure IA (P:Program)(w:World)(K:PySem.W.Frag)(tg:Expr)(J:It)(fp:List Addr)(it:Addr)(tn:Nat→Heap→Prop):Prop where
 mem:it∈fp
 obj:∀ i h,tn i h→∀ b∈fp,∃ o,h.get? b=some o∧∀ v,o.data≠.cell v
 keep:∀ i h h',tn i h→(∀ b∈fp,∀ o,h.get? b=some o→h'.get? b=some o)→tn i h'
 item:∀(X:Cx),X.prog=P→X.w=w→X.K=K→X.calm=true→∀(i:Nat) (pins:List (Addr×Obj)) (s:Shared) (σ:St) (H:Hp) (E:Value→Shared→Prop),AZ X pins σ H s→(∀ b∈fp,EL X pins H b)→tn i s.heap→J.go i H→
  wpAny (model P w) X.A (pyNext (.ref it)) (fun r s1=>∃ u,r=some u∧
   wpAny (model P w) X.A (letOwnedTupleGo tg (.ref it) u) (fun _ s2=>∃ x H',AZ X pins σ H' s2∧Aj x u∧J.yld i H x H'∧tn (i+1) s2.heap∧∀ b∈fp,H' b=none) E s1) E s
 done:∀(X:Cx),X.prog=P→X.w=w→X.K=K→X.calm=true→∀(i:Nat) (pins:List (Addr×Obj)) (s:Shared) (σ:St) (H:Hp) (E:Value→Shared→Prop),AZ X pins σ H s→(∀ b∈fp,EL X pins H b)→tn i s.heap→J.stop i H→
  wpAny (model P w) X.A (pyNext (.ref it)) (fun r s1=>r=none∧AZ X pins σ H s1) E s
 self:∀(A:Around) (i:Nat) (s:Shared) (Q:Value→Shared→Prop) (E:Value→Shared→Prop),tn i s.heap→Q (.ref it) s→wpAny (model P w) A (pyIter (.ref it)) Q E s
abbrev TI:=St→Hp→(It→Hp→Prop)→Prop
def RA (X:Cx)(pins:List (Addr×Obj))(σ:St)(tg:Expr)(R:It→Hp→Prop)(itv:Value)(s2:Shared):Prop:=
 ∃(it:Addr) (fp:List Addr) (tn:Nat→Heap→Prop) (J:It) (H':Hp),itv=.ref it∧AZ X pins σ H' s2∧IA X.prog X.w X.K tg J fp it tn∧tn 0 s2.heap∧(∀ b∈fp,EL X pins H' b)∧R J H'
def PI (X:Cx)(tg iter:Expr)(wi:TI):Prop:=
 ∀(pins:List (Addr×Obj)) (s:Shared) (σ:St) (H:Hp) (R:It→Hp→Prop),AZ X pins σ H s→wi σ H R→
  wpAny (model X.prog X.w) X.A (eval iter X.env) (fun v s1=>wpAny (model X.prog X.w) X.A (pyIter v) (RA X pins σ tg R) X.xe s1) X.xe s
theorem Iy {M:Model}{A:Around}{E:Value→Shared→Prop}{s:Shared}{tg:Expr}{it:Addr}{u:Value}{o:Obj}{n:String}{vs:Array Value}{Q:Unit→Shared→Prop}(ho:s.heap.get? it=some o)(hc:o.cls=.type n)(hd:o.data=.fields vs)
 (hn:["enumerate","zip","dict_itemiterator","dict_reverseitemiterator","odict_iterator","itertools.zip_longest","itertools.pairwise"].contains n=false) (hQ:Q () s):wpAny M A (letOwnedTupleGo tg (.ref it) u) Q E s:=by
 unfold letOwnedTupleGo
 cases tg <;> first
  | exact wpAny_pure hQ
  | (cases u <;> first
   | exact wpAny_pure hQ
   | (refine wpAny_bind (wpAny_load ho ?_)
      rw[hc,hd]
      show wpAny M A (if(["enumerate","zip","dict_itemiterator","dict_reverseitemiterator","odict_iterator","itertools.zip_longest","itertools.pairwise"].contains n&&vs[0]?==some (rawInt _))=true then _ else _) Q E s
      rw[if_neg (by intro h;rw[hn,Bool.false_and]at h;cases h)]
      exact wpAny_pure hQ))
def Nh (K:PySem.W.Frag)(a:Addr):It:=
 ⟨fun i H=>∃ xs x,Aq K H a xs∧xs[i]?=some x,fun i H x H'=>H'=H∧∀ xs,Aq K H a xs→xs[i]?=some x,fun i H=>∃ xs,Aq K H a xs∧xs.length≤i⟩
def Ni (K:PySem.W.Frag)(a:Addr):It:=
 ⟨fun i H=>∃ xs x,Am K H a xs∧xs[i]?=some x,fun i H x H'=>H'=H∧∀ xs,Am K H a xs→xs[i]?=some x,fun i H=>∃ xs,Am K H a xs∧xs.length≤i⟩
def Mg (lo:Int)(n:Nat):It:=⟨fun i _=>i<n,fun i H x H'=>H'=H∧x=.int (lo+i),fun i _=>n≤i⟩
theorem Jd {P:Program}{w:World}{K:PySem.W.Frag}{tg:Expr}(a it:Addr):IA P w K tg (Nh K a) [it] it (fun i h=>h.IsListIter it a i) where
 mem:=by simp
 obj:=fun i h st b hb=>by
  have e:b=it:=by simpa using hb
  subst e
  obtain⟨o,e,c,d⟩:=st
  exact⟨o,e,fun v z=>by rw[d]at z;cases z⟩
 keep:=fun i h h' st k=>st.at fun o e=>k it (by simp) o e
 item:=by
  intro X hP hw hK hc i pins s σ H E I hf st hg
  subst hP hw hK
  obtain⟨xs,x,hq,hx⟩:=hg
  obtain⟨its,rv,p,hz⟩:=I.list hq
  obtain⟨u,hu,ru⟩:=rv.get hx
  obtain⟨f0,f1,f2,f3,f4,f5⟩:=hf it (by simp)
  refine wpAny_pyNext_list_item st p.isList (x:=u) (by simpa using hu) fun h' st' sb=>?_
  have I1:AZ X pins σ H { s with heap:=h' }:=I.turned (t':=s.toks) (fun b o hb e=>(sb.2 b hb).trans e) f0 f1 f3 f4 f5
  obtain⟨o,e,c,d⟩:=id st'
  exact⟨u,rfl,Iy (s:={ s with heap:=h' }) e c d (by decide) ⟨x,H,I1,ru,⟨rfl,fun ys hy=>by rw[I.list_inj hy hq];exact hx⟩,st',fun b hb=>(hf b hb).1⟩⟩
 done:=by
  intro X hP hw hK hc i pins s σ H E I hf st hg
  subst hP hw hK
  obtain⟨xs,hq,hx⟩:=hg
  obtain⟨its,rv,p,hz⟩:=I.list hq
  obtain⟨f0,f1,f2,f3,f4,f5⟩:=hf it (by simp)
  have hl:=rv.length
  exact wpAny_pyNext_list_end (I.ok.hd hc) st p.isList (by simp;omega) fun h' eb=>⟨rfl,I.turned (t':=s.toks) (fun b o hb e=>eb b o hb e) f0 f1 f3 f4 f5⟩
 self:=fun _ _ _ _ _ st h=>wpAny_pyIter_listiter st h
theorem IB {P:Program}{w:World}{K:PySem.W.Frag}{tg:Expr}(a it:Addr):IA P w K tg (Ni K a) [it] it (fun i h=>h.IsTupleIter it a i) where
 mem:=by simp
 obj:=fun i h st b hb=>by
  have e:b=it:=by simpa using hb
  subst e
  obtain⟨o,e,c,d⟩:=st
  exact⟨o,e,fun v z=>by rw[d]at z;cases z⟩
 keep:=fun i h h' st k=>st.at fun o e=>k it (by simp) o e
 item:=by
  intro X hP hw hK hc i pins s σ H E I hf st hg
  subst hP hw hK
  obtain⟨xs,x,hq,hx⟩:=hg
  obtain⟨its,rv,p,hz⟩:=I.tuple hq
  obtain⟨u,hu,ru⟩:=rv.get hx
  obtain⟨f0,f1,f2,f3,f4,f5⟩:=hf it (by simp)
  refine wpAny_pyNext_tuple_item st (show s.heap.IsTuple a its.toArray from p) (x:=u) (by simpa using hu) fun h' st' sb=>?_
  have I1:AZ X pins σ H { s with heap:=h' }:=I.turned (t':=s.toks) (fun b o hb e=>(sb.2 b hb).trans e) f0 f1 f3 f4 f5
  obtain⟨o,e,c,d⟩:=id st'
  exact⟨u,rfl,Iy (s:={ s with heap:=h' }) e c d (by decide) ⟨x,H,I1,ru,⟨rfl,fun ys hy=>by rw[I.tuple_inj hy hq];exact hx⟩,st',fun b hb=>(hf b hb).1⟩⟩
 done:=by
  intro X hP hw hK hc i pins s σ H E I hf st hg
  subst hP hw hK
  obtain⟨xs,hq,hx⟩:=hg
  obtain⟨its,rv,p,hz⟩:=I.tuple hq
  obtain⟨f0,f1,f2,f3,f4,f5⟩:=hf it (by simp)
  have hl:=rv.length
  exact wpAny_pyNext_tuple_end (I.ok.hd hc) st (show s.heap.IsTuple a its.toArray from p) (by simp;omega) fun h' eb=>⟨rfl,I.turned (t':=s.toks) (fun b o hb e=>eb b o hb e) f0 f1 f3 f4 f5⟩
 self:=fun _ _ _ _ _ st h=>wpAny_pyIter_tupleiter st h
theorem IC {P:Program}{w:World}{K:PySem.W.Frag}{tg:Expr}(it:Addr)(lo:Int)(n:Nat):IA P w K tg (Mg lo n) [it] it (fun i h=>IsRangeIter h it (lo+(i:Nat)*1) ((n:Int)-(i:Nat)) 1) where
 mem:=by simp
 obj:=fun i h st b hb=>by
  have e:b=it:=by simpa using hb
  subst e
  exact⟨_,st,fun v z=>by
   have z':Data.fields _=Data.cell v:=z
   cases z'⟩
 keep:=fun i h h' st k=>k it (by simp) _ st
 item:=by
  intro X hP hw hK hc i pins s σ H E I hf st hg
  subst hP hw hK
  obtain⟨f0,f1,f2,f3,f4,f5⟩:=hf it (by simp)
  have W:=Walks.range (prog:=X.prog) (w:=X.w) (I.ok.hd hc) it lo 1 n
  refine W.item i s _ _ hg st fun v h' tk hv st' kk=>?_
  obtain⟨t,rfl⟩:=hv
  have I1:AZ X pins σ H { s with heap:=h',toks:=tk }:=I.turned (fun b o hb e=>kk b o (by simpa using hb) e) f0 f1 f3 f4 f5
  refine⟨_,rfl,Iy (s:={ s with heap:=h',toks:=tk }) (n:="range_iterator") st' rfl rfl (by decide) ⟨.int (lo+i),H,I1,⟨t,?_⟩,⟨rfl,rfl⟩,st',fun b hb=>(hf b hb).1⟩⟩
  rw[Int.mul_one]
 done:=by
  intro X hP hw hK hc i pins s σ H E I hf st hg
  subst hP hw hK
  obtain⟨f0,f1,f2,f3,f4,f5⟩:=hf it (by simp)
  exact wpAny_pyNext_range_end (I.ok.hd hc) st (by have:n≤i:=hg;omega) fun h' eb=>⟨rfl,I.turned (t':=s.toks) (fun b o hb e=>eb b o hb e) f0 f1 f3 f4 f5⟩
 self:=fun _ _ _ _ _ st h=>wpAny_pyIter_rangeiter st h
section
variable {X:Cx}{tg:Expr}
def Nj (K:PySem.W.Frag)(tl:TE):TI:=fun σ H R=>tl σ H fun x H1=>∃ a,x=.ref a∧(∃ xs,Aq K H1 a xs)∧R (Nh K a) H1
def P3 (K:PySem.W.Frag)(tl:TE):TI:=fun σ H R=>tl σ H fun x H1=>∃ a,x=.ref a∧(∃ xs,Am K H1 a xs)∧R (Ni K a) H1
theorem Ch {l:Expr}{tl:TE}(hl:PE X l tl):PI X tg l (Nj X.K tl):=by
 intro pins s σ H R I h
 refine BJ (hl pins s σ H _ I h) fun v s1 zq=>?_
 obtain⟨x,H1,I1,r1,q1⟩:=zq
 obtain⟨a,e,⟨xs,hq⟩,q⟩:=q1
 subst e
 cases r1
 obtain⟨its,rv,p,hz⟩:=I1.list hq
 refine wpAny_pyIter_list p.isList ?_
 refine⟨s1.heap.objs.size,[s1.heap.objs.size],_,_,H1,rfl,I1.kept (t':=s1.toks) fun b o e=>Heap.get?_push_of_some _ e,Jd a _,⟨_,Heap.get?_push_size _ rfl,rfl,rfl⟩,fun b hb=>?_,q⟩
 have e:b=s1.heap.objs.size:=by simpa using hb
 subst e
 exact I1.fpOk (Nat.le_refl _) (I1.hok.fresh (Nat.le_refl _))
theorem GX {l:Expr}{tl:TE}(hl:PE X l tl):PI X tg l (P3 X.K tl):=by
 intro pins s σ H R I h
 refine BJ (hl pins s σ H _ I h) fun v s1 zq=>?_
 obtain⟨x,H1,I1,r1,q1⟩:=zq
 obtain⟨a,e,⟨xs,hq⟩,q⟩:=q1
 subst e
 cases r1
 obtain⟨its,rv,p,hz⟩:=I1.tuple hq
 refine wpAny_pyIter_tuple (show s1.heap.IsTuple a its.toArray from p) ?_
 refine⟨s1.heap.objs.size,[s1.heap.objs.size],_,_,H1,rfl,I1.kept (t':=s1.toks) fun b o e=>Heap.get?_push_of_some _ e,IB a _,⟨_,Heap.get?_push_size _ rfl,rfl,rfl⟩,fun b hb=>?_,q⟩
 have e:b=s1.heap.objs.size:=by simpa using hb
 subst e
 exact I1.fpOk (Nat.le_refl _) (I1.hok.fresh (Nat.le_refl _))
theorem KA {pins:List (Addr×Obj)}{σ:St}{H:Hp}{s:Shared}{R:It→Hp→Prop}{E:Value→Shared→Prop}{lo hi:Int}{t u v:Tok}{tk:Nat}(I:AZ X pins σ H s)(h1:-(2 ^ 62)≤lo)(h2:lo<2 ^ 62)(h3:-(2 ^ 62)≤hi)(h4:hi<2 ^ 62)
 (q:R (Mg lo (hi-lo).toNat) H):wpAny (model X.prog X.w) X.A (pyIter (.ref s.heap.objs.size)) (RA X pins σ tg R) E { s with heap:=s.heap.push { cls:=.type "range",data:=.fields #[.int lo t,.int hi u,.int 1 v] },toks:=tk }:=by
 refine wpAny_pyIter_range (IsRange.new ..) (small_one h1 h2 h3 h4) ?_
 have I1:AZ X pins σ H { s with heap:=s.heap.push { cls:=.type "range",data:=.fields #[.int lo t,.int hi u,.int 1 v] },toks:=tk }:=I.kept fun b o e=>Heap.get?_push_of_some _ e
 refine⟨(s.heap.push { cls:=.type "range",data:=.fields #[.int lo t,.int hi u,.int 1 v] }).objs.size,[(s.heap.push { cls:=.type "range",data:=.fields #[.int lo t,.int hi u,.int 1 v] }).objs.size],_,_,H,rfl,
  I1.kept (t':=tk) fun b o e=>Heap.get?_push_of_some _ e,IC _ lo (hi-lo).toNat,?_,fun b hb=>?_,q⟩
 ·have e1:lo+((0:Nat):Int)*1=lo:=by simp
  have e2:(((hi-lo).toNat:Nat):Int)-((0:Nat):Int)=Builtin.Range.rangeSize lo hi 1:=by rw[rangeSize_one];split <;> omega
  show IsRangeIter _ _ (lo+((0:Nat):Int)*1) ((((hi-lo).toNat:Nat):Int)-((0:Nat):Int)) 1
  rw[e1,e2]
  exact Heap.get?_push_size _ rfl
 ·have e:b=(s.heap.push { cls:=.type "range",data:=.fields #[.int lo t,.int hi u,.int 1 v] }).objs.size:=by simpa using hb
  subst e
  exact I1.fpOk (Nat.le_refl _) (I1.hok.fresh (Nat.le_refl _))
def Nk (ta:TA):TI:=fun σ H R=>ta σ H fun vs H1=>∃ j:Int,vs=[.int j]∧-(2 ^ 62)≤j∧j<2 ^ 62∧R (Mg 0 j.toNat) H1
def RB (ta:TA):TI:=fun σ H R=>ta σ H fun vs H1=>∃ i j:Int,vs=[.int i,.int j]∧(-(2 ^ 62)≤i∧i<2 ^ 62∧-(2 ^ 62)≤j∧j<2 ^ 62)∧R (Mg i (j-i).toNat) H1
theorem Je {a:Expr}{ta:TA}{p pos:Pos}(hg:Gl X "range")(hm:X.mg "range"=none)(ha:PA X [a] ta)(hs:starEach [a] X.env=[(false,eval a X.env)]:=by rfl):PI X tg (.Call (.Name "range" p) [a] [] pos) (Nk ta):=by
 intro pins s σ H R I h
 refine Call_ (DA I hg hm boot_range (PyProof.Rows.callWith_type1 (BJ (ha pos pins s σ H _ I h) fun us s1 zq=>?_) hs rfl))
 obtain⟨vs,H1,I1,r1,q1⟩:=zq
 obtain⟨j,e,q1,q2,q⟩:=q1
 subst e
 cases r1 with
 | cons r rr=>
  cases rr
  obtain⟨t,rfl⟩:=r
  exact call_range_1 (KA I1 (by omega) (by omega) q1 q2 (by simpa using q))
def P4 (wi:TI)(g:TG)(tb:TS):TS:=fun D σ H=>wi σ H fun J H1=>∃ W:Nat→Nat→St→Hp→Prop,(∃ m,W 0 m σ H1)∧∀ i m σ H,W i m σ H→
 (J.stop i H∧D.nx σ H)∨(J.go i H∧∃ N:St→Hp→Prop,(∀ σ' H',N σ' H'→∃ m',m'<m∧W (i+1) m' σ' H')∧∀ x H',J.yld i H x H'→g x σ H' fun σ2 H2=>tb { D with nx:=N,ct:=N,bk:=D.nx } σ2 H2)
def Ex (fp:List Addr)(h:Heap):List (Addr×Obj):=fp.filterMap fun b=>(h.get? b).map fun o=>(b,o)
theorem B4 {fp:List Addr}{h:Heap}{b:Addr}{o:Obj}(hb:b∈fp)(e:h.get? b=some o):(b,o)∈Ex fp h:=List.mem_filterMap.mpr ⟨b,hb,by rw[e];rfl⟩
theorem Jf {fp:List Addr}{h:Heap}{p:Addr×Obj}(hp:p∈Ex fp h):p.1∈fp∧h.get? p.1=some p.2:=by
 obtain⟨b,hb,e⟩:=List.mem_filterMap.mp hp
 cases q:h.get? b with
 | none=>rw[q]at e;cases e
 | some o=>
  rw[q]at e
  have e':(b,o)=p:=Option.some.inj e
  subst e'
  exact⟨hb,q⟩
theorem AZ.pinned {pins:List (Addr×Obj)}{σ:St}{H:Hp}{s:Shared}{fp:List Addr}(I:AZ X pins σ H s)(hf:∀ b∈fp,EL X pins H b)(ho:∀ b∈fp,∃ o,s.heap.get? b=some o∧∀ v,o.data≠.cell v):AZ X (pins++Ex fp s.heap) σ H s:=
 I.pins_of fun p hp=>(List.mem_append.mp hp).elim (fun z=>I.pin p (List.mem_append_right _ z)) fun z=>by
  obtain⟨hb,e⟩:=Jf z
  obtain⟨f0,f1,f2,_⟩:=hf p.1 hb
  obtain⟨o,e',d⟩:=ho p.1 hb
  rw[e]at e';cases e'
  exact⟨e,f0,f1,f2,d⟩
theorem AZ.unpinned {pins pl:List (Addr×Obj)}{σ:St}{H:Hp}{s:Shared}(I:AZ X (pins++pl) σ H s):AZ X pins σ H s:=I.pins_of fun p hp=>I.pin p (List.mem_append_right _ (List.mem_append_left _ hp))
theorem DV {iter:Expr}{body:List Stmt}{wi:TI}{g:TG}{tb:TS}{pos:Pos}(hp:PassesOwn (model X.prog X.w) X.A X.env X.xe)(hc:X.calm=true)(hi:PI X tg iter wi)(hg:PG X tg g)(hb:Hu X body tb)
 (hs:∀ x,foldedSetIterable iter X.env x=pure x:=by intro _;rfl):PS X (.For tg iter body [] pos) (P4 wi g tb):=by
 intro pins s σ H D I h
 refine wpAny_For (BJ (hi pins s σ H _ I h) fun v s1 h1=>BJ h1 fun itv s2 h2=>?_) hs
 obtain⟨it,fp,tn,J,H2,e,I2,T,st2,f2,W,⟨m0,w0⟩,turn⟩:=h2
 subst e
 have stat:∀{H':Hp},(∀ b∈fp,H' b=none)→∀ b∈fp,EL X pins H' b:=fun hn b hb=>⟨hn b hb,(f2 b hb).2⟩
 refine codeAny_forLoop_any (fun n s'=>∃ i σ' H',AZ X pins σ' H' s'∧tn i s'.heap∧(∀ b∈fp,H' b=none)∧W i n σ' H') ?_ m0 ⟨0,σ,H2,I2,st2,fun b hb=>(f2 b hb).1,w0⟩
 rintro n s3 ⟨i,σ3,H3,I3,st3,fr3,w3⟩
 rcases turn i n σ3 H3 w3 with⟨stop,qn⟩ | ⟨go,N,hN,step⟩
 ·refine wpAny_passesOwn hp (BJ (T.done X rfl rfl rfl hc i pins s3 σ3 H3 X.xe I3 (stat fr3) st3 stop) fun r s4 zq=>?_)
  obtain⟨hr,I4⟩:=zq
  subst hr
  exact wpAny_execs_nil ⟨σ3,H3,I4,qn⟩
 ·refine wpAny_passesOwn hp (BJ (T.item X rfl rfl rfl hc i pins s3 σ3 H3 X.xe I3 (stat fr3) st3 go) fun r s4 zq=>?_)
  obtain⟨u,hr,h4⟩:=zq
  subst hr
  refine wpAny_passesOwn hp (BJ h4 fun _ s5 zq=>?_)
  obtain⟨x,H5,I5,r5,y5,st5,fr5⟩:=zq
  have I5':=I5.pinned (stat fr5) (T.obj _ _ st5)
  refine wpAny_passesOwn hp (BJ (hg _ s5 σ3 H5 x u _ I5' r5 (step x H5 y5)) fun _ s6 zq=>?_)
  obtain⟨σ6,H6,I6,q6⟩:=zq
  refine wpAny_passesOwn hp (BJ (hb _ s6 σ6 H6 _ I6 q6) fun f s7 q7=>?_)
  have again:∀{σ7:St} {H7:Hp},AZ X (pins++Ex fp s5.heap) σ7 H7 s7→N σ7 H7→∃ m,m<n∧∃ i σ' H',AZ X pins σ' H' s7∧tn i s7.heap∧(∀ b∈fp,H' b=none)∧W i m σ' H':=fun {σ7 H7} I7 n7=>by
   obtain⟨m',hm,w7⟩:=hN σ7 H7 n7
   refine⟨m',hm,i+1,σ7,H7,I7.unpinned,T.keep _ _ _ st5 fun b hb o e=>(I7.pin (b,o) (List.mem_append_right _ (List.mem_append_right _ (B4 hb e)))).1,fun b hb=>?_,w7⟩
   obtain⟨o,e,d⟩:=T.obj _ _ st5 b hb
   exact(I7.pin (b,o) (List.mem_append_right _ (List.mem_append_right _ (B4 hb e)))).2.1
  cases f with
  | next=>obtain⟨σ7,H7,I7,n7⟩:=q7;exact again I7 n7
  | cont=>obtain⟨σ7,H7,I7,n7⟩:=q7;exact again I7 n7
  | brk=>obtain⟨σ7,H7,I7,q7⟩:=q7;exact⟨σ7,H7,I7.unpinned,q7⟩
  | ret v=>obtain⟨x7,σ7,H7,I7,r7,q7⟩:=q7;exact⟨x7,σ7,H7,I7.unpinned,r7,q7⟩
end
theorem Fp {K:PySem.W.Frag}{a:Addr}{xs:List V}{g:TG}{tb:TS}{D:F6}{σ:St}{H:Hp}(Pv:Nat→St→Hp→Prop)(h0:Pv 0 σ H)(hl:∀ i σ H,i≤xs.length→Pv i σ H→Aq K H a xs)
 (hs:∀ i x σ H,xs[i]?=some x→Pv i σ H→g x σ H fun σ2 H2=>tb { D with nx:=Pv (i+1),ct:=Pv (i+1),bk:=D.nx } σ2 H2) (hd:∀ σ H,Pv xs.length σ H→D.nx σ H):
 ∃ W:Nat→Nat→St→Hp→Prop,(∃ m,W 0 m σ H)∧∀ i m σ H,W i m σ H→
  ((Nh K a).stop i H∧D.nx σ H)∨((Nh K a).go i H∧∃ N:St→Hp→Prop,(∀ σ' H',N σ' H'→∃ m',m'<m∧W (i+1) m' σ' H')∧∀ x H',(Nh K a).yld i H x H'→g x σ H' fun σ2 H2=>tb { D with nx:=N,ct:=N,bk:=D.nx } σ2 H2):=by
 refine⟨fun i m σ H=>m=xs.length-i∧i≤xs.length∧Pv i σ H,⟨xs.length,by simp,Nat.zero_le _,h0⟩,?_⟩
 rintro i m σ H ⟨rfl,hi,p⟩
 have q:=hl i σ H hi p
 by_cases hlt:i<xs.length
 ·refine .inr ⟨⟨xs,xs[i],q,by simp[hlt]⟩,Pv (i+1),fun σ' H' p'=>⟨xs.length-(i+1),by omega,rfl,hlt,p'⟩,fun x H' y=>?_⟩
  obtain⟨e,y⟩:=y
  subst e
  exact hs i x σ _ (y xs q) p
 ·have e:i=xs.length:=by omega
  subst e
  exact .inl ⟨⟨xs,q,Nat.le_refl _⟩,hd σ H p⟩
theorem GY {K:PySem.W.Frag}{a:Addr}{xs:List V}{g:TG}{tb:TS}{D:F6}{σ:St}{H:Hp}(Pv:Nat→St→Hp→Prop)(h0:Pv 0 σ H)(hl:∀ i σ H,i≤xs.length→Pv i σ H→Am K H a xs)
 (hs:∀ i x σ H,xs[i]?=some x→Pv i σ H→g x σ H fun σ2 H2=>tb { D with nx:=Pv (i+1),ct:=Pv (i+1),bk:=D.nx } σ2 H2) (hd:∀ σ H,Pv xs.length σ H→D.nx σ H):
 ∃ W:Nat→Nat→St→Hp→Prop,(∃ m,W 0 m σ H)∧∀ i m σ H,W i m σ H→
  ((Ni K a).stop i H∧D.nx σ H)∨((Ni K a).go i H∧∃ N:St→Hp→Prop,(∀ σ' H',N σ' H'→∃ m',m'<m∧W (i+1) m' σ' H')∧∀ x H',(Ni K a).yld i H x H'→g x σ H' fun σ2 H2=>tb { D with nx:=N,ct:=N,bk:=D.nx } σ2 H2):=by
 refine⟨fun i m σ H=>m=xs.length-i∧i≤xs.length∧Pv i σ H,⟨xs.length,by simp,Nat.zero_le _,h0⟩,?_⟩
 rintro i m σ H ⟨rfl,hi,p⟩
 have q:=hl i σ H hi p
 by_cases hlt:i<xs.length
 ·refine .inr ⟨⟨xs,xs[i],q,by simp[hlt]⟩,Pv (i+1),fun σ' H' p'=>⟨xs.length-(i+1),by omega,rfl,hlt,p'⟩,fun x H' y=>?_⟩
  obtain⟨e,y⟩:=y
  subst e
  exact hs i x σ _ (y xs q) p
 ·have e:i=xs.length:=by omega
  subst e
  exact .inl ⟨⟨xs,q,Nat.le_refl _⟩,hd σ H p⟩
theorem Jg {lo:Int}{n:Nat}{g:TG}{tb:TS}{D:F6}{σ:St}{H:Hp}(Pv:Nat→St→Hp→Prop)(h0:Pv 0 σ H)
 (hs:∀ i σ H,i<n→Pv i σ H→g (.int (lo+i)) σ H fun σ2 H2=>tb { D with nx:=Pv (i+1),ct:=Pv (i+1),bk:=D.nx } σ2 H2) (hd:∀ σ H,Pv n σ H→D.nx σ H):
 ∃ W:Nat→Nat→St→Hp→Prop,(∃ m,W 0 m σ H)∧∀ i m σ H,W i m σ H→
  ((Mg lo n).stop i H∧D.nx σ H)∨((Mg lo n).go i H∧∃ N:St→Hp→Prop,(∀ σ' H',N σ' H'→∃ m',m'<m∧W (i+1) m' σ' H')∧∀ x H',(Mg lo n).yld i H x H'→g x σ H' fun σ2 H2=>tb { D with nx:=N,ct:=N,bk:=D.nx } σ2 H2):=by
 refine⟨fun i m σ H=>m=n-i∧i≤n∧Pv i σ H,⟨n,by simp,Nat.zero_le _,h0⟩,?_⟩
 rintro i m σ H ⟨rfl,hi,p⟩
 by_cases hlt:i<n
 ·refine .inr ⟨hlt,Pv (i+1),fun σ' H' p'=>⟨n-(i+1),by omega,rfl,hlt,p'⟩,fun x H' y=>?_⟩
  obtain⟨e,y⟩:=y
  subst e y
  exact hs i σ _ hlt p
 ·have e:i=n:=by omega
  subst e
  exact .inl ⟨Nat.le_refl _,hd σ H p⟩
abbrev R2:=V→V→Hp→VK→Prop
def EM (X:Cx)(f:Value→Value→Sem Value)(r:R2):Prop:=
 ∀(pins:List (Addr×Obj)) (s:Shared) (σ:St) (H:Hp) (x y:V) (v u:Value) (Q:VK),AZ X pins σ H s→Aj x v→Aj y u→r x y H Q→
  wpAny (model X.prog X.w) X.A (f v u) (EP X pins σ Q) X.xe s
def TU (X:Cx)(f:Value→Sem Value)(r:V→Hp→VK→Prop):Prop:=
 ∀(pins:List (Addr×Obj)) (s:Shared) (σ:St) (H:Hp) (x:V) (v:Value) (Q:VK),AZ X pins σ H s→Aj x v→r x H Q→
  wpAny (model X.prog X.w) X.A (f v) (EP X pins σ Q) X.xe s
def CU (X:Cx)(f:Value)(r:List V→Hp→VK→Prop):Prop:=
 ∀(pins:List (Addr×Obj)) (s:Shared) (σ:St) (H:Hp) (xs:List V) (us:List Value) (Q:VK),AZ X pins σ H s→Ag xs us→r xs H Q→
  wpAny (model X.prog X.w) X.A (call f us) (EP X pins σ Q) X.xe s
def SE (X:Cx)(r:V→Hp→(Bool→Hp→Prop)→Prop):Prop:=
 ∀(pins:List (Addr×Obj)) (s:Shared) (σ:St) (H:Hp) (x:V) (v:Value) (Q:Bool→Hp→Prop),AZ X pins σ H s→Aj x v→r x H Q→
  wpAny (model X.prog X.w) X.A (truthy v) (TP X pins σ Q) X.xe s
def Nl (r:R2)(ta tb:TE):TE:=fun σ H Q=>ta σ H fun x H1=>tb σ H1 fun y H2=>r x y H2 Q
def TV (r:V→Hp→VK→Prop)(ta:TE):TE:=fun σ H Q=>ta σ H fun x H1=>r x H1 Q
def rI (C:Int→Int→Prop)(g:Int→Int→V):R2:=fun x y H Q=>∃ i j,x=.int i∧y=.int j∧C i j∧Q (g i j) H
def MB (g:Int→Int→V):R2:=fun x y H Q=>∃ i j,x=.int i∧y=.int j∧Q (g i j) H
def rU (g:Int→V):V→Hp→VK→Prop:=fun x H Q=>∃ i,x=.int i∧Q (g i) H
section
variable {X:Cx}{a b c:Expr}{ta tb tc:TE}{pos:Pos}
theorem Mh (ha:PE X a ta)(hb:PE X b tb){pins:List (Addr×Obj)}{s:Shared}{σ:St}{H:Hp}{R:V→V→Hp→Prop}(I:AZ X pins σ H s)
 (h:ta σ H fun x H1=>tb σ H1 fun y H2=>R x y H2) {Q:Value→Shared→Prop} {f:Value→Value→Sem Value}
 (hf:∀ v u s2 x y H2,AZ X pins σ H2 s2→Aj x v→Aj y u→R x y H2→wpAny (model X.prog X.w) X.A (f v u) Q X.xe s2):
 wpAny (model X.prog X.w) X.A (eval a X.env) (fun v s₁=>wpAny (model X.prog X.w) X.A (eval b X.env) (fun u s₂=>wpAny (model X.prog X.w) X.A (f v u) Q X.xe s₂) X.xe s₁) X.xe s:=by
 refine BJ (ha pins s σ H _ I h) fun v s1 zq=>?_
 obtain⟨x,H1,I1,r1,q1⟩:=zq
 refine BJ (hb pins s1 σ H1 _ I1 q1) fun u s2 zq=>?_
 obtain⟨y,H2,I2,r2,q2⟩:=zq
 exact hf v u s2 x y H2 I2 r1 r2 q2
theorem Av {op:Operator}{r:R2}(ho:EM X (binaryOp op) r)(ha:PE X a ta)(hb:PE X b tb):PE X (.BinOp a op b pos) (Nl r ta tb):=by
 intro pins s σ H Q I h
 exact wpAny_BinOp (Mh ha hb I h fun v u s2 x y H2 I2 rx ry q=>ho pins s2 σ H2 x y v u Q I2 rx ry q)
theorem ID {f:Value→Value→Sem Value}{C:Int→Int→Prop}{g:Int→Int→Int}
 (rule:∀(i j:Int) (t u:Tok) (s:Shared) (Q:Value→Shared→Prop) (E:Value→Shared→Prop),C i j→Q (.int (g i j) s.toks) { s with toks:=s.toks+1 }→wpAny (model X.prog X.w) X.A (f (.int i t) (.int j u)) Q E s):
 EM X f (rI C fun i j=>.int (g i j)):=by
 intro pins s σ H x y v u Q I rx ry h
 obtain⟨i,j,rfl,rfl,hc,q⟩:=h
 obtain⟨t,rfl⟩:=rx
 obtain⟨t',rfl⟩:=ry
 exact rule i j t t' s _ _ hc ⟨.int (g i j),H,I.tok _,⟨_,rfl⟩,q⟩
theorem Nn {f:Value→Value→Sem Value}{g:Int→Int→Int}
 (rule:∀(i j:Int) (t u:Tok) (s:Shared) (Q:Value→Shared→Prop) (E:Value→Shared→Prop),Q (.int (g i j) s.toks) { s with toks:=s.toks+1 }→wpAny (model X.prog X.w) X.A (f (.int i t) (.int j u)) Q E s):
 EM X f (MB fun i j=>.int (g i j)):=by
 intro pins s σ H x y v u Q I rx ry h
 obtain⟨i,j,rfl,rfl,q⟩:=h
 obtain⟨t,rfl⟩:=rx
 obtain⟨t',rfl⟩:=ry
 exact rule i j t t' s _ _ ⟨.int (g i j),H,I.tok _,⟨_,rfl⟩,q⟩
theorem Mi {f:Value→Value→Sem Value}{g:Int→Int→Bool}
 (rule:∀(i j:Int) (t u:Tok) (s:Shared) (Q:Value→Shared→Prop) (E:Value→Shared→Prop),Q (.bool (g i j)) s→wpAny (model X.prog X.w) X.A (f (.int i t) (.int j u)) Q E s):
 EM X f (MB fun i j=>.bl (g i j)):=by
 intro pins s σ H x y v u Q I rx ry h
 obtain⟨i,j,rfl,rfl,q⟩:=h
 obtain⟨t,rfl⟩:=rx
 obtain⟨t',rfl⟩:=ry
 exact rule i j t t' s _ _ ⟨.bl (g i j),H,I,rfl,q⟩
def P5 (i j:Int):Prop:=0<j∧j<1073741824
def RC (i j:Int):Prop:=j≠0∧j.natAbs<1073741824
def P6 (i j:Int):Prop:=0≤j∧j≤1000000∧i.natAbs<2 ^ 64
def No (i j:Int):Prop:=(-(2 ^ 64)<i∧i<2 ^ 64)∨(-(2 ^ 64)<j∧j<2 ^ 64)
theorem No.ok {i j:Int}(h:No i j):IntMulOk i j:=by
 rcases h with⟨h1,h2⟩ | ⟨h1,h2⟩
 ·exact .of_left (intBits_le_64 h1 h2)
 ·exact .of_right (intBits_le_64 h1 h2)
theorem Bt:EM X (binaryOp .Add) (MB fun i j=>.int (i+j)):=Nn fun _ _ _ _ _ _ _ q=>add_int q
theorem IE:EM X (binaryOp .Sub) (MB fun i j=>.int (i-j)):=Nn fun _ _ _ _ _ _ _ q=>sub_int q
theorem Ff:EM X (binaryOp .FloorDiv) (rI P5 fun i j=>.int (i / j)):=ID fun i j _ _ _ _ _ hc q=>by
 have h1:(0:Int)<j:=hc.1
 have h2:j<1073741824:=hc.2
 exact floordiv_int (by omega) (by rw[Int.fdiv_eq_ediv_of_nonneg i (by omega)];exact q) (.inl (PyProof.noPylong_small (by omega)))
theorem Cn:EM X (binaryOp .Mod) (rI (fun _ j=>0<j) fun i j=>.int (i%j)):=ID fun i j _ _ _ _ _ hc q=>by
 have h1:(0:Int)<j:=hc
 exact mod_int' (by omega) (by rw[Int.fmod_eq_emod_of_nonneg i (by omega)];exact q)
end
def Np:V→V→Bool
 | .non,.non=>true | .non,.int _=>true | .int _,.non=>true | .non,.bl _=>true | .bl _,.non=>true | .non,.str _=>true | .str _,.non=>true
 | .int _,.int _=>true | .bl _,.bl _=>true | .str _,.str _=>true | .byt _,.byt _=>true
 | .int _,.str _=>true | .str _,.int _=>true | .bl _,.str _=>true | .str _,.bl _=>true
 | _,_=>false
def SF:R2:=fun x y H Q=>Np x y=true∧Q (.bl (decide (x=y))) H
def SG:R2:=fun x y H Q=>Np x y=true∧Q (.bl (!decide (x=y))) H
theorem Iz {i j:Int}:decide (V.int i=V.int j)=(i==j):=by
 rw[Bool.eq_iff_iff]
 simp
theorem KB {i j:Bool}:decide (V.bl i=V.bl j)=(i==j):=by
 rw[Bool.eq_iff_iff]
 simp
theorem I0 {i j:Str}:decide (V.str i=V.str j)=(i==j):=by
 rw[Bool.eq_iff_iff]
 simp
theorem JA {i j:Array UInt8}:decide (V.byt i=V.byt j)=(i.toList==j.toList):=by
 rw[Bool.eq_iff_iff]
 cases i
 cases j
 simp
section
variable {X:Cx}{a b c:Expr}{ta tb tc:TE}{pos:Pos}
theorem As {pins:List (Addr×Obj)}{σ:St}{H:Hp}{s:Shared}{Q:VK}{k k':Bool}(I:AZ X pins σ H s)(q:Q (.bl k) H)(e:k=k'):EP X pins σ Q (.bool k') s:=by
 subst e
 exact⟨.bl k,H,I,rfl,q⟩
theorem At:EM X (compareOp .Eq) SF:=by
 intro pins s σ H x y v u Q I rx ry h
 obtain⟨hs,q⟩:=h
 cases x with
 | non=>
  cases rx
  cases y with
  | non=>cases ry;exact PySem.EqNone.eq_none_none (As I q (by simp))
  | bl j=>cases ry;exact PySem.EqNone.eq_none_bool (As I q (by simp))
  | int j=>obtain⟨t',rfl⟩:=ry;exact PySem.EqNone.eq_none_int (As I q (by simp))
  | str j=>obtain⟨t',rfl⟩:=ry;exact PySem.EqNone.eq_none_str (As I q (by simp))
  | _=>exact absurd (show false=true from hs) Bool.false_ne_true
 | bl i=>
  cases rx
  cases y with
  | non=>cases ry;exact PySem.EqNone.eq_bool_none (As I q (by simp))
  | bl j=>cases ry;exact eq_bool (As I q KB)
  | str j=>obtain⟨t',rfl⟩:=ry;exact PySem.EqMixed.eq_bool_str (As I q (by simp))
  | _=>exact absurd (show false=true from hs) Bool.false_ne_true
 | int i=>
  obtain⟨t,rfl⟩:=rx
  cases y with
  | non=>cases ry;exact PySem.EqNone.eq_int_none (As I q (by simp))
  | int j=>obtain⟨t',rfl⟩:=ry;exact eq_int (As I q Iz)
  | str j=>obtain⟨t',rfl⟩:=ry;exact PySem.EqMixed.eq_int_str (As I q (by simp))
  | _=>exact absurd (show false=true from hs) Bool.false_ne_true
 | str i=>
  obtain⟨t,rfl⟩:=rx
  cases y with
  | non=>cases ry;exact PySem.EqNone.eq_str_none (As I q (by simp))
  | bl j=>cases ry;exact PySem.EqMixed.eq_str_bool (As I q (by simp))
  | int j=>obtain⟨t',rfl⟩:=ry;exact PySem.EqMixed.eq_str_int (As I q (by simp))
  | str j=>obtain⟨t',rfl⟩:=ry;exact eq_str (As I q I0)
  | _=>exact absurd (show false=true from hs) Bool.false_ne_true
 | byt i=>
  obtain⟨t,rfl⟩:=rx
  cases y with
  | byt j=>obtain⟨t',rfl⟩:=ry;exact PySem.W.eq_bytes (As I q JA)
  | _=>exact absurd (show false=true from hs) Bool.false_ne_true
 | _=>cases y <;> exact absurd (show false=true from hs) Bool.false_ne_true
theorem KC:EM X (compareOp .NotEq) SG:=by
 intro pins s σ H x y v u Q I rx ry h
 obtain⟨hs,q⟩:=h
 cases x with
 | non=>
  cases rx
  cases y with
  | non=>cases ry;exact PySem.EqNone.ne_none_none (As I q (by simp))
  | bl j=>cases ry;exact PySem.EqNone.ne_none_bool (As I q (by simp))
  | int j=>obtain⟨t',rfl⟩:=ry;exact PySem.EqNone.ne_none_int (As I q (by simp))
  | str j=>obtain⟨t',rfl⟩:=ry;exact PySem.EqNone.ne_none_str (As I q (by simp))
  | _=>exact absurd (show false=true from hs) Bool.false_ne_true
 | bl i=>
  cases rx
  cases y with
  | non=>cases ry;exact PySem.EqNone.ne_bool_none (As I q (by simp))
  | bl j=>cases ry;exact ne_bool (As I q (congrArg not KB))
  | str j=>obtain⟨t',rfl⟩:=ry;exact PySem.EqMixed.ne_bool_str (As I q (by simp))
  | _=>exact absurd (show false=true from hs) Bool.false_ne_true
 | int i=>
  obtain⟨t,rfl⟩:=rx
  cases y with
  | non=>cases ry;exact PySem.EqNone.ne_int_none (As I q (by simp))
  | int j=>obtain⟨t',rfl⟩:=ry;exact ne_int (As I q (congrArg not Iz))
  | str j=>obtain⟨t',rfl⟩:=ry;exact PySem.EqMixed.ne_int_str (As I q (by simp))
  | _=>exact absurd (show false=true from hs) Bool.false_ne_true
 | str i=>
  obtain⟨t,rfl⟩:=rx
  cases y with
  | non=>cases ry;exact PySem.EqNone.ne_str_none (As I q (by simp))
  | bl j=>cases ry;exact PySem.EqMixed.ne_str_bool (As I q (by simp))
  | int j=>obtain⟨t',rfl⟩:=ry;exact PySem.EqMixed.ne_str_int (As I q (by simp))
  | str j=>obtain⟨t',rfl⟩:=ry;exact ne_str (As I q (congrArg not I0))
  | _=>exact absurd (show false=true from hs) Bool.false_ne_true
 | byt i=>
  obtain⟨t,rfl⟩:=rx
  cases y with
  | byt j=>obtain⟨t',rfl⟩:=ry;exact PySem.W.ne_bytes (As I q (congrArg not JA))
  | _=>exact absurd (show false=true from hs) Bool.false_ne_true
 | _=>cases y <;> exact absurd (show false=true from hs) Bool.false_ne_true
theorem DW:EM X (compareOp .Lt) (MB fun i j=>.bl (decide (i<j))):=Mi fun _ _ _ _ _ _ _ q=>lt_int q
theorem JB:EM X (compareOp .LtE) (MB fun i j=>.bl (decide (i≤j))):=Mi fun _ _ _ _ _ _ _ q=>le_int q
theorem KD:EM X (compareOp .Gt) (MB fun i j=>.bl (decide (j<i))):=Mi fun _ _ _ _ _ _ _ q=>gt_int q
theorem Jh:EM X (compareOp .In) (fun x y H Q=>∃ i j,x=.str i∧y=.str j∧Q (.bl (!(Builtin.Str.occurrences j i 0 j.length 1).isEmpty)) H):=by
 intro pins s σ H x y v u Q I rx ry h
 obtain⟨i,j,rfl,rfl,q⟩:=h
 obtain⟨t,rfl⟩:=rx
 obtain⟨t',rfl⟩:=ry
 exact in_str (As I q rfl)
theorem DC:EM X (compareOp .Is) (fun x y H Q=>y=.non∧Q (.bl (decide (x=.non))) H):=by
 intro pins s σ H x y v u Q I rx ry h
 obtain⟨rfl,q⟩:=h
 cases ry
 refine is_none_gen (As I q ?_)
 cases x <;> first
  | (cases rx;rfl)
  | (obtain⟨t,rfl⟩:=rx;rfl)
def RD:HO→Bool
 | .lst _=>true
 | .ins _ _ _=>true
 | _=>false
theorem EM.or {f:Value→Value→Sem Value}{r r':R2}(h:EM X f r)(h':EM X f r'):EM X f (fun x y H Q=>r x y H Q∨r' x y H Q):=by
 intro pins s σ H x y v u Q I rx ry q
 rcases q with q | q
 ·exact h pins s σ H x y v u Q I rx ry q
 ·exact h' pins s σ H x y v u Q I rx ry q
theorem AR (b:Expr){op:CmpOp}(h:op≠.In:=by decide)(h2:op≠.NotIn:=by decide):behindInMarks op b=false:=by
 have e1:(op==CmpOp.In)=false:=by cases op <;> first | rfl | exact absurd rfl h
 have e2:(op==CmpOp.NotIn)=false:=by cases op <;> first | rfl | exact absurd rfl h2
 cases b <;> simp[behindInMarks,e1,e2]
theorem A4 {op:CmpOp}{r:R2}(ho:EM X (compareOp op) r)(ha:PE X a ta)(hb:PE X b tb)(hm:behindInMarks op b=false):PE X (.Compare a [op] [b] pos) (Nl r ta tb):=by
 intro pins s σ H Q I h
 exact wpAny_Compare1 (Mh ha hb I h fun v u s2 x y H2 I2 rx ry q=>ho pins s2 σ H2 x y v u Q I2 rx ry q) hm
def Nq (t:TE):TT:=fun σ H Q=>t σ H fun x H'=>∃ k,x=.bl k∧Q k H'
theorem AO {op:CmpOp}{r:R2}(ho:EM X (compareOp op) r)(ha:PE X a ta)(hb:PE X b tb)(hm:behindInMarks op b=false):PT X (.Compare a [op] [b] pos) (Nq (Nl r ta tb)):=by
 intro pins s σ H Q I h
 refine wpAny_isTrue_Compare1 (BJ (ha pins s σ H _ I h) fun v s1 ⟨x,H1,I1,r1,q1⟩=>BJ (hb pins s1 σ H1 _ I1 q1) fun u s2 ⟨y,H2,I2,r2,q2⟩=>
  BJ (ho pins s2 σ H2 x y v u _ I2 r1 r2 q2) fun c s3 ⟨z,H3,I3,r3,k,e,q3⟩=>?_) hm
 subst e
 cases r3
 exact wpAny_truthy_bool ⟨H3,I3,q3⟩
def P7 (r r':R2)(ta tb tc:TE):TE:=fun σ H Q=>ta σ H fun x H1=>tb σ H1 fun y H2=>r x y H2 fun z H3=>∃ k,z=.bl k∧
 (if k=true then tc σ H3 fun w' H4=>r' y w' H4 Q else Q (.bl false) H3)
def SH (K:PySem.W.Frag)(x:V)(H:Hp)(k:Bool):Prop:=
 match x with
 | .non=>k=false
 | .bl b=>k=b
 | .int i=>k=(i != 0)
 | .str y=>y.length≤sizeLine∧k=((y.length:Int) != 0)
 | .byt y=>y.size≤sizeLine∧k=((y.size:Int) != 0)
 | .ref p=>(∃ xs,Aq K H p xs∧k=!xs.isEmpty)∨(∃ xs,Am K H p xs∧k=!xs.isEmpty)∨∃ kvs,H p=some (.dK kvs)∧k=!kvs.isEmpty
 | _=>False
theorem Ey:(sizeLine:Nat)<2 ^ 63:=by rw[sizeLine_eq];decide
def Nr (b:Expr):Prop:=∀ o i,subscripted b false o i=operate [o,i] (getItem o i)
theorem HH {x:V}{us:List Value}(r:Ag [x] us):∃ u,us=[u]∧Aj x u:=by
 cases r with
 | cons r1 r2=>cases r2;exact⟨_,rfl,r1⟩
theorem KE {x y:V}{us:List Value}(r:Ag [x,y] us):∃ u w',us=[u,w']∧Aj x u∧Aj y w':=by
 cases r with
 | cons r1 r2=>
  cases r2 with
  | cons r3 r4=>cases r4;exact⟨_,_,rfl,r1,r3⟩
theorem GI (hc:X.calm=true):CU X (.builtin "min") (fun xs H Q=>∃ i j,xs=[.int i,.int j]∧Q (.int (if j<i then j else i)) H):=by
 intro pins s σ H xs us Q I r h
 obtain⟨i,j,rfl,q⟩:=h
 obtain⟨u,w',rfl,⟨t,rfl⟩,⟨t',rfl⟩⟩:=KE r
 refine min_two_ints (I.ok.hd hc) fun h' tk k=>⟨_,H,I.kept k,?_,q⟩
 by_cases hj:j<i
 ·rw[if_pos hj,if_pos hj];exact⟨_,rfl⟩
 ·rw[if_neg hj,if_neg hj];exact⟨_,rfl⟩
def SI (K:PySem.W.Frag)(x:V)(H:Hp)(n:Nat):Prop:=
 match x with
 | .str y=>y.length≤sizeLine∧n=y.length
 | .byt y=>y.size≤sizeLine∧n=y.size
 | .ref p=>(∃ xs,Aq K H p xs∧n=xs.length)∨∃ xs,Am K H p xs∧n=xs.length
 | _=>False
end
structure IF (h:Heap)(x dx C:Addr)(mA:Str→Option Value):Prop where
 obj:h.get? x=some (PySem.W.instObj C dx)
 ns:h.Ns1 dx mA
 ne:dx≠x
theorem Ji {h:Heap}{dx:Addr}{mA:Str→Option Value}(n:h.Ns1 dx mA):∃ od,h.get? dx=some od∧∀ name,PySem.W.lookIn name od=some (mA name):=by
 obtain⟨o,es,ep,ho,hd,hk,_,hm⟩:=n
 refine⟨o,ho,fun name=>?_⟩
 have e:=hm name
 unfold nsFind findBy at e
 rw[← Array.find?_toList]at e
 unfold PySem.W.lookIn
 rw[hd]
 dsimp only
 split
 ·rename_i y q
  rw[q]at e
  exact congrArg some e
 ·rename_i q
  rw[q]at e
  have a:es.toList.any (·.refKey)=false:=by
   rw[List.any_eq_false]
   intro y hy
   obtain⟨z,t,hkey⟩:=hk y (Array.mem_toList_iff.mp hy)
   simp[DictEntry.refKey,hkey]
  have a':¬ es.toList.any (·.refKey)=true:=by rw[a];exact Bool.false_ne_true
  rw[if_neg a']
  exact congrArg some e
theorem IF.look {h:Heap}{x dx C:Addr}{mA:Str→Option Value}(I:IF h x dx C mA):∃ od,PySem.W.InstAt h x (PySem.W.instObj C dx) C (some od)∧∀ name,PySem.W.lookIn name od=some (mA name):=
 let ⟨od,ho,hl⟩:=Ji I.ns
 ⟨od,⟨I.obj,rfl,rfl,ho⟩,hl⟩
section
variable {prog:Program}{w:World}{A:Around}{E:Value→Shared→Prop}{s:Shared}{K:PySem.W.Frag}{x dx C f:Addr}{mA:Str→Option Value}{name:Str}{v:Value}
theorem LL {expr:Bool}{Q:Value→Shared→Prop}(X:K.In s.heap)(I:IF s.heap x dx C mA)(hg:PySem.W.plainGet K C name=true)(hh:PySem.W.hasDictIn K C=true)
 (ha:PySem.W.findIn K (.ref C) name=some none) (hv:mA name=some v) (hv':PySem.W.handedIn v=true) (h:Q v { s with toks:=s.toks+1 }):
 wpAny (model prog w) A (getAttr (.ref x) name expr) Q E s:=by
 obtain⟨od,J,hl⟩:=I.look
 exact PySem.W.get_value X J (PySem.W.plainGet_of hg).1 (PySem.W.findObj_own hh ha rfl (by rw[hl,hv])) hv' h
theorem KF {pl:Sem Bool}{Q:Value×List Value→Shared→Prop}(X:K.In s.heap)(I:IF s.heap x dx C mA)(hg:PySem.W.plainGet K C name=true)
 (hf:PySem.W.findIn K (.ref C) name=some (some (.ref f))) (ht:PySem.W.isFn K (.ref f)=true) (hv:mA name=none) (h:Q (.ref f,[.ref x]) s):
 wpAny (model prog w) A (getMethod (.ref x) name pl) Q E s:=by
 obtain⟨od,J,hl⟩:=I.look
 exact PySem.W.method_fn X J (PySem.W.plainGet_of hg).1 (PySem.W.plainGet_of hg).2 hf (beq_iff_eq.mp ht) (by show(PySem.W.lookIn name od).map (·.isSome)=some false;rw[hl,hv];rfl) h
theorem LM {ns:List Str}{Q:Unit→Shared→Prop}(X:K.In s.heap)(I:IF s.heap x dx C mA)
 (hs:PySem.W.findIn K (.ref C) "__setattr__"=some (some (.builtin "object.__setattr__"))) (hp:PySem.W.plainOver K C=true) (ht:PySem.W.takerIn K C name=some none) (hh:PySem.W.hasDictIn K C=true)
 (hw:PySem.Within mA ns) (hsz:ns.length≤sizeLine)
 (h:∀ h',IF h' x dx C (fun y=>if y=name then some v else mA y)→Heap.SameBut dx s.heap h'→Q () { s with heap:=h',toks:=s.toks+2 }):
 wpAny (model prog w) A (setAttr (.ref x) name v) Q E s:=by
 obtain⟨od,J,hl⟩:=I.look
 refine PySem.W.set_plain X J hs (PySem.W.osa_open (s:={ s with toks:=s.toks+1 }) (r:=none) X J hp ht fun b=>?_)
 obtain⟨cd,hc,hd'⟩:=PySem.W.any_some hh
 have hx:s.heap.get? x=some ⟨.ref C,some dx,.plain,#[]⟩:=I.obj
 refine wpAny_bind (wpAny_pure (wpAny_bind (wpAny_bind (wpAny_loadPart hx (wpAny_bind (PySem.W.Looks.here (s:={ s with toks:=s.toks+1 }) (PySem.W.looks_clsIn X hc) ?_))))))
 rw[hd']
 refine wpAny_pure (a:=some dx) (wpAny_bind (wpAny_pure (wpAny_bind ?_)))
 refine wpAny_nsSet1 (s:={ s with toks:=s.toks+1 }) I.ns fun h' hn2 hs2=>?_
 obtain⟨oD,esD,epD,hoD,hdD,hcD⟩:=hn2.count (PySem.Within.cons name v hw)
 refine wpAny_bind (wpAny_lookBehind hoD (by rw[hdD];exact pastItsLine_dict (Nat.le_trans hcD (by rw[List.length_cons];omega))) ?_)
 exact wpAny_pure (h _ ⟨(hs2.2 _ (Ne.symm I.ne)).trans I.obj,hn2,I.ne⟩ hs2)
theorem KG {R:Result→Shared→Prop}{vs:List Value}{kw:List (Str×Value)}(X:K.In s.heap)(hm:PySem.W.makesIn K C=true)
 (hi:PySem.W.findIn K (.ref C) "__init__"=some (some (.ref f))) (hf:PySem.W.typeIn K (.ref f)=some (.type "function"))
 (h:codeAny (model prog w) (A.under (.builtin "type.__call__" ⟨.ref C::vs,kw⟩)) (.call (.ref f) ⟨.ref (s.heap.objs.size+1)::vs,kw⟩) (PySem.W.InitBack (s.heap.objs.size+1) R)
  { s with heap:=(s.heap.push PySem.W.emptyDict).push (PySem.W.instObj C s.heap.objs.size) }):
 codeAny (model prog w) A (.call (.ref C) ⟨vs,kw⟩) R s:=by
 obtain⟨hh,g,d,t,os⟩:=s
 exact PySem.W.make_core (PySem.W.makes_of X hm) (PySem.W.looks_findIn X hi) (fun self=>PySem.W.bind_fn X self hf) (.inl rfl) h
end
def DX (f:Str)(v:V):List (Str×V)→List (Str×V)
 | []=>[(f,v)]
 | (g,x)::r=>if g=f then(g,v)::r else(g,x)::DX f v r
theorem FJ (f g:Str)(v:V):∀ fs:List (Str×V),(DX f v fs).lookup g=if g=f then some v else fs.lookup g
 | []=>by
  show List.lookup g [(f,v)]=_
  by_cases h:g=f
  ·have hb:(g==f)=true:=beq_iff_eq.mpr h
   simp only[List.lookup,hb,if_pos h]
  ·have hb:(g==f)=false:=beq_eq_false_iff_ne.mpr h
   simp only[List.lookup,hb,if_neg h]
 | (k,x)::r=>by
  have ih:=FJ f g v r
  rw[show DX f v ((k,x)::r)=(if k=f then(k,v)::r else(k,x)::DX f v r)from rfl]
  by_cases hk:k=f
  ·rw[if_pos hk]
   by_cases h:g=k
   ·have hb:(g==k)=true:=beq_iff_eq.mpr h
    simp only[List.lookup,hb,if_pos (h.trans hk)]
   ·have hb:(g==k)=false:=beq_eq_false_iff_ne.mpr h
    simp only[List.lookup,hb,if_neg (fun e:g=f=>h (e.trans hk.symm))]
  ·rw[if_neg hk]
   by_cases h:g=k
   ·have hb:(g==k)=true:=beq_iff_eq.mpr h
    simp only[List.lookup,hb,if_neg (fun e:g=f=>hk (h.symm.trans e))]
   ·have hb:(g==k)=false:=beq_eq_false_iff_ne.mpr h
    simp only[List.lookup,hb]
    exact ih
theorem Ez (f:Str)(v:V):∀ fs:List (Str×V),f∈(DX f v fs).map (·.1)∧∀ g,g∈fs.map (·.1)→g∈(DX f v fs).map (·.1)
 | []=>⟨by simp[DX],fun g h=>by simp at h⟩
 | (k,x)::r=>by
  obtain⟨i1,i2⟩:=Ez f v r
  rw[show DX f v ((k,x)::r)=(if k=f then(k,v)::r else(k,x)::DX f v r)from rfl]
  by_cases hk:k=f
  ·rw[if_pos hk]
   subst hk
   exact⟨by simp,fun g h=>by simpa using h⟩
  ·rw[if_neg hk]
   refine⟨?_,fun g h=>?_⟩
   ·rw[List.map_cons]
    exact List.mem_cons_of_mem _ i1
   ·rw[List.map_cons]at h ⊢
    rcases List.mem_cons.mp h with e | e
    ·exact List.mem_cons.mpr (.inl e)
    ·exact List.mem_cons_of_mem _ (i2 g e)
theorem FK (f:Str)(v:V):∀ fs:List (Str×V),(DX f v fs).length≤fs.length+1
 | []=>by simp[DX]
 | (k,x)::r=>by
  have ih:=FK f v r
  rw[show DX f v ((k,x)::r)=(if k=f then(k,v)::r else(k,x)::DX f v r)from rfl]
  by_cases hk:k=f
  ·rw[if_pos hk,List.length_cons,List.length_cons];omega
  ·rw[if_neg hk,List.length_cons,List.length_cons];omega
theorem DR.some_of {v:V}{o:Option Value}(r:DR (some v) o):∃ u,o=some u∧Aj v u:=by
 cases o with
 | none=>exact(show False from r).elim
 | some u=>exact⟨u,rfl,r⟩
theorem DR.none_of {o:Option Value}(r:DR none o):o=none:=by
 cases o with
 | none=>rfl
 | some u=>exact(show False from r).elim
theorem Jj {v:V}{u:Value}(r:Aj v u):PySem.W.handedIn u=true:=by
 cases v with
 | non=>cases (show u=Value.none from r);rfl
 | bl b=>cases (show u=Value.bool b from r);rfl
 | int i=>obtain⟨t,e⟩:=(show ∃ t,u=Value.int i t from r);cases e;rfl
 | str x=>obtain⟨t,e⟩:=(show ∃ t,u=Value.str x t from r);cases e;rfl
 | byt b=>obtain⟨t,e⟩:=(show ∃ t,u=Value.bytes b t from r);cases e;rfl
 | flt b=>obtain⟨t,e⟩:=(show ∃ t,u=Value.float b t from r);cases e;rfl
 | ref a=>cases (show u=Value.ref a from r);rfl
 | ty n=>cases (show u=Value.type n from r);rfl
section
variable {P:Program}{w:World}{H H':Hp}{h h':Heap}{a C dx:Addr}{fs fs':List (Str×V)}
theorem Fg (hok:EG P w H h)(e:H a=some (.ins C dx fs)):∃ mA,IF h a dx C mA∧(∀ f,DR (fs.lookup f) (mA f))∧PySem.Within mA (fs.map (·.1))∧fs.length≤1000∧H dx=some (.own a):=by
 obtain⟨d,z,ne,ob,mA,n,r,q⟩:=(show A7 P w H h a (.ins C dx fs)from hok a _ e)
 exact⟨mA,⟨ob,n,ne⟩,r,q,z,d⟩
end
structure J7 (K:PySem.W.Frag)(C:Addr):Prop where
 pg:PySem.W.plainGet K C Str.empty=true
 hd:PySem.W.hasDictIn K C=true
 po:PySem.W.plainOver K C=true
 sa:PySem.W.findIn K (.ref C) "__setattr__"=some (some (.builtin "object.__setattr__"))
theorem J7.get {K:PySem.W.Frag}{C:Addr}(c:J7 K C)(f:Str):PySem.W.plainGet K C f=true:=c.pg
def CV (K:PySem.W.Frag)(C:Addr)(f:Str):Prop:=PySem.W.findIn K (.ref C) f=some none
theorem CV.taker {K:PySem.W.Frag}{C:Addr}{f:Str}(n:CV K C f):PySem.W.takerIn K C f=some none:=by
 unfold PySem.W.takerIn
 rw[show PySem.W.findIn K (.ref C) f=some none from n]
 rfl
structure SJ (K:PySem.W.Frag)(C:Addr)(f:Str)(v:V)(u:Value):Prop where
 at_:PySem.W.findIn K (.ref C) f=some (some u)
 rel:Aj v u
 get:PySem.W.specialIn K u "__get__"=some none
 cp:PySem.W.copiedNames.contains f=false
structure GZ (K:PySem.W.Frag)(C:Addr)(m:Str)(f:Addr):Prop where
 at_:PySem.W.findIn K (.ref C) m=some (some (.ref f))
 fn:PySem.W.isFn K (.ref f)=true
 kp:PySem.W.keepIn K (.ref f)=true
section
variable {X:Cx}{pins:List (Addr×Obj)}{σ:St}{H:Hp}{s:Shared}{a C dx:Addr}{fs:List (Str×V)}{f:Str}{v:V}{A:Around}{E:Value→Shared→Prop}
theorem IG {b:Bool}{Q:Value→Shared→Prop}(I:AZ X pins σ H s)(e:H a=some (.ins C dx fs))(c:J7 X.K C)(n:CV X.K C f)(l:fs.lookup f=some v)
 (h:∀ u s',AZ X pins σ H s'→Aj v u→Q u s'):wpAny (model X.prog X.w) A (getAttr (.ref a) f b) Q E s:=by
 obtain⟨mA,O,r,_,_,_⟩:=Fg I.hok e
 obtain⟨u,hu,ru⟩:=DR.some_of (v:=v) (o:=mA f) (by rw[← l];exact r f)
 exact LL I.kIn O (c.get f) c.hd n hu (Jj ru) (h u _ (I.tok _) ru)
theorem IH {m:Str}{g:Addr}{pl:Sem Bool}{Q:Value×List Value→Shared→Prop}(I:AZ X pins σ H s)(e:H a=some (.ins C dx fs))(c:J7 X.K C)(k:GZ X.K C m g)(l:fs.lookup m=none)
 (h:Q (.ref g,[.ref a]) s):wpAny (model X.prog X.w) A (getMethod (.ref a) m pl) Q E s:=by
 obtain⟨mA,O,r,_,_,_⟩:=Fg I.hok e
 have hn:mA m=none:=DR.none_of (by rw[← l];exact r m)
 exact KF I.kIn O (c.get m) k.at_ k.fn hn h
theorem II {y:V}{u:Value}{Q:Unit→Shared→Prop}(I:AZ X pins σ H s)(e:H a=some (.ins C dx fs))(c:J7 X.K C)(n:CV X.K C f)(hl:fs.length<1000)(ry:Aj y u)
 (h:∀ s',AZ X pins σ (upd H a (.ins C dx (DX f y fs))) s'→Q () s'):wpAny (model X.prog X.w) A (setAttr (.ref a) f u) Q E s:=by
 obtain⟨mA,O,r,wi,_,ho⟩:=Fg I.hok e
 have hz:(fs.map (·.1)).length≤sizeLine:=by rw[List.length_map,sizeLine_eq];omega
 refine LM I.kIn O c.sa c.po n.taker c.hd wi hz fun h' O' sb=>h _ ?_
 have hd:∃ o,h'.get? dx=some o:=let ⟨o,_,_,e',_⟩:=O'.ns;⟨o,e'⟩
 refine I.write (x:=a) (e:=dx) (by rw[e];exact True.intro) (.inr ho) (fun b q hb z=>(sb.2 b hb).trans z) hd ?_
 refine⟨by rw[AT O.ne];exact ho,?_,O.ne,O'.obj,_,O'.ns,fun g=>?_,fun g hg=>?_⟩
 ·have:=FK f y fs;omega
 ·show DR ((DX f y fs).lookup g) (if g=f then some u else mA g)
  rw[FJ]
  by_cases q:g=f
  ·rw[if_pos q,if_pos q];exact ry
  ·rw[if_neg q,if_neg q];exact r g
 ·by_cases q:g=f
  ·rw[q];exact(Ez f y fs).1
  ·refine(Ez f y fs).2 g (wi g fun z=>hg ?_)
   show(if g=f then some u else mA g)=none
   rw[if_neg q];exact z
theorem AZ.made (I:AZ X pins σ H s):AZ X pins σ (upd (upd H s.heap.objs.size (.own (s.heap.objs.size+1))) (s.heap.objs.size+1) (.ins C s.heap.objs.size []))
 { s with heap:=(s.heap.push PySem.W.emptyDict).push (PySem.W.instObj C s.heap.objs.size) }:=by
 have e1:(s.heap.push PySem.W.emptyDict).get? s.heap.objs.size=some PySem.W.emptyDict:=Heap.get?_push_size s.heap rfl
 have e2:((s.heap.push PySem.W.emptyDict).push (PySem.W.instObj C s.heap.objs.size)).get? (s.heap.objs.size+1)=some (PySem.W.instObj C s.heap.objs.size):=by
  have:=Heap.get?_push_size (s.heap.push PySem.W.emptyDict) (o:=PySem.W.instObj C s.heap.objs.size) rfl
  rwa [Heap.size_push]at this
 have e3:(s.heap.push PySem.W.emptyDict).Ns s.heap.objs.size (fun _=>none):=⟨PySem.W.emptyDict,#[],_,e1,rfl,(fun e he=>absurd he (by simp)),fun _=>rfl⟩
 have I1:=I.laid (a:=s.heap.objs.size) (o:=.own (s.heap.objs.size+1)) (h':=s.heap.push PySem.W.emptyDict) (t':=s.toks) (fun b u q=>Heap.get?_push_of_some _ q) (Nat.le_refl _) ⟨_,e1⟩
 refine I1.laid (a:=s.heap.objs.size+1) (o:=.ins C s.heap.objs.size []) (t':=s.toks) (fun b u q=>Heap.get?_push_of_some _ q) (Nat.le_of_eq (Heap.size_push _ _)) ?_
 have ne:s.heap.objs.size≠s.heap.objs.size+1:=Nat.ne_of_lt (Nat.lt_succ_self _)
 refine⟨by rw[AT ne,AB],Nat.zero_le _,ne,e2,fun _=>none,(Heap.Ns1.of_empty e3).at fun o q=>Heap.get?_push_of_some _ q,fun _=>True.intro,fun y hy=>absurd rfl hy⟩
theorem LN {prog:Program}{w:World}{env:Env}{e:Expr}{f:Str}{pos:Pos}{s:Shared}{Q:Value→Shared→Prop}(hb:attributeBase e f env (eval e env)=eval e env)
 (h:wpAny (model prog w) A (eval e env) (fun o s₁=>wpAny (model prog w) A (getAttr o f true) Q E s₁) E s):wpAny (model prog w) A (eval (.Attribute e f pos) env) Q E s:=
 Attribute_any_ h (by rw[arm_eval_Attribute,hb])
end
def P8 (K:PySem.W.Frag)(ta:TE)(f:Str):TE:=fun σ H Q=>ta σ H fun x H1=>∃ a C dx fs v,x=.ref a∧H1 a=some (.ins C dx fs)∧J7 K C∧CV K C f∧fs.lookup f=some v∧Q v H1
def SK (K:PySem.W.Frag)(ta:TE)(f:Str):TE:=fun σ H Q=>ta σ H fun x H1=>∃ a C dx fs v u,x=.ref a∧H1 a=some (.ins C dx fs)∧J7 K C∧SJ K C f v u∧fs.lookup f=none∧Q v H1
def P9 (K:PySem.W.Frag)(ta tv:TE)(f:Str):TS:=fun D σ H=>tv σ H fun y H1=>ta σ H1 fun x H2=>∃ a C dx fs,x=.ref a∧H2 a=some (.ins C dx fs)∧J7 K C∧CV K C f∧fs.length<1000∧
 D.nx σ (upd H2 a (.ins C dx (DX f y fs)))
def SL (X:Cx)(op:Operator)(rd:V→V→Hp→VK→Prop):Prop:=
 ∀(pins:List (Addr×Obj)) (s:Shared) (σ:St) (H:Hp) (x y:V) (u v:Value) (Q:VK),AZ X pins σ H s→Aj x u→Aj y v→rd x y H Q→wpAny (model X.prog X.w) X.A (inplaceOp op u v) (EP X pins σ Q) X.xe s
def PN (K:PySem.W.Frag)(ta tv:TE)(rd:V→V→Hp→VK→Prop)(f:Str):TS:=fun D σ H=>ta σ H fun x H1=>∃ a C dx fs v,x=.ref a∧H1 a=some (.ins C dx fs)∧J7 K C∧CV K C f∧fs.lookup f=some v∧
 tv σ H1 fun y H2=>rd v y H2 fun z H3=>∃ dx' fs',H3 a=some (.ins C dx' fs')∧fs'.length<1000∧D.nx σ (upd H3 a (.ins C dx' (DX f z fs')))
section
variable {X:Cx}{o e value:Expr}{f:Str}{pos pos' tpos:Pos}{ta tv:TE}
theorem Ga (he:PE X e ta)(hb:attributeBase e f X.env (eval e X.env)=eval e X.env):PE X (.Attribute e f pos) (P8 X.K ta f):=by
 intro pins s σ H Q I h
 refine LN hb (BJ (he pins s σ H _ I h) fun u s1 zq=>?_)
 obtain⟨x,H1,I1,rx,a,C,dx,fs,v,ex,ea,c,n,l,q⟩:=zq
 subst ex
 obtain rfl:u=Value.ref a:=rx
 exact IG I1 ea c n l fun u' s2 I2 ru=>⟨v,H1,I2,ru,q⟩
theorem Gb (ha:PE X o ta)(hv:PE X value tv)(hs:swapsWith value (some (.Attribute o f pos')) pos.line X.env=pure false):PS X (.Assign [.Attribute o f pos'] value pos) (P9 X.K ta tv f):=by
 intro pins s σ H D I h
 refine plainObj_wpAny_Assign_Attribute (BJ (hv pins s σ H _ I h) fun u s1 ⟨y,H1,I1,ry,q⟩=>BJ (ha pins s1 σ H1 _ I1 q) fun ov s2 zq=>?_) hs
 obtain⟨x,H2,I2,rx,a,C,dx,fs,ex,ea,c,n,l,q2⟩:=zq
 subst ex
 obtain rfl:ov=Value.ref a:=rx
 exact II I2 ea c n l ry fun s3 I3=>⟨σ,_,I3,q2⟩
def SM:V→V→Hp→VK→Prop:=fun x y H Q=>∃ i j,x=.int i∧y=.int j∧Q (.int (i+j)) H
def SN:V→V→Hp→VK→Prop:=fun x y H Q=>∃ i j,x=.int i∧y=.int j∧Q (.int (i-j)) H
end
section
variable {X:Cx}{pins:List (Addr×Obj)}{σ:St}{H:Hp}{s:Shared}{A:Around}{E:Value→Shared→Prop}{Q:Value→Shared→Prop}{c:Value}{b:Bool}
inductive E1 (K:PySem.W.Frag)(H:Hp):V→Value→Prop where
 | non:E1 K H .non (.type "NoneType")
 | bl (x:Bool):E1 K H (.bl x) (.type "bool")
 | int (i:Int):E1 K H (.int i) (.type "int")
 | str (x:Str):E1 K H (.str x) (.type "str")
 | flt (x:UInt64):E1 K H (.flt x) (.type "float")
 | lst {a:Addr} {xs:List V} (e:H a=some (.lst xs)):E1 K H (.ref a) (.type "list")
 | frz {a:Addr} {o:Obj} {xs:List V} (e:H a=some (.frz o (.lst xs))):E1 K H (.ref a) (.type "list")
 | tup {a:Addr} {xs:List V} (e:H a=some (.tup xs)):E1 K H (.ref a) (.type "tuple")
 | dK {a:Addr} {kvs:List (BI×V)} (e:H a=some (.dK kvs)):E1 K H (.ref a) (.type "dict")
 | dT {a:Addr} {kvs:List (List BI×V)} (e:H a=some (.dT kvs)):E1 K H (.ref a) (.type "dict")
 | ins {a C dx:Addr} {fs:List (Str×V)} (e:H a=some (.ins C dx fs)) (cl:J7 K C) (ha:PySem.W.findIn K (.ref C) "__class__"=some (some (.builtin "object.__class__")))
  (hn:PySem.W.specialIn K (.builtin "object.__class__") "__get__"=some (some (.builtin "getset_descriptor.__get__"))) (htk:PySem.W.takesIn K (.builtin "object.__class__")=some true)
  (hm:PySem.W.mroIn K C (.type "object")=some true):E1 K H (.ref a) (.ref C)
theorem GJ {x:V}{u t:Value}(I:AZ X pins σ H s)(rx:Aj x u)(ty:E1 X.K H x t)(e:PySem.W.kitOne X.K t c=some b)(h:∀ tk,Q (.bool b) { s with toks:=tk }):
 wpAny (model X.prog X.w) A (call (.builtin "isinstance") [u,c]) Q E s:=by
 cases ty with
 | non=>cases (show u=Value.none from rx);exact PySem.W.kia_one PySem.W.kitx_none I.kIn True.intro e (fun z=>nomatch z) h
 | bl y=>cases (show u=Value.bool y from rx);exact PySem.W.kia_one PySem.W.kitx_bool I.kIn True.intro e (fun z=>nomatch z) h
 | int i=>obtain⟨t,q⟩:=(show ∃ t,u=Value.int i t from rx);cases q;exact PySem.W.kia_one PySem.W.kitx_int I.kIn True.intro e (fun z=>nomatch z) h
 | str y=>obtain⟨t,q⟩:=(show ∃ t,u=Value.str y t from rx);cases q;exact PySem.W.kia_one PySem.W.kitx_str I.kIn True.intro e (fun z=>nomatch z) h
 | flt y=>obtain⟨t,q⟩:=(show ∃ t,u=Value.float y t from rx);cases q;exact PySem.W.kia_one PySem.W.kitx_float I.kIn True.intro e (fun z=>nomatch z) h
 | @lst a xs ea=>
  cases (show u=Value.ref a from rx)
  obtain⟨_,_,n,_,h1⟩:=(show A7 X.prog X.w H s.heap a (.lst xs)from I.hok a _ ea)
  exact PySem.W.kia_one PySem.W.kitx_list I.kIn ⟨_,h1,rfl⟩ e (fun z=>nomatch z) h
 | @frz a ob xs ea=>
  cases (show u=Value.ref a from rx)
  obtain⟨_,_,_,n,_,h1⟩:=(show A7 X.prog X.w H s.heap a (.frz ob (.lst xs))from I.hok a _ ea)
  exact PySem.W.kia_one PySem.W.kitx_list I.kIn ⟨_,h1,rfl⟩ e (fun z=>nomatch z) h
 | @tup a xs ea=>
  cases (show u=Value.ref a from rx)
  obtain⟨_,_,_,p⟩:=(show A7 X.prog X.w H s.heap a (.tup xs)from I.hok a _ ea)
  obtain⟨o,h1,h2,_⟩:=p
  exact PySem.W.kia_one PySem.W.kitx_tuple I.kIn ⟨o,h1,h2⟩ e (fun z=>nomatch z) h
 | @dK a kvs ea=>
  cases (show u=Value.ref a from rx)
  obtain⟨_,_,vs,_,p⟩:=(show A7 X.prog X.w H s.heap a (.dK kvs)from I.hok a _ ea)
  obtain⟨o,es,ep,h1,h2,_⟩:=p
  exact PySem.W.kia_one PySem.W.kitx_dict I.kIn ⟨o,h1,h2.1⟩ e (fun z=>nomatch z) h
 | @dT a kvs ea=>
  cases (show u=Value.ref a from rx)
  obtain⟨_,_,xs,_,o,es,ep,h1,h2,_⟩:=(show A7 X.prog X.w H s.heap a (.dT kvs)from I.hok a _ ea)
  exact PySem.W.kia_one PySem.W.kitx_dict I.kIn ⟨o,h1,h2.1⟩ e (fun z=>nomatch z) h
 | @ins a C dx fs ea cl ha hn htk hm=>
  cases (show u=Value.ref a from rx)
  obtain⟨mA,O,_⟩:=Fg I.hok ea
  obtain⟨od,J,_⟩:=O.look
  exact PySem.W.kia_one (PySem.W.kitx_own (cl.get _) cl.hd ha hn htk hm) I.kIn J e (fun z=>nomatch z) h
end
structure BQ (k:Nat)(A:Around):Prop where
 hd:A.handled=none
 dp:A.depth+3*k+5<recursionLimit
 un:A.units+16*k+200<cLine
theorem BQ.mono {j k:Nat}{A:Around}(r:BQ k A)(h:j≤k):BQ j A:=⟨r.hd,by have:=r.dp;omega,by have:=r.un;omega⟩
theorem BQ.deeper {k:Nat}{A:Around}(r:BQ (k+1) A)(env:Env):BQ k (A.deeper env):=
 ⟨r.hd,by have:=r.dp;show A.depth+1+3*k+5<_;omega,by have:=r.un;show A.units+3+16*k+200<_;omega⟩
theorem BQ.in1 {k:Nat}{A:Around}(r:BQ (k+1) A):BQ k A.in1:=
 ⟨r.hd,by have:=r.dp;show A.depth+3*k+5<_;omega,by have:=r.un;show A.units+1+16*k+200<_;omega⟩
theorem IJ {A:Around}{C:Addr}{us:List Value}{kw:List (Str×Value)}:(A.under (.builtin "type.__call__" ⟨.ref C::us,kw⟩)).depth=A.depth+1:=by
 first | rfl | simp[Around.under,Code.weight,Code.isCreation,Code.isGuard,Code.isCaller,Code.frames,Code.isFrame,guardIds]
theorem IK {A:Around}{C:Addr}{us:List Value}{kw:List (Str×Value)}:(A.under (.builtin "type.__call__" ⟨.ref C::us,kw⟩)).units=A.units+1:=by
 first | rfl | simp[Around.under,Code.cUnits,Code.frames,Code.isFrame]
theorem BQ.make {k:Nat}{A:Around}(r:BQ (k+1) A)(C:Addr)(us:List Value)(kw:List (Str×Value)):BQ k (A.under (.builtin "type.__call__" ⟨.ref C::us,kw⟩)):=
 ⟨r.hd,by have:=r.dp;rw[IJ];omega,by have:=r.un;rw[IK];omega⟩
theorem BQ.depth {k:Nat}{A:Around}(r:BQ k A):A.depth<recursionLimit:=by have:=r.dp;omega
theorem BQ.units {k:Nat}{A:Around}(r:BQ k A):A.units+64<cLine:=by have:=r.un;omega
def QA:TA:=fun _ H Q=>Q [] H
def EH (ta:TE)(tr:TA):TA:=fun σ H Q=>ta σ H fun x H1=>tr σ H1 fun xs H2=>Q (x::xs) H2
section
variable {X:Cx}{e:Expr}{es:List Expr}{te:TE}{t:TA}{pos:Pos}
theorem AC:PA X [] QA:=fun _ _ _ _ H Q I h=>Calls.spliced_nil ⟨[],H,I,.nil,h⟩
theorem CO (ha:PE X e te)(hr:PA X es t)(hs:starEach (e::es) X.env=(false,eval e X.env)::starEach es X.env:=by rfl):PA X (e::es) (EH te t):=by
 intro pos pins s σ H Q I h
 rw[hs]
 show wpAny _ _ (spliced ((false,eval e X.env)::backTo pos (starEach es X.env))) _ _ s
 refine Calls.spliced_cons (BJ (ha pins s σ H _ I h) fun u s1 zq=>?_)
 obtain⟨x,H1,I1,r1,q1⟩:=zq
 exact BJ (hr pos pins s1 σ H1 _ I1 q1) fun us s2 ⟨xs,H2,I2,r2,q2⟩=>⟨x::xs,H2,I2,.cons r1 r2,q2⟩
def QB (t:TA):TE:=fun σ H Q=>t σ H fun xs H1=>xs.length≤sizeLine∧∀ p,H1 p=none→Q (.ref p) (upd H1 p (.tup xs))
def QC (t:TA):TE:=fun σ H Q=>t σ H fun xs H1=>xs.length≤sizeLine∧∀ p,H1 p=none→Q (.ref p) (upd H1 p (.lst xs))
theorem AU {x1}(h:PA X es t):PE X (.Tuple es x1 pos) (QB t):=by
 intro pins s σ H Q I hq
 refine wpAny_Tuple_spliced (BJ (h pos pins s σ H _ I hq) fun us s1 ⟨xs,H1,I1,r,z,q⟩=>⟨by rw[← r.length];exact z,?_⟩)
 have hf:H1 s1.heap.objs.size=none:=I1.hok.fresh (Nat.le_refl _)
 refine⟨.ref s1.heap.objs.size,upd H1 s1.heap.objs.size (.tup xs),I1.laid (t':=s1.toks) (fun b u e=>Heap.get?_push_of_some _ e) (Nat.le_refl _) ?_,rfl,q _ hf⟩
 exact⟨z,us,r,⟨_,Heap.get?_push_size _ rfl,rfl,_,rfl⟩⟩
theorem A5 (h:PA X es t):PE X (.List es pos) (QC t):=by
 intro pins s σ H Q I hq
 refine wpAny_List_spliced (BJ (h pos pins s σ H _ I hq) fun us s1 ⟨xs,H1,I1,r,z,q⟩=>⟨by rw[← r.length];exact z,?_⟩)
 have hf:H1 s1.heap.objs.size=none:=I1.hok.fresh (Nat.le_refl _)
 refine⟨.ref s1.heap.objs.size,upd H1 s1.heap.objs.size (.lst xs),I1.laid (t':=s1.toks) (fun b u e=>Heap.get?_push_of_some _ e) (Nat.le_refl _) ?_,rfl,q _ hf⟩
 exact⟨z,us,0,r,Heap.get?_push_size _ rfl⟩
end
abbrev Sp:=List V→Hp→VK→XK→Prop
abbrev HI:=List Env→Hp→Shared→XK→Value→Shared→Prop
structure Fq (P:Program)(w:World)(K:PySem.W.Frag)(mg:Str→Option Value)(base:Heap)(A:Around)(outer:List Env)(s:Shared)(H:Hp):Prop where
 frames:A.frames=some outer
 mod:Mod K mg base
 bs:∀ b o,base.get? b=some o→s.heap.get? b=some o∧H b=none
 bsz:base.objs.size≤s.heap.objs.size
 funs:s.heap.FunFrames base outer
 frf:∀ b∈Fl outer,H b=none
 hok:EG P w H s.heap
 bare:AllBare s.gens
def CE (outer:List Env)(P:Program)(w:World)(H:Hp)(s:Shared)(Q:VK)(u:Value)(s':Shared):Prop:=
 ∃ v H',s'.os=s.os∧AllBare s'.gens∧Un (Fl outer) [] H H' s.heap s'.heap∧EG P w H' s'.heap∧Aj v u∧Q v H'
def CR (CX:HI)(outer:List Env)(P:Program)(w:World)(H:Hp)(s:Shared)(Q:VK)(E:XK)(r:Result)(s':Shared):Prop:=
 match r with
 | .ok (.ret u)=>CE outer P w H s Q u s'
 | .ok _=>False
 | .error e=>CX outer H s E e s'
structure Ap (P:Program)(w:World)(K:PySem.W.Frag)(mg:Str→Option Value)(base:Heap)(CX:HI)(k:Nat)(f:Addr)(fd:FuncData)(ps:List Str)(sp:Sp):Prop where
 len:∀ vs H Q E,sp vs H Q E→vs.length=ps.length
 run:∀(A:Around) (outer:List Env) (s:Shared) (H:Hp) (args:Args) (us:List Value) (vs:List V) (Q:VK) (E:XK),BQ k A→Fq P w K mg base A outer s H→BindsTo s fd args (ps.zip us)→Ag vs us→sp vs H Q E→
  codeAny (model P w) A (.call (.ref f) args) (CR CX outer P w H s Q E) s
theorem Ap.mono {P:Program}{w:World}{K:PySem.W.Frag}{mg:Str→Option Value}{base:Heap}{CX:HI}{j k:Nat}{f:Addr}{fd:FuncData}{ps:List Str}{sp:Sp}(F:Ap P w K mg base CX j f fd ps sp)(h:j≤k):
 Ap P w K mg base CX k f fd ps sp:=⟨F.len,fun A outer s H args us vs Q E hr=>F.run A outer s H args us vs Q E (hr.mono h)⟩
theorem Ap.imp {P:Program}{w:World}{K:PySem.W.Frag}{mg:Str→Option Value}{base:Heap}{CX:HI}{k:Nat}{f:Addr}{fd:FuncData}{ps:List Str}{sp sp':Sp}(F:Ap P w K mg base CX k f fd ps sp)
 (h:∀ vs H Q E,sp' vs H Q E→sp vs H Q E):Ap P w K mg base CX k f fd ps sp':=
 ⟨fun vs H Q E q=>F.len vs H Q E (h _ _ _ _ q),fun A outer s H args us vs Q E hr he hb hv hs=>F.run A outer s H args us vs Q E hr he hb hv (h _ _ _ _ hs)⟩
theorem Fq.make {P:Program}{w:World}{K:PySem.W.Frag}{mg:Str→Option Value}{base:Heap}{A:Around}{outer:List Env}{s:Shared}{H:Hp}(e:Fq P w K mg base A outer s H)(C:Addr)(us:List Value)(kw:List (Str×Value)):
 Fq P w K mg base (A.under (.builtin "type.__call__" ⟨.ref C::us,kw⟩)) outer s H:=⟨by first | exact e.frames | (simpa [Around.under,Code.envs,Code.isFrame,pushEnvs]using e.frames),e.mod,e.bs,e.bsz,e.funs,e.frf,e.hok,e.bare⟩
theorem Fq.in1 {P:Program}{w:World}{K:PySem.W.Frag}{mg:Str→Option Value}{base:Heap}{A:Around}{outer:List Env}{s:Shared}{H:Hp}(e:Fq P w K mg base A outer s H):
 Fq P w K mg base A.in1 outer s H:=⟨e.frames,e.mod,e.bs,e.bsz,e.funs,e.frf,e.hok,e.bare⟩
section
variable {X:Cx}{pins:List (Addr×Obj)}{σ:St}{H:Hp}{s s':Shared}
theorem AZ.env0 (I:AZ X pins σ H s):Fq X.prog X.w X.K X.mg X.base X.A X.stack s H:=
 ⟨I.ok.frames,I.ok.mod,I.bs,Nat.le_trans I.ok.bsz I.sz,I.stack,I.stkFree,I.hok,I.bare⟩
theorem AZ.after {Q:VK}{u:Value}(I:AZ X pins σ H s)(h:CE X.stack X.prog X.w H s Q u s'):EP X pins σ Q u s':=by
 obtain⟨v,H',os,bare,un,hok,r,q⟩:=h
 obtain⟨hh,g,d,t,os'⟩:=s'
 obtain rfl:os'=s.os:=os
 exact⟨v,H',I.call (h':=hh) (g':=g) (d':=d) (t':=t) (ch:=[]) un hok bare (fun b z=>absurd z (by simp)),r,q⟩
end
def MC (sp:Sp)(dvs:List V)(E:XK)(t:TA):TE:=fun σ H Q=>t σ H fun vs H1=>sp (vs++dvs) H1 Q E
def Nt (C:Addr)(m:Str)(sp:Sp)(dvs:List V)(E:XK)(ta:TE)(t:TA):TE:=fun σ H Q=>ta σ H fun x H1=>∃ a dx fs,x=.ref a∧H1 a=some (.ins C dx fs)∧fs.lookup m=none∧
 t σ H1 fun vs H2=>sp (x::(vs++dvs)) H2 Q E
def Nu (C:Addr)(sp:Sp)(dvs:List V)(E:XK)(t:TA):TE:=fun σ H Q=>t σ H fun vs H1=>∀ x dx,H1 x=none→H1 dx=none→dx≠x→
 sp (.ref x::(vs++dvs)) (upd (upd H1 dx (.own x)) x (.ins C dx [])) (fun v H2=>v=.non∧Q (.ref x) H2) E
def Cu (K:PySem.W.Frag)(fd:FuncData)(ps:List Str)(ds:List Value):Prop:=
 ∀(s:Shared) (us:List Value),K.In s.heap→(us++ds).length=ps.length→BindsTo s fd ⟨us,[]⟩ (ps.zip (us++ds))
theorem Cu.all {K:PySem.W.Frag}{fd:FuncData}{ps:List Str}(h:∀ us:List Value,us.length=ps.length→bindArgs fd ⟨us,[]⟩=pure (ps.zip us)):Cu K fd ps []:=fun s us _ hl=>by
 rw[List.append_nil]at hl ⊢
 exact .of_eq (h us hl)
def E2 (CX:HI)(X:Cx)(E:XK):Prop:=∀(pins:List (Addr×Obj)) (σ:St) (H:Hp) (s:Shared) (e:Value) (s':Shared),AZ X pins σ H s→CX X.stack H s E e s'→X.xe e s'
section
variable {X:Cx}{CX:HI}{k:Nat}{f C:Addr}{fd:FuncData}{ps:List Str}{sp:Sp}{dvs:List V}{ds:List Value}{E:XK}{x m:Str}{p pos apos:Pos}{e o:Expr}{es:List Expr}{ta:TE}{t:TA}
theorem IL {pins:List (Addr×Obj)}{σ:St}{H:Hp}{s:Shared}{Q:VK}{us:List Value}{vs:List V}(F:Ap X.prog X.w X.K X.mg X.base CX k f fd ps sp)(hr:BQ k X.A)(hb:Cu X.K fd ps ds)(hd:Ag dvs ds)(hx:E2 CX X E)
 (I:AZ X pins σ H s) (r:Ag vs us) (h:sp (vs++dvs) H Q E):wpAny (model X.prog X.w) X.A (call (.ref f) us) (EP X pins σ Q) X.xe s:=by
 have r2:Ag (vs++dvs) (us++ds):=r.append hd
 have hl:(us++ds).length=ps.length:=by rw[← r2.length];exact F.len _ _ _ _ h
 refine wpAny_call (codeAny_mono (F.run X.A X.stack s H ⟨us,[]⟩ (us++ds) (vs++dvs) Q E hr I.env0 (hb s us I.kIn hl) r2 h) fun r s' hq=>?_)
 cases r with
 | error e=>exact hx pins σ H s e s' I hq
 | ok fl=>
  cases fl with
  | ret u=>exact I.after hq
  | next=>exact False.elim hq
  | brk=>exact False.elim hq
  | cont=>exact False.elim hq
theorem LO (F:Ap X.prog X.w X.K X.mg X.base CX k f fd ps sp)(hr:BQ k X.A)(hg:Gl X x)(hm:X.mg x=some (.ref f))(hk:PySem.W.keepIn X.K (.ref f)=true)(hb:Cu X.K fd ps ds)(hd:Ag dvs ds)(hx:E2 CX X E)
 (ha:PA X (e::es) t) (hdb:(x==("__debug__":Str))=false:=by decide) (he:starEach (e::es) X.env=(false,eval e X.env)::starEach es X.env:=by rfl) (hpl:(backTo pos (starEach es X.env)).any (·.1)=false:=by rfl):
 PE X (.Call (.Name x p) (e::es) [] pos) (MC sp dvs E t):=by
 intro pins s σ H Q I h
 refine wpAny_Call_Name_kw (Fc I hg hm ?_ hdb)
 refine PySem.W.callWith_K (h₀:=X.base) I.ok.mod.kin hk (BJ (ha pos pins s σ H _ I h) fun us s1 ⟨vs,H1,I1,r,q⟩=>⟨I1.kIn,?_⟩) he hpl
 exact IL F hr hb hd hx I1 r q
theorem Ci {pl:Sem Bool}(he:PE X o ta)(c:J7 X.K C)(hm:GZ X.K C m f)(F:Ap X.prog X.w X.K X.mg X.base CX k f fd ps sp)(hr:BQ k X.A)(hb:Cu X.K fd ps ds)(hd:Ag dvs ds)(hx:E2 CX X E)(ha:PA X (e::es) t)
 (hst:starEach (e::es) X.env=(false,eval e X.env)::starEach es X.env:=by rfl) (hpl:(backTo pos (starEach es X.env)).any (·.1)=false:=by rfl)
 (ht:eval (.Call (.Attribute o m apos) (e::es) [] pos) X.env=(do
  let ov ← eval o X.env
  standAt apos.atName
  let (f,first) ← holding [ov] (getMethod ov m pl)
  callWith pos f first (backTo pos (starEach (e::es) X.env)) (backToKw pos (keywordEach [] X.env))):=by rfl):
 PE X (.Call (.Attribute o m apos) (e::es) [] pos) (Nt C m sp dvs E ta t):=by
 intro pins s σ H Q I h
 refine PySem.W.methodCall_KW (pl:=pl) (BJ (he pins s σ H _ I h) fun u s1 zq=>?_) ht
 obtain⟨x,H1,I1,rx,a,dx,fs,ex,ea,l,q⟩:=zq
 subst ex
 obtain rfl:u=Value.ref a:=rx
 refine IH I1 ea c hm l ?_
 refine PySem.W.callWith_K (first:=[.ref a]) (h₀:=X.base) I.ok.mod.kin hm.kp (BJ (ha pos pins s1 σ H1 _ I1 q) fun us s2 ⟨vs,H2,I2,r,q2⟩=>⟨I2.kIn,?_⟩) hst hpl
 exact IL (us:=.ref a::us) (vs:=.ref a::vs) F hr hb hd hx I2 (.cons rfl r) q2
structure Mk (K:PySem.W.Frag)(C f:Addr):Prop where
 makes:PySem.W.makesIn K C=true
 init:PySem.W.findIn K (.ref C) "__init__"=some (some (.ref f))
 fn:PySem.W.isFn K (.ref f)=true
 kp:PySem.W.keepIn K (.ref C)=true
theorem KH {pins:List (Addr×Obj)}{σ:St}{H:Hp}{s:Shared}{Q:VK}{us:List Value}{vs:List V}(M:Mk X.K C f)(F:Ap X.prog X.w X.K X.mg X.base CX k f fd ps sp)(hr:BQ (k+1) X.A)(hb:Cu X.K fd ps ds)(hd:Ag dvs ds)
 (hx:E2 CX X E) (I:AZ X pins σ H s) (r:Ag vs us)
 (h:∀ x dx,H x=none→H dx=none→dx≠x→sp (.ref x::(vs++dvs)) (upd (upd H dx (.own x)) x (.ins C dx [])) (fun v H2=>v=.non∧Q (.ref x) H2) E):
 wpAny (model X.prog X.w) X.A (call (.ref C) us) (EP X pins σ Q) X.xe s:=by
 have hq:=h (s.heap.objs.size+1) s.heap.objs.size (I.hok.fresh (Nat.le_succ _)) (I.hok.fresh (Nat.le_refl _)) (Nat.ne_of_lt (Nat.lt_succ_self _))
 have I2:=AZ.made (C:=C) I
 have r2:Ag (V.ref (s.heap.objs.size+1)::(vs++dvs)) (Value.ref (s.heap.objs.size+1)::(us++ds)):=.cons rfl (r.append hd)
 have hl:(Value.ref (s.heap.objs.size+1)::us++ds).length=ps.length:=by
  have e:=r2.length
  rw[F.len _ _ _ _ hq]at e
  exact e.symm
 refine wpAny_call (KG (f:=f) I.kIn M.makes M.init (beq_iff_eq.mp M.fn) (codeAny_mono (F.run _ X.stack _ _ ⟨Value.ref (s.heap.objs.size+1)::us,[]⟩ (Value.ref (s.heap.objs.size+1)::(us++ds)) _ _ E (hr.make C us [])
  (I2.env0.make C us []) (hb _ (Value.ref (s.heap.objs.size+1)::us) I2.kIn hl) r2 hq) fun r s' hq'=>?_))
 cases r with
 | error e=>exact hx pins σ _ _ e s' I2 hq'
 | ok fl=>
  cases fl with
  | ret u=>
   obtain⟨v,H',I3,rv,ev,q3⟩:=I2.after hq'
   subst ev
   exact⟨rv,⟨V.ref (s.heap.objs.size+1),H',I3,rfl,q3⟩⟩
  | next=>exact False.elim hq'
  | brk=>exact False.elim hq'
  | cont=>exact False.elim hq'
theorem LP (M:Mk X.K C f)(F:Ap X.prog X.w X.K X.mg X.base CX k f fd ps sp)(hr:BQ (k+1) X.A)(hg:Gl X x)(hm:X.mg x=some (.ref C))(hb:Cu X.K fd ps ds)(hd:Ag dvs ds)(hx:E2 CX X E)
 (ha:PA X (e::es) t) (hdb:(x==("__debug__":Str))=false:=by decide) (he:starEach (e::es) X.env=(false,eval e X.env)::starEach es X.env:=by rfl) (hpl:(backTo pos (starEach es X.env)).any (·.1)=false:=by rfl):
 PE X (.Call (.Name x p) (e::es) [] pos) (Nu C sp dvs E t):=by
 intro pins s σ H Q I h
 refine wpAny_Call_Name_kw (Fc I hg hm ?_ hdb)
 refine PySem.W.callWith_K (h₀:=X.base) I.ok.mod.kin M.kp (BJ (ha pos pins s σ H _ I h) fun us s1 ⟨vs,H1,I1,r,q⟩=>⟨I1.kIn,?_⟩) he hpl
 exact KH M F hr hb hd hx I1 r q
end
def PK (X:Cx)(kws:List Keyword)(t:TA):Prop:=
 ∀(pos:Pos) (pins:List (Addr×Obj)) (s:Shared) (σ:St) (H:Hp) (Q:List V→Hp→Prop),AZ X pins σ H s→t σ H Q→wpAny (model X.prog X.w) X.A (evalAll ((backToKw pos (keywordEach kws X.env)).map (·.2))) (AP X pins σ Q) X.xe s
section
variable {X:Cx}{CX:HI}{k:Nat}{f C:Addr}{fd:FuncData}{ps ks:List Str}{sp:Sp}{E:XK}{x m:Str}{p pos apos kpos:Pos}{e o:Expr}{es:List Expr}{kws:List Keyword}{te ta:TE}{t tk:TA}{nm:Option Str}
structure QD (K:PySem.W.Frag)(fd:FuncData)(ps ks:List Str)(g:List Value→List Value→List Value)(gV:List V→List V→List V):Prop where
 to:∀(s:Shared) (us ws:List Value),K.In s.heap→(g us ws).length=ps.length→BindsTo s fd ⟨us,ks.zip ws⟩ (ps.zip (g us ws))
 rel:∀{vs:List V} {us:List Value} {zs:List V} {ws:List Value},Ag vs us→Ag zs ws→Ag (gV vs zs) (g us ws)
def QE (sp:Sp)(gV:List V→List V→List V)(E:XK)(t tk:TA):TE:=fun σ H Q=>t σ H fun vs H1=>tk σ H1 fun zs H2=>sp (gV vs zs) H2 Q E
variable {g:List Value→List Value→List Value}{gV:List V→List V→List V}
end
structure Aa (N P:List Str)(sc:Scope):Prop where
 kind:sc.kind=.function
 co:sc.isCoroutine=false
 gen:sc.isGenerator=false
 nd:N.Nodup
 pre:N.take P.length=P
 par:∀ x∈P,sc.names.lookup x=some .local∨sc.names.lookup x=some .cell
 nofree:∀ y∈sc.names,y.2≠.free
theorem GK {kindOf:Str→Option NameKind}{x:Str}:∀{binds:List (Str×Value)} {m:Str→Option Value},(∀ v,(x,v)∉binds)→bindL kindOf binds m x=m x
 | [],_,_=>rfl
 | (n,v)::r,m,h=>by
  unfold bindL
  rw[GK fun w hw=>h w (List.mem_cons_of_mem _ hw)]
  split
  ·have:x≠n:=by rintro rfl;exact h v List.mem_cons_self
   simp[this]
  ·rfl
theorem GL {kindOf:Str→Option NameKind}{x:Str}:∀{binds:List (Str×Value)} {m:Str→Option Value},(∀ v,(x,v)∉binds)→bindC kindOf binds m x=m x
 | [],_,_=>rfl
 | (n,v)::r,m,h=>by
  unfold bindC
  rw[GL fun w hw=>h w (List.mem_cons_of_mem _ hw)]
  split
  ·rfl
  ·have:x≠n:=by rintro rfl;exact h v List.mem_cons_self
   simp[this]
theorem GM {kindOf:Str→Option NameKind}{x:Str}{v:Value}:∀{P:List Str} {vs:List Value} {i:Nat} {m:Str→Option Value},P.Nodup→P[i]?=some x→vs[i]?=some v→kindOf x=some .local→
 bindL kindOf (P.zip vs) m x=some v
 | [],_,_,_,_,h,_,_=>by simp at h
 | _::_,[],_,_,_,_,h,_=>by simp at h
 | p::P,w::vs,0,m,nd,h1,h2,hk=>by
  simp at h1 h2;subst h1;subst h2
  show bindL kindOf ((p,w)::P.zip vs) m p=_
  unfold bindL
  rw[GK fun v hv=>(List.nodup_cons.mp nd).1 (List.of_mem_zip hv).1,if_pos hk]
  simp
 | p::P,w::vs,i+1,m,nd,h1,h2,hk=>by
  show bindL kindOf ((p,w)::P.zip vs) m x=_
  unfold bindL
  exact GM (i:=i) (List.nodup_cons.mp nd).2 (by simpa using h1) (by simpa using h2) hk
theorem GN {kindOf:Str→Option NameKind}{x:Str}{v:Value}:∀{P:List Str} {vs:List Value} {i:Nat} {m:Str→Option Value},P.Nodup→P[i]?=some x→vs[i]?=some v→kindOf x≠some .local→
 bindC kindOf (P.zip vs) m x=some v
 | [],_,_,_,_,h,_,_=>by simp at h
 | _::_,[],_,_,_,_,h,_=>by simp at h
 | p::P,w::vs,0,m,nd,h1,h2,hk=>by
  simp at h1 h2;subst h1;subst h2
  show bindC kindOf ((p,w)::P.zip vs) m p=_
  unfold bindC
  rw[GL fun v hv=>(List.nodup_cons.mp nd).1 (List.of_mem_zip hv).1,if_neg hk]
  simp
 | p::P,w::vs,i+1,m,nd,h1,h2,hk=>by
  show bindC kindOf ((p,w)::P.zip vs) m x=_
  unfold bindC
  exact GN (i:=i) (List.nodup_cons.mp nd).2 (by simpa using h1) (by simpa using h2) hk
def DY (N:List Str)(vs:List V):St:=vs.map some++List.replicate (N.length-vs.length) none
def Ft (CX:HI)(P:Program)(w:World)(K:PySem.W.Frag)(mg:Str→Option Value)(base:Heap)(N:List Str)(qual:Str)(scope:Scope)(f:Addr)(cd:Value)(A:Around)(outer:List Env)(s:Shared)(H:Hp)(E:XK):Cx where
 prog:=P
 w:=w
 K:=K
 mg:=mg
 base:=base
 A:=A.deeper (envOfC qual scope s.heap.objs.size f cd)
 N:=N
 s₀:=s
 H₀:=H
 env:=envOfC qual scope s.heap.objs.size f cd
 outer:=outer
 stack:=envOfC qual scope s.heap.objs.size f cd::outer
 ex:=[]
 calm:=true
 fn:=fun _=>true
 pn:=[]
 xe:=fun e s'=>wpAny (model P w) (A.deeper (envOfC qual scope s.heap.objs.size f cd)) (leaving (envOfC qual scope s.heap.objs.size f cd) e) (fun _ s''=>CX outer H s E e s'') (fun e' s''=>CX outer H s E e' s'') s'
theorem HJ {sc:Scope}{n:Nat}{x:Str}(h:sc.names.lookup x=some .cell):∃ c,(cellsFrom n sc.names []).lookup x=some c:=by
 have q:=PySem.W.cellsFrom_some sc.names n [] (.inl h)
 exact Option.isSome_iff_exists.mp q
theorem Jk {CX:HI}{P:Program}{w:World}{K:PySem.W.Frag}{mg:Str→Option Value}{base:Heap}{N ps:List Str}{qual:Str}{scope:Scope}{f:Addr}{cd:Value}{A:Around}{outer:List Env}{s s1:Shared}{H:Hp}{E:XK}{us:List Value}{vs:List V}
 (S:Aa N ps scope) (hd:A.handled=none) (e0:Fq P w K mg base A outer s H) (hl:vs.length=ps.length) (r:Ag vs us)
 (x:InCallC s s.heap.objs.size (bindL (envOfC qual scope s.heap.objs.size f cd).kindOf (ps.zip us) fun _=>none) (cellsFrom (s.heap.objs.size+1) scope.names []) (bindC (envOfC qual scope s.heap.objs.size f cd).kindOf (ps.zip us) fun _=>none) s1):
 AZ (Ft CX P w K mg base N qual scope f cd A outer s H E) [] (DY N vs) H s1:=by
 have hpl:ps.length≤N.length:=by have:=congrArg List.length S.pre;rw[List.length_take]at this;omega
 obtain⟨h1,tk,rfl,hk⟩:=x.done
 have noA:∀ b:Addr,b∉(Ft CX P w K mg base N qual scope f cd A outer s H E).ex:=fun b z=>absurd (show b∈([]:List Addr)from z) (by simp)
 refine⟨⟨e0.mod,S.kind,rfl,rfl,Nat.le_refl _,fun y z c h1 h2=>?_,fun y hy=>?_,fun y c _ h=>?_,fun _=>hd,Around.frames_deeper e0.frames,.inr ⟨rfl,rfl⟩,fun b z=>absurd z (noA b),e0.bs,e0.bsz,fun b _ _=>noA b,fun b z=>absurd z (noA b),e0.funs,e0.frf⟩,
  rfl,e0.bare,Un.kept hk,⟨_,x.toInCall.ns,fun i y v h1 h2 h3=>?_⟩,fun y c h=>⟨_,x.cell y c h⟩,e0.hok.fresh (Nat.le_refl _),fun y c h=>?_,fun p hp=>absurd (show p∈([]:List (Addr×Obj))from hp) (by simp),e0.hok.kept hk,?_⟩
 ·exact name_of_addr x.apart (PySem.mem_of_lookup h1) (PySem.mem_of_lookup h2)
 ·have hy:scope.names.lookup y=some .cell∨scope.names.lookup y=some .free:=hy
  rcases hy with hy | hy
  ·exact HJ hy
  ·exact absurd rfl (S.nofree _ (PySem.mem_of_lookup hy))
 ·exact Nat.le_of_lt (x.above y c (PySem.mem_of_lookup h))
 ·have hi:i<vs.length:=by
   unfold DY at h2
   by_cases hi:i<vs.length
   ·exact hi
   ·rw[List.getElem?_append_right (by simpa using hi)]at h2
    rw[List.getElem?_replicate]at h2
    split at h2 <;> cases h2
  have ha:vs[i]?=some v:=by
   unfold DY at h2
   rw[List.getElem?_append_left (by simpa using hi),List.getElem?_map]at h2
   cases e:vs[i]? with
   | none=>rw[e]at h2;cases h2
   | some a=>rw[e]at h2;cases h2;rfl
  obtain⟨u,hu,rv⟩:=r.get ha
  have hp:ps[i]?=some y:=by
   rw[← S.pre,List.getElem?_take_of_lt (by omega)];exact h1
  have ndP:ps.Nodup:=by rw[← S.pre];exact S.nd.sublist (List.take_sublist _ _)
  refine⟨u,rv,?_⟩
  rcases S.par y (List.mem_of_getElem? hp)with k | k
  ·exact .inl ⟨k,GM ndP hp hu k⟩
  ·obtain⟨c,e⟩:=HJ (n:=s.heap.objs.size+1) k
   refine .inr ⟨.inl k,c,e,?_⟩
   have q:=x.cell y c e
   rw[GN ndP hp hu (by show scope.names.lookup y≠_;rw[k];decide)]at q
   exact q
 ·exact e0.hok.fresh (Nat.le_of_lt (x.above y c (PySem.mem_of_lookup h)))
 ·unfold DY
  show _=N.length
  rw[List.length_append,List.length_map,List.length_replicate]
  omega
theorem MD {CX:HI}{P:Program}{w:World}{K:PySem.W.Frag}{mg:Str→Option Value}{base:Heap}{k:Nat}{f:Addr}{name qual:Str}{params:Arguments}{body:List Stmt}{scope:Scope}{dV kV doc pm cdv ct oc:Value}{an od:Option Addr}
 {osl:Array (Option Value)} {N ps:List Str} {sp:Sp} (lk:K.lookup f=some ⟨oc,od,.func (PySem.W.fnOf name qual params body scope dV kV doc pm an cdv ct),osl⟩) (hcd:PySem.W.codeIn K cdv qual=true) (S:Aa N ps scope)
 (len:∀ vs H Q E,sp vs H Q E→vs.length=ps.length)
 (hbody:∀(A:Around) (outer:List Env) (s:Shared) (H:Hp) (vs:List V) (Q:VK) (E:XK),BQ k (A.deeper (envOfC qual scope s.heap.objs.size f cdv))→sp vs H Q E→
  ∃ t,Hu (Ft CX P w K mg base N qual scope f cdv A outer s H E) body t∧t { nx:=fun _ H'=>Q .non H',rt:=Q } (DY N vs) H):
 Ap P w K mg base CX (k+1) f (PySem.W.fnOf name qual params body scope dV kV doc pm an cdv ct) ps sp:=by
 refine⟨len,fun A outer s H args us vs Q E hr e0 hb r hsp=>?_⟩
 have hl:=len _ _ _ _ hsp
 have KX:K.In s.heap:=e0.mod.kin.keeps fun b o e=>(e0.bs b o e).1
 have lim:s.heap.NoLimit:=e0.mod.nolimit.keeps fun b o e=>(e0.bs b o e).1
 have hkind:∀ y∈ps.zip us,scope.names.lookup y.1=some .local∨(scope.names.lookup y.1=some .cell∧((cellsFrom (s.heap.objs.size+1) scope.names []).lookup y.1).isSome=true):=fun⟨n,v⟩ hy=>by
  rcases S.par n (List.of_mem_zip hy).1 with q | q
  ·exact .inl q
  ·exact .inr ⟨q,PySem.W.cellsFrom_some _ _ _ (.inl q)⟩
 refine codeAny_call_function hr.depth (KX _ _ lk) rfl S.co S.gen rfl (PySem.W.codeRec_of KX hcd) (hb _ _ _ _ ?_)
 refine wpAny_newFunctionEnv_cells S.kind hkind fun env he s1 x=>?_
 subst he
 refine⟨lim.keeps x.toInCall.keep,codeAny_func ?_⟩
 obtain⟨t,ht,hq⟩:=hbody A outer s H vs Q E (hr.deeper _) hsp
 have I:AZ (Ft CX P w K mg base N qual scope f cdv A outer s H E) [] (DY N vs) H s1:=Jk S hr.hd e0 hl r x
 refine wpAny_mono (ht [] s1 (DY N vs) H _ I hq) (fun fl s' hs=>?_) fun e s' hs=>hs
 have fin:∀{σ':St} {H':Hp} {v:V} {u:Value},AZ (Ft CX P w K mg base N qual scope f cdv A outer s H E) [] σ' H' s'→Aj v u→Q v H'→CE outer P w H s Q u s':=
  fun {σ' H' v u} J rv q=>⟨v,H',J.os,J.bare,J.base,J.hok,rv,q⟩
 cases fl with
 | ret u=>
  obtain⟨v,σ',H',J,rv,q⟩:=hs
  exact fin J rv q
 | next=>
  obtain⟨σ',H',J,q⟩:=hs
  exact fin (v:=V.non) (u:=Value.none) J rfl q
 | brk=>
  obtain⟨_,_,_,q⟩:=hs
  exact False.elim q
 | cont=>
  obtain⟨_,_,_,q⟩:=hs
  exact False.elim q
section
variable {X:Cx}{x:Str}{p pos:Pos}{e:Expr}{es:List Expr}{t:TA}{id T:String}{r:List V→Hp→VK→Prop}
def RE (r:List V→Hp→VK→Prop)(t:TA):TE:=fun σ H Q=>t σ H fun vs H1=>r vs H1 Q
theorem AQ (hc:CU X (.builtin id) r)(hg:Gl X x)(hm:X.mg x=none)(hv:bootBuiltins x=some (.builtin id))(ha:PA X (e::es) t)(hn:x≠"__name__":=by decide)(hdb:(x==("__debug__":Str))=false:=by decide)
 (he:starEach (e::es) X.env=(false,eval e X.env)::starEach es X.env:=by rfl) (hpl:(backTo pos (starEach es X.env)).any (·.1)=false:=by rfl):PE X (.Call (.Name x p) (e::es) [] pos) (RE r t):=by
 intro pins s σ H Q I h
 refine wpAny_Call_Name_kw (DA I hg hm hv ?_ hn hdb)
 exact PyProof.Rows.callWith_builtin1 (BJ (ha pos pins s σ H _ I h) fun us s1 ⟨vs,H1,I1,r1,q1⟩=>hc pins s1 σ H1 vs us Q I1 r1 q1) he hpl
theorem Bp (hc:CU X (.type T) r)(hg:Gl X x)(hm:X.mg x=none)(hv:bootBuiltins x=some (.type T))(ha:PA X (e::es) t)(hn:x≠"__name__":=by decide)(hdb:(x==("__debug__":Str))=false:=by decide)
 (he:starEach (e::es) X.env=(false,eval e X.env)::starEach es X.env:=by rfl) (hpl:(backTo pos (starEach es X.env)).any (·.1)=false:=by rfl):PE X (.Call (.Name x p) (e::es) [] pos) (RE r t):=by
 intro pins s σ H Q I h
 refine wpAny_Call_Name_kw (DA I hg hm hv ?_ hn hdb)
 exact PyProof.Rows.callWith_type1 (BJ (ha pos pins s σ H _ I h) fun us s1 ⟨vs,H1,I1,r1,q1⟩=>hc pins s1 σ H1 vs us Q I1 r1 q1) he hpl
end
end L2
namespace HT
open PySem PyProof.Rows
def ME:List Int→List Int→Bool
 | [],[]=>false
 | [],_::_=>true
 | _::_,[]=>false
 | x::xs,y::ys=>if x=y then ME xs ys else decide (x<y)
section
open PySem.SeqAt
open PySem.AutoSeq1 (wpAny_loadPart')
open PySem.MeetsSeq PySem.MeetsSeq2 PySem.MeetsSeq3
end
section
variable {prog:Program}{w:World}{A:Around}{E:Value→Shared→Prop}{s:Shared}
theorem LQ {t b:Addr}{vs ws:List Value}{Q:Value→Shared→Prop}(ht:IsTup s.heap t vs.toArray)(hb:IsTup s.heap b ws.toArray)(hv:vs≠[])
 (h1:ws=[]→Q (.ref t) s) (h2:ws≠[]→Q (.ref s.heap.objs.size) { s with heap:=s.heap.push { cls:=.type "tuple",data:=.seq (vs++ws).toArray } })
 (hsz:vs.length+ws.length≤sizeLine):wpAny (model prog w) A (binaryOp .Add (.ref t) (.ref b)) Q E s:=by
 obtain⟨⟨cls,dd,data,sl⟩,ho,hc,n,hd⟩:=id ht
 obtain⟨⟨cls2,dd2,data2,sl2⟩,ho2,hc2,n2,hd2⟩:=id hb
 simp only at hc hd hc2 hd2
 subst hc hd hc2 hd2
 have e:vs.toArray++ws.toArray=(vs++ws).toArray:=by simp
 by_cases hw:ws=[]
 ·exact concat_meets ⟨_,ho,rfl⟩ ⟨_,ho2,rfl⟩ noFill_tuple_add seq_tuple_add PySem.F.slot_tuple_add PySem.F.entry_tuple_add (PySem.F.args_tuple_add_2 _ _)
   (tuple_addW1 t b vs.toArray ws.toArray n n2 dd dd2 sl sl2 (by simpa using hv) (by simp[hw])) ⟨ho,ho2,h1 hw⟩
 ·refine concat_meets ⟨_,ho,rfl⟩ ⟨_,ho2,rfl⟩ noFill_tuple_add seq_tuple_add PySem.F.slot_tuple_add PySem.F.entry_tuple_add (PySem.F.args_tuple_add_2 _ _)
   (tuple_addW2 t b vs.toArray ws.toArray n n2 dd dd2 sl sl2 (by simpa using hv) (by simpa using hw) (by rw[List.size_toArray,List.size_toArray];exact hsz)) ⟨ho,ho2,?_⟩
  rw[e]
  exact h2 hw
def Bq (n d:Nat):Option Int→Nat
 | none=>d
 | some v=>if v<0 then(v+(n:Int)).toNat else min v.toNat n
theorem Mj (n d:Nat)(hd:d≤n)(o:Option Int):Bq n d o≤n:=by
 cases o with
 | none=>exact hd
 | some v=>
  show(if v<0 then(v+(n:Int)).toNat else min v.toNat n)≤n
  by_cases hv:v<0
  ·rw[if_pos hv];omega
  ·rw[if_neg hv];exact Nat.min_le_right _ _
theorem JC (v:Int)(n d:Nat):(if v<0 then max (v+(n:Int)) 0 else min v (n:Int))=((Bq n d (some v):Nat):Int):=by
 show(if v<0 then max (v+(n:Int)) 0 else min v (n:Int))=(((if v<0 then(v+(n:Int)).toNat else min v.toNat n):Nat):Int)
 by_cases hv:v<0
 ·simp only[if_pos hv];omega
 ·simp only[if_neg hv];omega
theorem IM (lo hi:Option Int)(n:Nat):Builtin.Slice.sliceAdjust lo hi 1 (n:Int)=(((Bq n 0 lo:Nat):Int),((Bq n n hi:Nat):Int)):=by
 have h1:¬ ((1:Int)<0):=by omega
 unfold Builtin.Slice.sliceAdjust
 simp only[h1,if_false]
 refine Prod.ext ?_ ?_
 ·cases lo with
  | none=>rfl
  | some v=>exact JC v n 0
 ·cases hi with
  | none=>rfl
  | some v=>exact JC v n n
theorem IN (i j:Nat):Builtin.Slice.slicePlaces (i:Int) (j:Int) 1=j-i:=by
 unfold Builtin.Slice.slicePlaces
 have h1:(1:Int)>0:=by omega
 simp only[h1,if_true,Int.ediv_one]
 split <;> omega
theorem Fu {v:Value}{o:Option Int}{Q:Option Int→Shared→Prop}(p:IsPart v o)(h:Q o s):wpAny (model prog w) A (Builtin.Slice.slicePartIndex v) Q E s:=by
 cases p with
 | none=>exact slicePart_none h
 | int i t=>exact slicePart_int h
theorem E3 {sl:Addr}{vl vu:Value}{lo hi:Option Int}{n:Nat}{Q:Int×Int×Nat→Shared→Prop}(hs:s.heap.IsSliceOf sl vl vu .none)(pl:IsPart vl lo)(pu:IsPart vu hi)
 (h:Q (((Bq n 0 lo:Nat):Int),1,Bq n n hi-Bq n 0 lo) s):wpAny (model prog w) A (Builtin.Slice.sliceApplied (.ref sl) (pure (n:Int))) Q E s:=by
 obtain⟨os,hos,hcs,hds⟩:=id hs
 unfold Builtin.Slice.sliceApplied Builtin.Slice.sliceFields
 refine wpAny_bind (wpAny_bind (wpAny_field hos hds (x:=vl) rfl (wpAny_bind (wpAny_field hos hds (x:=vu) rfl (wpAny_bind (wpAny_field hos hds (x:=.none) rfl (wpAny_pure ?_)))))))
 refine wpAny_bind (slicePart_none ?_)
 show wpAny _ _ (if((1:Int)==0)=true then _ else _) _ _ s
 rw[if_neg (by decide)]
 refine wpAny_bind (Fu pl (wpAny_bind (Fu pu (wpAny_bind (wpAny_pure ?_)))))
 show wpAny _ _ (match Builtin.Slice.sliceAdjust lo hi 1 (n:Int)with | (lo,hi)=>pure (lo,(1:Int),Builtin.Slice.slicePlaces lo hi 1)) _ _ s
 rw[IM lo hi n]
 show wpAny _ _ (pure (((Bq n 0 lo:Nat):Int),(1:Int),Builtin.Slice.slicePlaces ((Bq n 0 lo:Nat):Int) ((Bq n n hi:Nat):Int) 1)) _ _ s
 rw[IN]
 exact wpAny_pure h
theorem KI (xs:Array Value)(i k:Nat):((List.range k).filterMap fun(m:Nat)=>xs[((i:Int)+(m:Int)*1).toNat]?).toArray=((xs.toList.drop i).take k).toArray:=by
 have e:(fun(m:Nat)=>xs[((i:Int)+(m:Int)*1).toNat]?)=fun m=>xs[i+m]?:=by
  funext m
  have:((i:Int)+(m:Int)*1).toNat=i+m:=by omega
  rw[this]
 rw[e]
 have:=pick_run xs i k
 rw[List.filterMap_map]at this
 have e2:((fun x=>xs[x]?)∘fun x=>i+x)=fun m=>xs[i+m]?:=rfl
 rw[e2]at this
 rw[this]
theorem Ed {t sl:Addr}{items:Array Value}{vl vu:Value}{lo hi:Option Int}{Q:Value→Shared→Prop}(ht:IsTup s.heap t items)(hs:s.heap.IsSliceOf sl vl vu .none)(pl:IsPart vl lo)(pu:IsPart vu hi)
 (hw:¬ (Bq items.size 0 lo=0∧Bq items.size items.size hi=items.size))
 (h:Q (.ref s.heap.objs.size) { s with heap:=s.heap.push { cls:=.type "tuple",data:=.seq ((items.toList.drop (Bq items.size 0 lo)).take (Bq items.size items.size hi-Bq items.size 0 lo)).toArray } })
 (hsz:items.size≤sizeLine):wpAny (model prog w) A (getItem (.ref t) (.ref sl)) Q E s:=by
 have htake:sizeOk (.seq ((items.toList.drop (Bq items.size 0 lo)).take (Bq items.size items.size hi-Bq items.size 0 lo)).toArray):=by
  show((items.toList.drop (Bq items.size 0 lo)).take (Bq items.size items.size hi-Bq items.size 0 lo)).toArray.size≤sizeLine
  rw[List.size_toArray,List.length_take,List.length_drop,Array.length_toList]
  omega
 have hj:Bq items.size items.size hi≤items.size:=Mj _ _ (Nat.le_refl _) hi
 obtain⟨os,hos,hcs,hds⟩:=id hs
 have hTs:s.TypeIs (.ref sl) "slice":=⟨os,hos,hcs⟩
 unfold getItem
 try with_reducible refine wpAny_holding ?_
 first | refine wpAny_bind (wpAny_pure ?_) | skip
 refine wpAny_bind (wpAny_sequenceKey ht.typeIs (by decide) ?_)
 refine wpAny_bind (wpAny_callSpecial?_slot (name:=Str.ofString "__getitem__") ht.typeIs PyProof.Rows.slot_tuple_getitem
  (wpAny_call_entry PyProof.Rows.slot_tuple_getitem ht.typeIs entry_tuple_getitem ?_ (args_tuple_getitem _ _)))
 show wpAny _ _ (Builtin.Tuple.tupleItemsOf (.ref t) >>= _) _ _ s
 refine wpAny_bind (tupleItemsOf_ ht ?_)
 refine wpAny_bind (wpAny_typeOf hTs ?_)
 rw[if_pos (by decide)]
 refine wpAny_bind (E3 hs pl pu ?_)
 have hno:¬ ((((Bq items.size 0 lo:Nat):Int)==0&&(1:Int)==1&&(Bq items.size items.size hi-Bq items.size 0 lo)==items.size)=true):=by
  intro q
  rw[Bool.and_eq_true,Bool.and_eq_true]at q
  have q1:((Bq items.size 0 lo:Nat):Int)=0:=eq_of_beq q.1.1
  have q2:Bq items.size items.size hi-Bq items.size 0 lo=items.size:=eq_of_beq q.2
  exact hw ⟨by omega,by omega⟩
 show wpAny _ _ (if(((Bq items.size 0 lo:Nat):Int)==0&&(1:Int)==1&&(Bq items.size items.size hi-Bq items.size 0 lo)==items.size)=true then _ else _) _ _ s
 rw[if_neg hno,KI]
 first
  | exact wpAny_bind (m:=Builtin.Tuple.tupleExact _) (wpAny_newObj_type (wpAny_pure ⟨_,rfl,wpAny_pure h⟩) htake)
  | exact wpAny_bind (m:=Builtin.Tuple.tupleExact _) (wpAny_newObj_type (wpAny_bind (wpAny_pure (wpAny_pure ⟨_,rfl,wpAny_pure h⟩))) htake)
  | exact wpAny_bind (wpAny_bind (m:=Builtin.Tuple.tupleExact _) (wpAny_newObj_type (wpAny_pure (wpAny_pure ⟨_,rfl,wpAny_pure h⟩)) htake))
  | exact wpAny_bind (wpAny_bind (m:=Builtin.Tuple.tupleExact _) (wpAny_newObj_type (wpAny_pure ⟨_,rfl,wpAny_pure h⟩) htake))
end
end HT
namespace L2
open PySem PySem.Spec PyProof.Rows
abbrev TO:=St→Hp→(Option Int→Hp→Prop)→Prop
def PO (X:Cx)(e:Option Expr)(t:TO):Prop:=
 ∀(pins:List (Addr×Obj)) (s:Shared) (σ:St) (H:Hp) (Q:Option Int→Hp→Prop),AZ X pins σ H s→t σ H Q→
  wpAny (model X.prog X.w) X.A (evalPart e X.env) (fun u s'=>∃ o H',AZ X pins σ H' s'∧IsPart u o∧Q o H') X.xe s
def LR:TO:=fun _ H Q=>Q none H
def Nv (t:TE):TO:=fun σ H Q=>t σ H fun x H1=>∃ i,x=.int i∧Q (some i) H1
section
variable {X:Cx}{e:Expr}{te:TE}{lo hi:Option Expr}{tl th:TO}{pos p2:Pos}
theorem Fh:PO X none LR:=by
 intro pins s σ H Q I h
 rw[evalPart_none]
 exact wpAny_pure ⟨none,H,I,.none,h⟩
theorem Fi (h:PE X e te):PO X (some e) (Nv te):=by
 intro pins s σ H Q I hw
 rw[evalPart_some]
 refine BJ (h pins s σ H _ I hw) fun u s1 zq=>?_
 obtain⟨x,H1,I1,r1,q1⟩:=zq
 obtain⟨i,rfl,q⟩:=q1
 obtain⟨t,rfl⟩:=r1
 exact⟨some i,H1,I1,.int i t,q⟩
def MF (X:Cx)(r:V→Option Int→Option Int→Hp→VK→Prop):Prop:=
 ∀(pins:List (Addr×Obj)) (s:Shared) (σ:St) (H:Hp) (x:V) (v vl vu:Value) (lo hi:Option Int) (sl:Addr) (Q:VK),AZ X pins σ H s→Aj x v→s.heap.IsSliceOf sl vl vu .none→IsPart vl lo→IsPart vu hi→r x lo hi H Q→
  ∃ T id,typeLookup (.type T) "__getitem__"=pure (some (.builtin id))∧s.TypeIs v T∧wpAny (model X.prog X.w) X.A (getItem v (.ref sl)) (EP X pins σ Q) X.xe s
theorem MF.or {r r':V→Option Int→Option Int→Hp→VK→Prop}(h:MF X r)(h':MF X r'):MF X (fun x lo hi H Q=>r x lo hi H Q∨r' x lo hi H Q):=by
 intro pins s σ H x v vl vu lo hi sl Q I rx hs pl pu q
 rcases q with q | q
 ·exact h pins s σ H x v vl vu lo hi sl Q I rx hs pl pu q
 ·exact h' pins s σ H x v vl vu lo hi sl Q I rx hs pl pu q
def SO (r:V→Option Int→Option Int→Hp→VK→Prop)(te:TE)(tl th:TO):TE:=fun σ H Q=>te σ H fun x H1=>tl σ H1 fun l H2=>th σ H2 fun u H3=>r x l u H3 Q
theorem Ee {r:V→Option Int→Option Int→Hp→VK→Prop}(hr:MF X r)(he:PE X e te)(hl:PO X lo tl)(hu:PO X hi th):PE X (.Subscript e (.Slice lo hi none p2) pos) (SO r te tl th):=by
 intro pins s σ H Q I h
 refine Subscript_ (BJ (he pins s σ H _ I h) fun v s1 zq=>?_)
 obtain⟨x,H1,I1,r1,q1⟩:=zq
 refine wpAny_Slice (BJ (hl pins s1 σ H1 _ I1 q1) fun vl s2 ⟨l,H2,I2,pl,q2⟩=>BJ (hu pins s2 σ H2 _ I2 q2) fun vu s3 zq=>?_)
 obtain⟨u,H3,I3,pu,q3⟩:=zq
 rw[evalPart_none]
 refine wpAny_pure ?_
 have I4:AZ X pins σ H3 { s3 with heap:=s3.heap.push { cls:=.type "slice",data:=.fields #[vl,vu,.none] } }:=I3.kept (t':=s3.toks) fun b ob q=>Heap.get?_push_of_some _ q
 obtain⟨T,id,hT,ht,hg⟩:=hr pins { s3 with heap:=s3.heap.push { cls:=.type "slice",data:=.fields #[vl,vu,.none] } } σ H3 x v vl vu l u s3.heap.objs.size Q I4 r1 (Heap.IsSliceOf.new ..) pl pu q3
 show wpAny (model X.prog X.w) X.A (subscriptTail e (.Slice lo hi none p2) v (.ref s3.heap.objs.size)) (EP X pins σ Q) X.xe { s3 with heap:=s3.heap.push { cls:=.type "slice",data:=.fields #[vl,vu,.none] } }
 exact tail_any (ops:=[.ref s3.heap.objs.size,v]) ht hT hg (by with_unfolding_all rfl)
def EE (xs:List V)(lo hi:Option Int):List V:=(xs.drop (HT.Bq xs.length 0 lo)).take (HT.Bq xs.length xs.length hi-HT.Bq xs.length 0 lo)
theorem DZ (xs:List V)(lo hi:Option Int):(EE xs lo hi).length≤xs.length:=by
 unfold EE
 rw[List.length_take,List.length_drop]
 omega
def QF (K:PySem.W.Frag):V→Option Int→Option Int→Hp→VK→Prop:=fun x lo hi H Q=>∃ a xs,x=.ref a∧Am K H a xs∧
 ¬ (HT.Bq xs.length 0 lo=0∧HT.Bq xs.length xs.length hi=xs.length)∧∀ p,H p=none→Q (.ref p) (upd H p (.tup (EE xs lo hi)))
theorem KJ:MF X (QF X.K):=by
 intro pins s σ H x v vl vu lo hi sl Q I rx hs pl pu h
 obtain⟨a,xs,rfl,hx,hw,q⟩:=h
 cases rx
 obtain⟨its,r,ht,hz⟩:=I.tuple hx
 have hlen:its.toArray.size=xs.length:=by rw[List.size_toArray];exact r.length.symm
 refine⟨"tuple",_,PyProof.Rows.slot_tuple_getitem.lookup,ht.typeIs,?_⟩
 refine HT.Ed ht hs pl pu (by rw[hlen];exact hw) ?_ (by rw[hlen];exact hz)
 rw[hlen]
 refine⟨.ref s.heap.objs.size,_,I.laid (t':=s.toks) (o:=.tup (EE xs lo hi)) (fun b ob q=>Heap.get?_push_of_some _ q) (Nat.le_refl _) ?_,rfl,q _ (I.hok.fresh (Nat.le_refl _))⟩
 exact⟨Nat.le_trans (DZ xs lo hi) hz,_,(r.drop (HT.Bq xs.length 0 lo)).take (HT.Bq xs.length xs.length hi-HT.Bq xs.length 0 lo),IsTup.new _ _⟩
def SQ (K:PySem.W.Frag):R2:=fun x y H Q=>∃ a b ns ms,x=.ref a∧y=.ref b∧Am K H a (ns.map V.int)∧Am K H b (ms.map V.int)∧Q (.bl (HT.ME ns ms)) H
def Nw (K:PySem.W.Frag):R2:=fun x y H Q=>∃ a b xs ys,x=.ref a∧y=.ref b∧Am K H a xs∧Am K H b ys∧xs≠[]∧xs.length+ys.length≤sizeLine∧
 (ys=[]→Q (.ref a) H)∧(ys≠[]→∀ p,H p=none→Q (.ref p) (upd H p (.tup (xs++ys))))
theorem Ag.nil_iff {xs:List V}{us:List Value}(r:Ag xs us):us=[]↔xs=[]:=by
 cases r with
 | nil=>simp
 | cons _ _=>simp
theorem LS:EM X (binaryOp .Add) (Nw X.K):=by
 intro pins s σ H x y v u Q I rx ry h
 obtain⟨a,b,xs,ys,rfl,rfl,ha,hb,hx,hz,q1,q2⟩:=h
 cases rx
 cases ry
 obtain⟨its,r1,p1,_⟩:=I.tuple ha
 obtain⟨its2,r2,p2,_⟩:=I.tuple hb
 refine HT.LQ p1 p2 (fun z=>hx (r1.nil_iff.mp z)) (fun z=>⟨.ref a,H,I,rfl,q1 (r2.nil_iff.mp z)⟩) (fun z=>?_) (by rw[← r1.length,← r2.length];exact hz)
 refine⟨.ref s.heap.objs.size,_,I.laid (t':=s.toks) (o:=.tup (xs++ys)) (fun b ob q=>Heap.get?_push_of_some _ q) (Nat.le_refl _) ?_,rfl,q2 (fun w=>z (r2.nil_iff.mpr w)) _ (I.hok.fresh (Nat.le_refl _))⟩
 exact⟨by rw[List.length_append];exact hz,_,r1.append r2,IsTup.new _ _⟩
end
def MG (n:Nat)(i:Int):Option Nat:=if 0≤i then(if i<n then some i.toNat else none)else if -(n:Int)≤i then some (i+n).toNat else none
def Gc {α:Type}(xs:List α)(i:Int):Option α:=(MG xs.length i).bind fun j=>xs[j]?
theorem JD {n:Nat}{i:Int}{j:Nat}(h:MG n i=some j):seqIndex? i n=some j∧j<n∧-(n:Int)≤i∧i<n:=by
 unfold MG at h
 by_cases h0:0≤i
 ·rw[if_pos h0]at h
  by_cases h1:i<n
  ·rw[if_pos h1]at h
   have e:i.toNat=j:=Option.some.inj h
   exact⟨by rw[seqIndex_of h0 h1,e],by omega,by omega,h1⟩
  ·rw[if_neg h1]at h;cases h
 ·rw[if_neg h0]at h
  by_cases h1:-(n:Int)≤i
  ·rw[if_pos h1]at h
   have e:(i+n).toNat=j:=Option.some.inj h
   exact⟨by rw[seqIndex_neg (by omega) h1,e],by omega,h1,by omega⟩
  ·rw[if_neg h1]at h;cases h
theorem Gd {α:Type}{xs:List α}{i:Int}{v:α}(h:Gc xs i=some v):∃ j,seqIndex? i xs.length=some j∧xs[j]?=some v∧j<xs.length∧-(xs.length:Int)≤i∧i<xs.length:=by
 unfold Gc at h
 cases e:MG xs.length i with
 | none=>rw[e]at h;cases h
 | some j=>
  rw[e]at h
  obtain⟨h1,h2,h3,h4⟩:=JD e
  exact⟨j,h1,h,h2,h3,h4⟩
theorem CA {α:Type}{xs:List α}{j:Nat}{v:α}(h:xs[j]?=some v):Gc xs (j:Int)=some v:=by
 have hj:j<xs.length:=(List.getElem?_eq_some_iff.mp h).1
 have e:MG xs.length (j:Int)=some j:=by
  unfold MG
  rw[if_pos (by omega),if_pos (by omega)];simp
 unfold Gc;rw[e];exact h
def LT (b:Expr):Prop:=∀ o i,subscripted b false o i=operate [o,i] (getItem o i)
def LF (X:Cx)(r:R2):Prop:=
 ∀(value slice:Expr) (pins:List (Addr×Obj)) (s:Shared) (σ:St) (H:Hp) (x y:V) (v u:Value) (Q:VK),AZ X pins σ H s→Aj x v→Aj y u→r x y H Q→
  subscripted slice false v u=operate [v,u] (getItem v u)→wpAny (model X.prog X.w) X.A (subscriptTail value slice v u) (EP X pins σ Q) X.xe s
def NS (X:Cx)(id:String)(r:V→List V→Hp→VK→Prop):Prop:=
 ∀(pins:List (Addr×Obj)) (s:Shared) (σ:St) (H:Hp) (x:V) (xs:List V) (v:Value) (us:List Value) (Q:VK),AZ X pins σ H s→Aj x v→Ag xs us→r x xs H Q→
  wpAny (model X.prog X.w) X.A (call (.builtin id) (v::us)) (EP X pins σ Q) X.xe s
section
variable {X:Cx}{a b:Expr}{ta tb:TE}{pos:Pos}
theorem LF.or {r r':R2}(h:LF X r)(h':LF X r'):LF X (fun x y H Q=>r x y H Q∨r' x y H Q):=by
 intro value slice pins s σ H x y v u Q I rx ry q hs
 rcases q with q | q
 ·exact h value slice pins s σ H x y v u Q I rx ry q hs
 ·exact h' value slice pins s σ H x y v u Q I rx ry q hs
theorem NS.or {id:String}{r r':V→List V→Hp→VK→Prop}(h:NS X id r)(h':NS X id r'):NS X id (fun x xs H Q=>r x xs H Q∨r' x xs H Q):=by
 intro pins s σ H x xs v us Q I rx rs q
 rcases q with q | q
 ·exact h pins s σ H x xs v us Q I rx rs q
 ·exact h' pins s σ H x xs v us Q I rx rs q
theorem Ab {r:R2}(hr:LF X r)(ha:PE X a ta)(hb:PE X b tb)(hs:LT b):PE X (.Subscript a b pos) (Nl r ta tb):=by
 intro pins s σ H Q I h
 exact Subscript_ (Mh ha hb I h fun v u s2 x y H2 I2 rx ry q=>hr a b pins s2 σ H2 x y v u Q I2 rx ry q (hs _ _))
def Nx (K:PySem.W.Frag):R2:=fun x y H Q=>∃ p xs i v,x=.ref p∧y=.int i∧Aq K H p xs∧Gc xs i=some v∧Q v H
def Ml (K:PySem.W.Frag):R2:=fun x y H Q=>∃ p xs i v,x=.ref p∧y=.int i∧Am K H p xs∧Gc xs i=some v∧Q v H
def Ny:R2:=fun x y H Q=>∃ z i c,x=.str z∧y=.int i∧z.length≤sizeLine∧Gc z.cps.toList i=some c∧Q (.str ⟨#[c]⟩) H
theorem A6:LF X (Nx X.K):=by
 intro value slice pins s σ H x y v u Q I rx ry h hs
 obtain⟨p,xs,i,z,rfl,rfl,hq,he,q⟩:=h
 cases rx
 obtain⟨t,rfl⟩:=ry
 obtain⟨its,r,pl,hz⟩:=I.list hq
 obtain⟨j,h1,h2,h3,h4,h5⟩:=Gd he
 obtain⟨w,ew,rw'⟩:=r.get h2
 have hl:=r.length
 have hn:=Ey
 have fin:EP X pins σ Q w s:=⟨z,H,I,rw',q⟩
 by_cases h0:0≤i
 ·have hj:i.toNat=j:=by
   rw[seqIndex_of h0 h5]at h1
   exact Option.some.inj h1
  exact item_listR pl.isList h0 (by omega) (by rw[hj];simpa using ew) fin hs
 ·have hj:(i+(its.toArray.size:Int)).toNat=j:=by
   rw[seqIndex_neg (by omega) h4]at h1
   rw[List.size_toArray,← hl]
   exact Option.some.inj h1
  exact subscriptTail_builtinR (x:=w) pl.isList.typeIs slot_list_getitem.lookup
   (wpAny_getItem_list_neg (Q:=fun r s'=>r=w∧EP X pins σ Q r s') pl.isList (by omega) (by rw[List.size_toArray] <;> omega) (by omega) (by rw[hj];simpa using ew) ⟨rfl,fin⟩) hs
theorem Ae:LF X (Ml X.K):=by
 intro value slice pins s σ H x y v u Q I rx ry h hs
 obtain⟨p,xs,i,z,rfl,rfl,hq,he,q⟩:=h
 cases rx
 obtain⟨t,rfl⟩:=ry
 obtain⟨its,r,pl,hz⟩:=I.tuple hq
 obtain⟨j,h1,h2,h3,h4,h5⟩:=Gd he
 obtain⟨w,ew,rw'⟩:=r.get h2
 have hl:=r.length
 have hn:=Ey
 have fin:EP X pins σ Q w s:=⟨z,H,I,rw',q⟩
 exact subscriptTail_builtinR (x:=w) pl.typeIs slot_tuple_getitem.lookup
  (getItem_tuple (j:=j) (Q:=fun r s'=>r=w∧EP X pins σ Q r s') pl (by omega) (by omega) (by rw[List.size_toArray,← hl];exact h1) (by simpa using ew) ⟨rfl,fin⟩) hs
theorem KK:LF X Ny:=by
 intro value slice pins s σ H x y v u Q I rx ry h hs
 obtain⟨z,i,c,rfl,rfl,hz,he,q⟩:=h
 obtain⟨t,rfl⟩:=rx
 obtain⟨t',rfl⟩:=ry
 obtain⟨j,h1,h2,h3,h4,h5⟩:=Gd he
 have hl:z.cps.toList.length=z.length:=by simp[Str.length]
 rw[hl]at h1 h4 h5
 have hn:=Ey
 exact tail_any (typeIs_str s z t) slot_str_getitem.lookup (getItem_str (c:=c) (by
  have e1:decide (i < -(2 ^ 63:Int))=false:=decide_eq_false (by omega)
  have e2:decide (i≥2 ^ 63)=false:=decide_eq_false (by omega)
  rw[e1,e2,Bool.or_false]) (by rw[h1];simpa using h2) ⟨.str ⟨#[c]⟩,H,I.tok _,⟨_,rfl⟩,q⟩) hs
def TW (K:PySem.W.Frag):R2:=fun x y H Q=>Nx K x y H Q∨Ml K x y H Q∨Ny x y H Q
theorem IO (its:List Value)(n j:Nat)(u:Value):Obj.mapSeq (·.setIfInBounds j u) { cls:=.type "list",data:=.seq its.toArray n }={ cls:=.type "list",data:=.seq (its.set j u).toArray n }:=by
 simp[Obj.mapSeq]
theorem AZ.lst {pins:List (Addr×Obj)}{σ:St}{H:Hp}{s:Shared}{p:Addr}{xs:List V}(I:AZ X pins σ H s)(h:H p=some (.lst xs)):
 ∃(its:List Value) (n:Nat),Ag xs its∧s.heap.get? p=some { cls:=.type "list",data:=.seq its.toArray n }∧xs.length≤sizeLine:=by
 obtain⟨z,its,n,r,e⟩:=I.hok p _ h
 exact⟨its,n,r,e,z⟩
theorem AZ.lstUpd {pins:List (Addr×Obj)}{σ:St}{H:Hp}{s:Shared}{p:Addr}{xs ys:List V}{its its':List Value}{n n':Nat}{f:Obj→Obj}(I:AZ X pins σ H s)(h:H p=some (.lst xs))
 (ho:s.heap.get? p=some { cls:=.type "list",data:=.seq its.toArray n }) (hf:f { cls:=.type "list",data:=.seq its.toArray n }={ cls:=.type "list",data:=.seq its'.toArray n' }) (r:Ag ys its') (hz:ys.length≤sizeLine) (t:Nat):
 AZ X pins σ (upd H p (.lst ys)) { s with heap:=s.heap.update p f,toks:=t }:=by
 have e:(s.heap.update p f).get? p=some { cls:=.type "list",data:=.seq its'.toArray n' }:=by
  rw[Heap.get?_update_self f ho (by rw[hf] <;> rfl),hf]
 refine I.write (x:=p) (e:=p) (by rw[h];trivial) (.inl rfl) (fun b u hb q=>(Heap.get?_update_other _ _ (Ne.symm hb)).trans q) ⟨_,e⟩ ?_
 exact⟨hz,its',n',r,e⟩
def Nz:V→V→V→Hp→(Hp→Prop)→Prop:=fun o i v H Q=>∃ p xs k j,o=.ref p∧i=.int k∧H p=some (.lst xs)∧MG xs.length k=some j∧Q (upd H p (.lst (xs.set j v)))
theorem Fv:Nf X Nz:=by
 intro pins s σ H o i v ov iv u Q I ro ri rv h
 obtain⟨p,xs,k,j,rfl,rfl,hp,hj,q⟩:=h
 cases ro
 obtain⟨t,rfl⟩:=ri
 obtain⟨its,n,r,ho,hz⟩:=I.lst hp
 obtain⟨h1,h2,h3,h4⟩:=JD hj
 have hl:=r.length
 have hn:=Ey
 have I':AZ X pins σ (upd H p (.lst (xs.set j v))) { s with heap:=s.heap.update p (Obj.mapSeq (·.setIfInBounds j u)) }:=
  I.lstUpd hp ho (IO its n j u) (r.set rv j) (by rw[List.length_set];exact hz) s.toks
 by_cases h0:0≤k
 ·have hk:k.toNat=j:=by
   rw[seqIndex_of h0 h4]at h1
   exact Option.some.inj h1
  exact PySem.W.ki_setAt ho h0 (by omega) (by rw[List.size_toArray,← hl];exact h4) (by rw[hk];exact⟨_,I',q⟩)
 ·have hk:(k+(its.toArray.size:Int)).toNat=j:=by
   rw[seqIndex_neg (by omega) h3]at h1
   rw[List.size_toArray,← hl]
   exact Option.some.inj h1
  exact PySem.W.ki_setBack ho (by omega) (by rw[List.size_toArray,← hl];exact h3) (by omega) (by rw[hk];exact⟨_,I',q⟩)
theorem Ge (lo hi:Option Int)(n:Nat):(sliceBounds lo hi none n).1=((HT.Bq n 0 lo:Nat):Int)∧(sliceBounds lo hi none n).2.1=((HT.Bq n n hi:Nat):Int)∧(sliceBounds lo hi none n).2.2=1:=by
 refine⟨?_,?_,rfl⟩
 ·cases lo with
  | none=>simp[sliceBounds,HT.Bq]
  | some i=>
   simp only[sliceBounds,HT.Bq,Option.getD_none,show(1:Int)>0 by decide,if_true]
   by_cases h:i<0
   ·simp only[h,if_true] <;> omega
   ·simp only[h,if_false] <;> omega
 ·cases hi with
  | none=>simp[sliceBounds,HT.Bq]
  | some i=>
   simp only[sliceBounds,HT.Bq,Option.getD_none,show(1:Int)>0 by decide,if_true]
   by_cases h:i<0
   ·simp only[h,if_true] <;> omega
   ·simp only[h,if_false] <;> omega
theorem F7 (its:List Value)(lo hi:Option Int):slicePick its.toArray lo hi none=((its.drop (HT.Bq its.length 0 lo)).take (HT.Bq its.length its.length hi-HT.Bq its.length 0 lo)).toArray:=by
 obtain⟨h1,h2,h3⟩:=Ge lo hi its.toArray.size
 unfold slicePick
 rw[h1,h2,h3]
 simp only[sliceRange_one,pick_run,List.size_toArray] <;> rfl
def QG (K:PySem.W.Frag):V→Option Int→Option Int→Hp→VK→Prop:=fun x lo hi H Q=>∃ a xs,x=.ref a∧Aq K H a xs∧∀ p,H p=none→Q (.ref p) (upd H p (.lst (EE xs lo hi)))
theorem JE:MF X (QG X.K):=by
 intro pins s σ H x v vl vu lo hi sl Q I rx hs pl pu h
 obtain⟨a,xs,rfl,hx,q⟩:=h
 cases rx
 obtain⟨its,r,ht,hz⟩:=I.list hx
 have hlen:=r.length
 refine⟨"list",_,slot_list_getitem.lookup,ht.isList.typeIs,?_⟩
 refine wpAny_getItem_list_slice ht.isList hs pl pu .none (by simp) ?_ (by rw[List.size_toArray] <;> omega)
 rw[F7,← hlen]
 refine⟨.ref s.heap.objs.size,_,I.laid (t':=s.toks) (o:=.lst (EE xs lo hi)) (fun b ob q=>Heap.get?_push_of_some _ q) (Nat.le_refl _) ?_,rfl,q _ (I.hok.fresh (Nat.le_refl _))⟩
 exact⟨Nat.le_trans (DZ xs lo hi) hz,_,0,(r.drop (HT.Bq xs.length 0 lo)).take (HT.Bq xs.length xs.length hi-HT.Bq xs.length 0 lo),Heap.get?_push_size _ rfl⟩
def Au:V→Bool
 | .non=>true
 | .bl _=>true
 | .int _=>true
 | .str _=>true
 | _=>false
def IP:V→V→Bool
 | .non,.non=>true
 | .bl a,.bl b=>a==b
 | .bl a,.int b=>(if a then 1 else 0)==b
 | .int a,.bl b=>a==(if b then 1 else 0)
 | .int a,.int b=>a==b
 | .str a,.str b=>a==b
 | _,_=>false
theorem KL {A:Around}{s:Shared}{y x:V}{u v:Value}(ry:Aj y u)(rx:Aj x v)(fy:Au y=true)(fx:Au x=true):SeqAt.EqAt A s u v (IP y x):=by
 cases y with
 | non=>
  cases ry
  cases x with
  | non=>cases rx;exact SeqAt.EqAt.same _
  | bl b=>cases rx;exact SeqAt.EqAt.none_bool b
  | int b=>obtain⟨t,rfl⟩:=rx;exact SeqAt.EqAt.none_int b t
  | str b=>obtain⟨t,rfl⟩:=rx;exact SeqAt.EqAt.none_str b t
  | _=>exact absurd (show false=true from fx) Bool.false_ne_true
 | bl a=>
  cases ry
  cases x with
  | non=>cases rx;exact SeqAt.EqAt.bool_none a
  | bl b=>cases rx;exact SeqAt.EqAt.bool_bool a b
  | int b=>obtain⟨t,rfl⟩:=rx;exact SeqAt.EqAt.bool_int a b t
  | str b=>obtain⟨t,rfl⟩:=rx;exact SeqAt.EqAt.bool_str a b t
  | _=>exact absurd (show false=true from fx) Bool.false_ne_true
 | int a=>
  obtain⟨t',rfl⟩:=ry
  cases x with
  | non=>cases rx;exact SeqAt.EqAt.int_none a t'
  | bl b=>cases rx;exact SeqAt.EqAt.int_bool a t' b
  | int b=>obtain⟨t,rfl⟩:=rx;exact SeqAt.EqAt.int_int a t' b t
  | str b=>obtain⟨t,rfl⟩:=rx;exact SeqAt.EqAt.int_str a t' b t
  | _=>exact absurd (show false=true from fx) Bool.false_ne_true
 | str a=>
  obtain⟨t',rfl⟩:=ry
  cases x with
  | non=>cases rx;exact SeqAt.EqAt.str_none a t'
  | bl b=>cases rx;exact SeqAt.EqAt.str_bool a t' b
  | int b=>obtain⟨t,rfl⟩:=rx;exact SeqAt.EqAt.str_int a t' b t
  | str b=>obtain⟨t,rfl⟩:=rx;exact SeqAt.EqAt.str_str a t' b t
  | _=>exact absurd (show false=true from fx) Bool.false_ne_true
 | _=>exact absurd (show false=true from fy) Bool.false_ne_true
def IQ (x:V)(u:Value):Bool:=match u with
 | .none=>IP .non x
 | .bool b=>IP (.bl b) x
 | .int i _=>IP (.int i) x
 | .str z _=>IP (.str z) x
 | _=>false
theorem KM {x y:V}{u:Value}(r:Aj y u)(f:Au y=true):IQ x u=IP y x:=by
 cases y with
 | non=>cases r;rfl
 | bl b=>cases r;rfl
 | int i=>obtain⟨t,rfl⟩:=r;rfl
 | str z=>obtain⟨t,rfl⟩:=r;rfl
 | _=>exact absurd (show false=true from f) Bool.false_ne_true
theorem Ef {x:V}:∀{xs:List V} {us:List Value},Ag xs us→xs.all Au=true→us.any (IQ x)=xs.any fun y=>IP y x
 | _,_,.nil,_=>rfl
 | y::xs,u::us,.cons r t,f=>by
  rw[List.all_cons,Bool.and_eq_true]at f
  rw[List.any_cons,List.any_cons,KM r f.1,Ef t f.2]
theorem Da {A:Around}{s:Shared}{x:V}{v:Value}(rx:Aj x v)(fx:Au x=true):∀{xs:List V} {us:List Value},Ag xs us→xs.all Au=true→∀ u∈us,SeqAt.EqAt A s u v (IQ x u)
 | _,_,.nil,_=>fun u hu=>by cases hu
 | y::xs,u::us,.cons r t,f=>fun u' hu=>by
  rw[List.all_cons,Bool.and_eq_true]at f
  rcases List.mem_cons.mp hu with rfl | hu
  ·rw[KM r f.1];exact KL r rx f.1 fx
  ·exact Da rx fx t f.2 u' hu
def Hv (x:V)(xs:List V):Bool:=xs.any fun y=>IP y x
def RF (K:PySem.W.Frag)(neg:Bool):R2:=fun x y H Q=>∃ p xs,y=.ref p∧(Aq K H p xs∨Am K H p xs)∧Au x=true∧xs.all Au=true∧Q (.bl (if neg then !Hv x xs else Hv x xs)) H
theorem GO:EM X (compareOp .In) (RF X.K false):=by
 intro pins s σ H x y v u Q I rx ry h
 obtain⟨p,xs,rfl,hq,fx,fs,q⟩:=h
 cases ry
 rcases hq with hq | hq
 ·obtain⟨its,r,pl,hz⟩:=I.list hq
  refine SeqAt.in_listAt (IQ x) pl.isList (fun w hw=>Da rx fx r fs w (by simpa using hw)) ⟨.bl _,H,I,rfl,?_⟩
  rw[show its.toArray.any (IQ x)=its.any (IQ x)by simp,Ef r fs]
  exact q
 ·obtain⟨its,r,pl,hz⟩:=I.tuple hq
  refine SeqAt.in_tupleAt (IQ x) pl (fun w hw=>Da rx fx r fs w (by simpa using hw)) ⟨.bl _,H,I,rfl,?_⟩
  rw[show its.toArray.any (IQ x)=its.any (IQ x)by simp,Ef r fs]
  exact q
theorem Eg:EM X (compareOp .NotIn) (RF X.K true):=by
 intro pins s σ H x y v u Q I rx ry h
 obtain⟨p,xs,rfl,hq,fx,fs,q⟩:=h
 cases ry
 rcases hq with hq | hq
 ·obtain⟨its,r,pl,hz⟩:=I.list hq
  refine SeqAt.notIn_listAt (IQ x) pl.isList (fun w hw=>Da rx fx r fs w (by simpa using hw)) ⟨.bl _,H,I,rfl,?_⟩
  rw[show its.toArray.any (IQ x)=its.any (IQ x)by simp,Ef r fs]
  exact q
 ·obtain⟨its,r,pl,hz⟩:=I.tuple hq
  refine SeqAt.notIn_tupleAt (IQ x) pl (fun w hw=>Da rx fx r fs w (by simpa using hw)) ⟨.bl _,H,I,rfl,?_⟩
  rw[show its.toArray.any (IQ x)=its.any (IQ x)by simp,Ef r fs]
  exact q
theorem An:CU X (.builtin "len") (fun xs H Q=>∃ p ys,xs=[.ref p]∧(Aq X.K H p ys∨Am X.K H p ys)∧Q (.int ys.length) H):=by
 intro pins s σ H xs us Q I r h
 obtain⟨p,ys,rfl,hq,q⟩:=h
 obtain⟨u,rfl,rx⟩:=HH r
 cases rx
 have hn:=Ey
 rcases hq with hq | hq
 ·obtain⟨its,r',pl,hz⟩:=I.list hq
  have hlen:=r'.length
  exact Calls.call_len_list pl.isList (by simp only[List.size_toArray] <;> omega) ⟨.int ys.length,H,I.tok _,⟨s.toks+1,by rw[List.size_toArray,hlen]⟩,q⟩
 ·obtain⟨its,r',pl,hz⟩:=I.tuple hq
  have hlen:=r'.length
  exact len_tuple pl (by simp only[List.size_toArray] <;> omega) ⟨.int ys.length,H,I.tok _,⟨s.toks+1,by rw[List.size_toArray,hlen]⟩,q⟩
theorem Eh:CU X (.builtin "len") (fun xs H Q=>∃ z,xs=[.str z]∧z.length≤sizeLine∧Q (.int z.length) H):=by
 intro pins s σ H xs us Q I r h
 obtain⟨z,rfl,hz,q⟩:=h
 obtain⟨u,rfl,t,rfl⟩:=HH r
 have hn:=Ey
 exact len_str (by omega) ⟨.int z.length,H,I.tok _,⟨_,rfl⟩,q⟩
theorem CU.or {f:Value}{r r':List V→Hp→VK→Prop}(h:CU X f r)(h':CU X f r'):CU X f (fun xs H Q=>r xs H Q∨r' xs H Q):=by
 intro pins s σ H xs us Q I rs q
 rcases q with q | q
 ·exact h pins s σ H xs us Q I rs q
 ·exact h' pins s σ H xs us Q I rs q
theorem DD:CU X (.type "list") (fun xs H Q=>∃ p ys,xs=[.ref p]∧(Aq X.K H p ys∨Am X.K H p ys)∧∀ l,H l=none→Q (.ref l) (upd H l (.lst ys))):=by
 intro pins s σ H xs us Q I r h
 obtain⟨p,ys,rfl,hq,q⟩:=h
 obtain⟨u,rfl,rx⟩:=HH r
 cases rx
 have fin:∀(its:List Value),Ag ys its→ys.length≤sizeLine→∀(h':Heap) (c':Nat),(∀ b o',s.heap.get? b=some o'→h'.get? b=some o')→
  h'.get? s.heap.objs.size=some { cls:=.type "list",dict:=none,data:=.seq its.toArray c',slots:=#[] }→EP X pins σ Q (.ref s.heap.objs.size) { s with heap:=h' }:=fun its r' hz h' c' kp e=>
  ⟨.ref s.heap.objs.size,_,I.laid (t':=s.toks) kp (Nat.le_refl _) (show A7 X.prog X.w _ h' _ (.lst ys)from⟨hz,its,c',r',e⟩),rfl,q _ (I.hok.fresh (Nat.le_refl _))⟩
 rcases hq with hq | hq
 ·obtain⟨its,r',pl,hz⟩:=I.list hq
  have hlen:=r'.length
  obtain⟨o,ho,hc,n,hd⟩:=pl.isList
  exact call_list_seq p (.inl rfl) ho hc hd (fun h' c' kp e=>fin its r' hz h' c' kp e) (by simp only[List.size_toArray] <;> omega)
 ·obtain⟨its,r',pl,hz⟩:=I.tuple hq
  have hlen:=r'.length
  obtain⟨o,ho,hc,n,hd⟩:=pl
  exact call_list_seq p (.inr rfl) ho hc hd (fun h' c' kp e=>fin its r' hz h' c' kp e) (by simp only[List.size_toArray] <;> omega)
theorem Bh:CU X (.type "tuple") (fun xs H Q=>∃ p ys,xs=[.ref p]∧((Aq X.K H p ys∧∀ l,H l=none→Q (.ref l) (upd H l (.tup ys)))∨(Am X.K H p ys∧Q (.ref p) H))):=by
 intro pins s σ H xs us Q I r h
 obtain⟨p,ys,rfl,h⟩:=h
 obtain⟨u,rfl,rx⟩:=HH r
 cases rx
 rcases h with⟨hq,q⟩ | ⟨hq,q⟩
 ·obtain⟨its,r',pl,hz⟩:=I.list hq
  have hlen:=r'.length
  refine call_tuple_list pl.isList (fun h' kp=>?_) (by simp only[List.size_toArray] <;> omega)
  have I1:AZ X pins σ H { s with heap:=h' }:=I.kept (t':=s.toks) kp
  have I2:AZ X pins σ (upd H h'.objs.size (.tup ys)) { s with heap:=h'.push { cls:=.type "tuple",data:=.seq its.toArray } }:=
   I1.laid (t':=s.toks) (fun b o e=>Heap.get?_push_of_some _ e) (Nat.le_refl _) (show A7 X.prog X.w _ _ _ (.tup ys)from⟨hz,its,r',IsTup.new _ _⟩)
  exact⟨.ref h'.objs.size,_,I2,rfl,q _ (I1.hok.fresh (Nat.le_refl _))⟩
 ·obtain⟨its,r',pl,hz⟩:=I.tuple hq
  exact call_tuple_same pl ⟨.ref p,H,I,rfl,q⟩
def QH (K:PySem.W.Frag)(T:String)(x:V)(H:Hp):Prop:=match x with
 | .str _=>T="str"
 | .int _=>T="int"
 | .ref p=>(T="list"∧∃ xs,Aq K H p xs)∨(T="tuple"∧∃ o,K.lookup p=some o∧o.cls=.type "tuple"∧o.dict=none)∨
  (T="dict"∧((∃ kvs,H p=some (.dK kvs))∨∃ kvs,H p=some (.dT kvs)))∨(T="set"∧∃ S n,H p=some (.set S n))
 | _=>False
theorem Mm {pins:List (Addr×Obj)}{σ:St}{H:Hp}{s:Shared}{T:String}{x:V}{v:Value}(I:AZ X pins σ H s)(r:Aj x v)(ty:QH X.K T x H):
 s.TypeIs v T∧∀ a,v=.ref a→∃ ob,s.heap.get? a=some ob∧ob.dict=none:=by
 cases x with
 | str z=>
  obtain⟨t,rfl⟩:=r
  cases (show T="str" from ty)
  exact⟨typeIs_str s z t,fun _ e=>nomatch e⟩
 | int i=>
  obtain⟨t,rfl⟩:=r
  cases (show T="int" from ty)
  exact⟨typeIs_int s i t,fun _ e=>nomatch e⟩
 | ref p=>
  cases r
  rcases ty with⟨rfl,xs,hq⟩ | ⟨rfl,o,hk,hc,hd⟩ | ⟨rfl,hk⟩ | ⟨rfl,S,n,hk⟩
  ·obtain⟨its,_,pl,_⟩:=I.list hq
   refine⟨pl.isList.typeIs,fun a e=>?_⟩
   cases e
   obtain⟨o,n,e,c,hd,_⟩:=pl
   exact⟨o,e,hd⟩
  ·refine⟨⟨o,I.kIn p o hk,hc⟩,fun a e=>?_⟩
   cases e
   exact⟨o,I.kIn _ o hk,hd⟩
  ·have z:∃ o,s.heap.get? p=some o∧o.ExactDict:=by
    rcases hk with⟨kvs,hk⟩ | ⟨kvs,hk⟩
    ·obtain⟨_,_,_,_,o,_,_,e,ex,_⟩:=I.hok p _ hk
     exact⟨o,e,ex⟩
    ·obtain⟨_,_,_,_,o,_,_,e,ex,_⟩:=I.hok p _ hk
     exact⟨o,e,ex⟩
   obtain⟨o,e,ex⟩:=z
   refine⟨⟨o,e,ex.1⟩,fun a e2=>?_⟩
   cases e2
   exact⟨o,e,ex.2.1⟩
  ·obtain⟨o,_,_,_,e,ex,_⟩:=I.hok p _ hk
   refine⟨⟨o,e,ex.1⟩,fun a e2=>?_⟩
   cases e2
   exact⟨o,e,ex.2.1⟩
 | _=>exact False.elim ty
def SR (K:PySem.W.Frag)(T:String)(r:V→List V→Hp→VK→Prop)(to:TE):TE:=fun σ H Q=>to σ H fun x H1=>QH K T x H1∧r x [] H1 Q
def SS (K:PySem.W.Frag)(T:String)(r:V→List V→Hp→VK→Prop)(to:TE)(t:TA):TE:=fun σ H Q=>to σ H fun x H1=>QH K T x H1∧t σ H1 fun xs H2=>r x xs H2 Q
variable {o e:Expr}{es:List Expr}{to:TE}{t:TA}{name:Str}{apos cpos:Pos}{T id:String}{r:V→List V→Hp→VK→Prop}
theorem JF (pa:PlainAttrs T)(slot:Slot T name id)(hty:typeOf (.builtin id)=pure (.type "method_descriptor"))(hm:NS X id r)(ho:PE X o to)(ha:PA X (e::es) t)
 (hbase:attributeBase o name X.env (eval o X.env)=eval o X.env:=by rfl)
 (hfew:((backTo cpos (starEach (e::es) X.env)).all (fun x=>!x.1)&&(backToKw cpos (keywordEach [] X.env)).all (fun x=>x.1.isSome)
  && decide ((e::es).length+([]:List Keyword).length+(if([]:List Keyword).isEmpty then 0 else 1)<30))=true:=by rfl)
 (hline:(apos.endLine==cpos.line)=true:=by rfl) (hs:starEach (e::es) X.env=(false,eval e X.env)::starEach es X.env:=by rfl) (hplain:(backTo cpos (starEach es X.env)).any (·.1)=false:=by rfl):
 PE X (.Call (.Attribute o name apos) (e::es) [] cpos) (SS X.K T r to t):=by
 intro pins s σ H Q I h
 refine wpAny_Call_method_late hbase hfew hline rfl (BJ (ho pins s σ H _ I h) fun v s1 zq=>?_)
 obtain⟨x,H1,I1,r1,ty,q1⟩:=zq
 obtain⟨h1,h2⟩:=Mm I1 r1 ty
 refine⟨T,id,pa,slot,hty,h1,h2,?_⟩
 have hA:=ha cpos pins s1 σ H1 _ I1 q1
 rw[hs]at hA ⊢
 refine Calls.callWith_builtin (by show(false||(backTo cpos (starEach es X.env)).any (·.1))=false;rw[hplain] <;> rfl) (Calls.evalArgs_plain ?_)
 exact BJ hA fun us s2 ⟨vs,H2,I2,r2,q2⟩=>hm pins s2 σ H2 x vs v us Q I2 r1 r2 q2
/- xs.append(e),list.index on a module's tuple .. are NS facts of 06m -/
end
def RG (X:Cx)(id:String)(r:V→List V→Hp→VK→Prop):Prop:=
 ∀(pins:List (Addr×Obj)) (s:Shared) (σ:St) (H:Hp) (x:V) (xs:List V) (v:Value) (us:List Value) (Q:VK),AZ X pins σ H s→Aj x v→Ag xs us→r x xs H Q→
  wpAny (model X.prog X.w) X.A (call (.builtin id) (v::us)) (EP X pins σ Q) X.xe s
theorem Ag.one {x:V}{us:List Value}(h:Ag [x] us):∃ u,us=[u]∧Aj x u:=by
 cases h with
 | cons r t=>
  cases t
  exact⟨_,rfl,r⟩
theorem Ag.two {x y:V}{us:List Value}(h:Ag [x,y] us):∃ u v,us=[u,v]∧Aj x u∧Aj y v:=by
 cases h with
 | cons r t=>
  cases t with
  | cons q t=>
   cases t
   exact⟨_,_,rfl,r,q⟩
theorem Ag.zero:∀{us:List Value},Ag [] us→us=[]
 | _,.nil=>rfl
theorem Ag.dropLast {xs:List V}{us:List Value}(h:Ag xs us):Ag xs.dropLast us.dropLast:=by
 induction h with
 | nil=>exact .nil
 | cons r t ih=>
  cases t with
  | nil=>exact .nil
  | cons q t'=>exact .cons r ih
theorem Ag.eraseIdx:∀{xs:List V} {us:List Value} (i:Nat),Ag xs us→Ag (xs.eraseIdx i) (us.eraseIdx i)
 | _,_,_,.nil=>.nil
 | _,_,0,.cons _ t=>t
 | _,_,i+1,.cons r t=>.cons r (Ag.eraseIdx i t)
theorem Ag.reverse {xs:List V}{us:List Value}(h:Ag xs us):Ag xs.reverse us.reverse:=by
 induction h with
 | nil=>exact .nil
 | cons r t ih=>rw[List.reverse_cons,List.reverse_cons];exact Ag.append ih (.cons r .nil)
section
variable {X:Cx}{pins:List (Addr×Obj)}{σ:St}{H:Hp}{s:Shared}{l b:Addr}{xs ys zs:List V}
theorem AZ.lset {its its':List Value}{n:Nat}{f:Array Value→Array Value}{t':Nat}(I:AZ X pins σ H s)(hH:H l=some (.lst xs))
 (e:s.heap.get? l=some { cls:=.type "list",data:=.seq its.toArray n }) (hf:f its.toArray=its'.toArray) (hv:Ag ys its') (hz:ys.length≤sizeLine):
 AZ X pins σ (upd H l (.lst ys)) { s with heap:=s.heap.update l (Obj.mapSeq f),toks:=t' }:=by
 have q:=PySem.IsL.update e f
 rw[hf]at q
 refine I.write (x:=l) (e:=l) (by rw[hH];exact trivial) (.inl rfl) (fun b' u hb hu=>(Heap.get?_update_other s.heap (Obj.mapSeq f) (Ne.symm hb)).trans hu) ⟨_,q⟩ ?_
 exact⟨hz,its',_,hv,q⟩
theorem AZ.lnew {its:List Value}{t':Nat}(I:AZ X pins σ H s)(hv:Ag ys its)(hz:ys.length≤sizeLine):
 AZ X pins σ (upd H s.heap.objs.size (.lst ys)) { s with heap:=s.heap.push { cls:=.type "list",data:=.seq its.toArray },toks:=t' }:=
 I.laid (fun _ _ q=>Heap.get?_push_of_some _ q) (Nat.le_refl _) ⟨hz,its,0,hv,Heap.get?_push_size _ rfl⟩
theorem AZ.fresh (I:AZ X pins σ H s):H s.heap.objs.size=none:=I.hok.fresh (Nat.le_refl _)
theorem AZ.lstM (I:AZ X pins σ H s)(hH:H l=some (.lst xs)):xs.length≤sizeLine∧∃(its:List Value) (n:Nat),Ag xs its∧xs.length=its.length∧s.heap.get? l=some { cls:=.type "list",data:=.seq its.toArray n }:=by
 obtain⟨z,its,n,r,e⟩:=I.hok l _ hH
 exact⟨z,its,n,r,r.length,e⟩
theorem KN {n:Nat}(h:n≤sizeLine):Builtin.List.listTooLong n=false:=by
 unfold Builtin.List.listTooLong
 exact decide_eq_false (by omega)
end
section
variable {X:Cx}
def LU:V→List V→Hp→VK→Prop:=fun x vs H Q=>∃ l xs y,x=.ref l∧vs=[y]∧H l=some (.lst xs)∧xs.length<sizeLine∧Q .non (upd H l (.lst (xs++[y])))
theorem Cv:RG X "list.append" LU:=by
 intro pins s σ H x vs v us Q I rx rv h
 obtain⟨l,xs,y,rfl,rfl,hH,hz,q⟩:=h
 cases rx
 obtain⟨u,rfl,ru⟩:=rv.one
 obtain⟨z,its,n,r,hl,e⟩:=I.lstM hH
 refine call_meets F.slot_list_append ⟨_,e,rfl⟩ F.entry_list_append (F.args_list_append_2 _ _) (PySem.list_append l its.toArray n u (by rw[List.size_toArray];omega)) ⟨e,?_⟩
 refine⟨.non,_,I.lset (its':=its++[u]) hH e (by simp) (r.append (.cons ru .nil)) ?_,rfl,q⟩
 rw[List.length_append,List.length_singleton]
 omega
def LV:V→List V→Hp→VK→Prop:=fun x vs H Q=>∃ l b xs zs,x=.ref l∧vs=[.ref b]∧H l=some (.lst xs)∧H b=some (.lst zs)∧xs.length+zs.length≤sizeLine∧Q .non (upd H l (.lst (xs++zs)))
theorem Jl:RG X "list.extend" LV:=by
 intro pins s σ H x vs v us Q I rx rv h
 obtain⟨l,b,xs,zs,rfl,rfl,hH,hB,hz,q⟩:=h
 cases rx
 obtain⟨u,rfl,ru⟩:=rv.one
 cases ru
 obtain⟨z,its,n,r,hl,e⟩:=I.lstM hH
 obtain⟨z2,its2,n2,r2,hl2,e2⟩:=I.lstM hB
 have hsz:its.toArray.size+its2.toArray.size≤sizeLine:=by rw[List.size_toArray,List.size_toArray];omega
 have hlong:¬ (!its.toArray.isEmpty&&Builtin.List.listTooLong (its.toArray.size+its2.toArray.size))=true:=by
  rw[KN hsz,Bool.and_false]
  exact Bool.false_ne_true
 refine call_meets F.slot_list_extend ⟨_,e,rfl⟩ F.entry_list_extend (F.args_list_extend_2 _ _)
  (AutoSeq1.list_extend_list_list_0 l its.toArray n b its2.toArray n2 hlong (by rw[List.size_toArray];omega) (by omega)) ⟨e,e2,?_⟩
 refine⟨.non,_,I.lset (its':=its++its2) hH e (by simp) (r.append r2) ?_,rfl,q⟩
 rw[List.length_append]
 omega
def ST:V→List V→Hp→VK→Prop:=fun x vs H Q=>∃ l xs y,x=.ref l∧vs=[]∧H l=some (.lst xs)∧xs[xs.length-1]?=some y∧Q y (upd H l (.lst xs.dropLast))
def QI:V→List V→Hp→VK→Prop:=fun x vs H Q=>∃ l xs i k y,x=.ref l∧vs=[.int i]∧H l=some (.lst xs)∧-(2 ^ 63)≤i∧i<2 ^ 63∧seqIndex? i xs.length=some k∧xs[k]?=some y∧Q y (upd H l (.lst (xs.eraseIdx k)))
def N1:V→List V→Hp→VK→Prop:=fun x vs H Q=>∃ l xs,x=.ref l∧vs=[]∧H l=some (.lst xs)∧Q .non (upd H l (.lst xs.reverse))
def QJ:V→List V→Hp→VK→Prop:=fun x vs H Q=>∃ l xs,x=.ref l∧vs=[]∧H l=some (.lst xs)∧Q .non (upd H l (.lst []))
def QK:R2:=fun x y H Q=>∃ l b xs zs,x=.ref l∧y=.ref b∧H l=some (.lst xs)∧H b=some (.lst zs)∧xs.length+zs.length≤sizeLine∧∀ p,H p=none→Q (.ref p) (upd H p (.lst (xs++zs)))
theorem Mn:EM X (binaryOp .Add) QK:=by
 intro pins s σ H x y v u Q I rx ry h
 obtain⟨l,b,xs,zs,rfl,rfl,hH,hB,hz,q⟩:=h
 cases rx
 cases ry
 obtain⟨z,its,n,r,hl,e⟩:=I.lstM hH
 obtain⟨z2,its2,n2,r2,hl2,e2⟩:=I.lstM hB
 refine PySem.P.add_list e e2 ?_ (by rw[List.size_toArray,List.size_toArray];omega)
 have ea:its.toArray++its2.toArray=(its++its2).toArray:=by simp
 rw[ea]
 exact⟨.ref _,_,I.lnew (t':=s.toks) (r.append r2) (by rw[List.length_append];omega),rfl,q _ I.fresh⟩
def SU:R2:=fun x y H Q=>∃ l k xs,x=.ref l∧y=.int k∧H l=some (.lst xs)∧-(2 ^ 63)≤k∧k<2 ^ 63∧xs.length*k.toNat≤sizeLine∧
 ∀ p,H p=none→Q (.ref p) (upd H p (.lst (List.replicate k.toNat xs).flatten))
end
section
variable {prog:Program}{w:World}{A:Around}{E:Value→Shared→Prop}{s:Shared}
end
section
variable {X:Cx}
end
end L2
namespace Att
open PySem PySem.W PySem.Calls PyProof.Rows
theorem FW {P:Params}{h:Heap}:∀(ns:List Int) (vs:List Value),WellAll P h vs (ns.map WData.int)→IntsAre vs ns:=by
 intro ns
 induction ns with
 | nil=>
  intro vs w
  rw[List.map_nil]at w
  cases w
  exact .nil
 | cons n ns ih=>
  intro vs w
  rw[List.map_cons]at w
  cases w with
  | cons a b=>
   cases a
   exact .cons _ _ (ih _ b)
theorem Jm {l:OpenLaw}{n:Nat}(hn:l.most=some n){P:Params}{h:Heap}{args:List WData}{vals:List Value}
 (hpre:l.row.toRowW.claim.pre args=true) (hwl:WellAll P h vals args):
 ∃ a vs ns,vals=[Value.ref a]∧args=[WData.list (ns.map WData.int)]∧h.get? a=some { cls:=.type "list",data:=.seq vs.toArray }∧IntsAre vs ns∧ns.length≤n:=by
 have hsh:WShape.hasAll [] args [.list .int]=true:=(pre_splitW hpre).1
 have hc:l.pre.holds [] { args:=args }=true:=(pre_splitW hpre).2
 obtain⟨d,r,rfl,h1,h2⟩:=hasAllW_cons hsh
 obtain rfl:=hasAllW_nil h2
 obtain⟨xs,rfl,h3⟩:=hasW_list h1
 obtain⟨ns,rfl⟩:=items_int h3
 have hlen:ns.length≤n:=by
  unfold OpenLaw.pre at hc
  have h4:(WTm.not (.lt (.lit (.int (n:Int))) (.len (.arg 0)))).holds [] { args:=[.list (ns.map .int)] }=true:=by
   have h4:=(holds_andW hc).1
   rw[hn]at h4
   exact h4
  have h5:=condW_of h4 (w_not (w_lt w_lit (w_len_list (w_arg rfl))))
  rw[List.length_map]at h5
  refine Nat.le_of_not_lt fun q=>?_
  have q':(n:Int)<((ns.length:Nat):Int):=by omega
  first
   | (rw[decide_eq_true q']at h5;exact absurd h5 (by decide))
   | (simp at h5;omega)
 cases hwl with
 | cons w1 w2=>
  cases w2
  cases w1 with
  | list ho hall=>exact⟨_,_,ns,rfl,rfl,ho,FW ns _ hall,hlen⟩
theorem Jn (l:OpenLaw)(args:List WData):l.row.toRowW.claim.post args (.bool true) args=true:=
 postW_of (r:=l.row.toRowW) (X:=(true==true))
  (show WShape.has [] (.bool true) .bool=true by first | rfl | decide | simp[WShape.has,WShape.arms,WShape.armsAll])
  (show(WTm.eq .res (.lit (.bool true))).value [] { args:=args,res:=some (.bool true),after:=args }=some (.bool (true==true))from w_eq_bool (w_res rfl) w_lit) rfl
theorem FL {l:OpenLaw}{n:Nat}{q:Program}{loose:List Str}{XP:(Str→Option Value)→Heap→Prop}{YP:World→Heap→Prop}{d:DefRec}
 (hn:l.most=some n) (hdf:d.params.defaults=[])
 (call:∀(w:World) (s₀ s₁:Shared) (mg mb:Str→Option Value) (fa:Addr) (o:Obj) (pm cd doc:Value) (a:Addr) (vs:List Value) (ns:List Int),
  Ground q loose [] XP w s₀ mg mb s₁.heap→YP w s₁.heap→
  s₁.heap.get? fa=some o→o.data=.func (docDef d.name d.params d.body d.scope pm cd doc)→s₁.heap.CodeRec cd d.name→mg d.name=some (.ref fa)→
  s₁.heap.get? a=some { cls:=.type "list",data:=.seq vs.toArray }→IntsAre vs ns→ns.length≤n→s₁.gens=#[]→
  codeAny (model l.prog w) callerA (.call (.ref fa) ⟨[.ref a],[]⟩) (fun r s'=>r=.ok (.ret (.bool true))∧OldK s₁.heap s'.heap∧s'.os=s₁.os∧AllBare s'.gens) s₁):
 WalkO q loose XP YP l.row.toRowW d [] (fun f vs=>PySem.call f vs):=by
 intro w s₀ s₁ mg mb G Y fa o pm cd doc dV kV ho hd hcd hD hmg hg args vals as hpre hlay hrd hwl hlo
 obtain rfl:dV=.none:=Dflts.none hD hdf
 obtain rfl:kV=.none:=Dflts.noKw hD
 obtain⟨a,vs,ns,rfl,rfl,hobj,hints,hlen⟩:=Jm hn hpre hwl
 refine enter_call (codeAny_mono (call w s₀ s₁ mg mb fa o pm cd doc a vs ns G Y ho (fd_plain hd) hcd hmg hobj hints hlen hg) fun r s' hq=>?_)
 obtain⟨rfl,h2,h3,h4⟩:=hq
 exact⟨.inl ⟨.bool true,.bool true,[],rfl,fun _=>rfl,.bool true,Jn l _,fun _=>⟨List.Pairwise.nil,fun _ hm=>(nomatch hm)⟩⟩,h2,h3,h4⟩
section
variable {prog:Program}{w:World}{A:Around}{E:Value→Shared→Prop}{s:Shared}{K:Frag}
def QL (h:Heap):Heap:={ h with objs:=#[] }
def QM (h:Heap)(L d:Addr):List (Addr×Obj):=(List.range h.objs.size).filterMap fun a=>if a=L∨a=d then none else(h.get? a).map fun o=>(a,o)
end
end Att
namespace L2
open PySem PySem.Spec PyProof.Rows
theorem E4:∀{vs:List Value} {ns:List Int},IntsAre vs ns→Ag (ns.map V.int) vs
 | _,_,.nil=>.nil
 | _,_,.cons n t h=>.cons ⟨t,rfl⟩ (E4 h)
def Mo (H:Hp):Prop:=∀ b,H b=none∨∃ o xs,H b=some (.frz o (.lst xs))
theorem KO {P:Program}{w:World}{K:PySem.W.Frag}{mg mb:Str→Option Value}{CX:HI}{k:Nat}{fa a:Addr}{fd:FuncData}{x:Str}{sp:Sp}{s₁:Shared}{vs:List Value}{ns:List Int}
 (KX:K.In s₁.heap) (hns:s₁.heap.Ns mainGlobals mg) (hb:s₁.heap.Ns builtinsNs mb) (hbb:∀ x:Str,x≠"__name__"→mb x=bootBuiltins x) (hlim:s₁.heap.NoLimit) (hg:s₁.gens=#[])
 (ha:s₁.heap.get? a=some { cls:=.type "list",data:=.seq vs.toArray }) (hi:IntsAre vs ns) (hl:ns.length≤sizeLine) (hr:BQ k callerA)
 (F:∀ base:Heap,K.In base→base.Ns mainGlobals mg→Ap P w K mg base CX k fa fd [x] sp) (hbind:∀(s:Shared) (u:Value),BindsTo s fd ⟨[u],[]⟩ [(x,u)])
 (hsp:∀ H:Hp,Mo H→Aq K H a (ns.map V.int)→sp [.ref a] H (fun v _=>v=.bl true) fun _ _ _=>False)
 (hCX:∀ H e s',CX [] H s₁ (fun _ _ _=>False) e s'→False):
 codeAny (model P w) callerA (.call (.ref fa) ⟨[.ref a],[]⟩) (fun r s'=>r=.ok (.ret (.bool true))∧OldK s₁.heap s'.heap∧s'.os=s₁.os∧AllBare s'.gens) s₁:=by
 have rv:=E4 hi
 have lenV:=hi.length
 have core:∀ H:Hp,Mo H→Aq K H a (ns.map V.int)→EG P w H s₁.heap→(∀ b,H b≠none→b=a)→(H a≠none→K.lookup a=none)→
  codeAny (model P w) callerA (.call (.ref fa) ⟨[.ref a],[]⟩) (fun r s'=>r=.ok (.ret (.bool true))∧OldK s₁.heap s'.heap∧s'.os=s₁.os∧AllBare s'.gens) s₁:=by
  intro H hO hS hok hA hK
  have base_of:∀{b:Addr} {o:Obj},s₁.heap.get? b=some o→H b=none→(DT s₁.heap H).get? b=some o:=fun e n=>Fk e n
  have noA:∀{b:Addr} {o:Obj} {es:Array DictEntry} {ep:Nat},s₁.heap.get? b=some o→o.data=.dict es ep→H b=none:=fun {b o es ep} e d=>by
   cases q:H b with
   | none=>rfl
   | some u=>
    have e':b=a:=hA b (by rw[q];simp)
    subst e'
    rw[ha]at e;cases e
    have d':Data.seq vs.toArray _=Data.dict es ep:=d
    cases d'
  have nsK:∀{b:Addr} {m:Str→Option Value},s₁.heap.Ns b m→(DT s₁.heap H).Ns b m:=fun {b m} ⟨o,es,ep,e,d,r⟩=>⟨o,es,ep,base_of e (noA e d),d,r⟩
  have hKb:K.In (DT s₁.heap H):=fun b o e=>base_of (KX b o e) (by
   cases q:H b with
   | none=>rfl
   | some u=>
    have e':b=a:=hA b (by rw[q];simp)
    subst e'
    rw[hK (by rw[q];simp)]at e;cases e)
  have hM:Mod K mg (DT s₁.heap H):=⟨hKb,nsK hns,⟨mb,nsK hb,hbb⟩,let ⟨mc,h1,h2⟩:=hlim;⟨mc,nsK h1,h2⟩⟩
  have e0:Fq P w K mg (DT s₁.heap H) callerA [] s₁ H:=⟨rfl,hM,fun b o e=>Iw e,Nat.le_of_eq (Ew _ _),trivial,fun b hb=>absurd (show b∈([]:List Addr)from hb) (by simp),hok,.of_eq hg⟩
  refine codeAny_mono ((F _ hKb (nsK hns)).run callerA [] s₁ H ⟨[.ref a],[]⟩ [.ref a] [.ref a] _ _ hr e0 (hbind s₁ (.ref a)) (.cons rfl .nil) (hsp H hO hS)) fun r s' h=>?_
  cases r with
  | error e=>exact(hCX H e s' h).elim
  | ok fl=>
   cases fl with
   | next=>exact False.elim h
   | brk=>exact False.elim h
   | cont=>exact False.elim h
   | ret u=>
    obtain⟨v,H',os,bare,un,hok',r',q⟩:=h
    have q':v=.bl true:=q
    subst q'
    obtain rfl:u=Value.bool true:=r'
    refine⟨rfl,OldK.of_keep fun b o e=>?_,os,bare⟩
    cases q:H b with
    | none=>exact un.keep b o e q (by intro z;exact absurd (show b∈([]:List Addr)from z) (by simp)) (by simp)
    | some u=>
     rcases hO b with z | ⟨ob,xs,z⟩
     ·rw[q]at z;cases z
     ·have z2:=un.frzs b ob _ z
      obtain⟨e1,_⟩:=hok b _ z
      obtain⟨e2,_⟩:=hok' b _ z2
      rw[e]at e1;cases e1
      exact e2
 cases hk:K.lookup a with
 | some o=>
  have e:=KX a o hk
  rw[ha]at e
  cases e
  refine core (fun _=>none) (fun _=>.inl rfl) (.inr ⟨_,vs.toArray,_,hk,rfl,rfl,rfl,by rw[List.size_toArray,lenV];exact hl,by simpa using rv⟩) (fun b u z=>by have z':(none:Option HO)=some u:=z;cases z') (fun b z=>absurd rfl z) fun z=>absurd rfl z
 | none=>
  refine core (fun b=>if b=a then some (.frz { cls:=.type "list",data:=.seq vs.toArray } (.lst (ns.map V.int)))else none) (fun b=>?_) (.inl (.inr ⟨{ cls:=.type "list",data:=.seq vs.toArray },if_pos rfl⟩)) (fun b u z=>?_) (fun b z=>?_) fun _=>hk
  ·by_cases hb:b=a
   ·exact .inr ⟨_,_,if_pos hb⟩
   ·exact .inl (if_neg hb)
  ·by_cases hb:b=a
   ·have z':=(if_pos hb).symm.trans z
    cases z'
    subst hb
    exact⟨ha,by rw[List.length_map];exact hl,vs,_,rv,ha⟩
   ·have z':=(if_neg hb).symm.trans z
    cases z'
  ·by_cases hb:b=a
   ·exact hb
   ·exact absurd (if_neg hb) z
abbrev RH {K:PySem.W.Frag}{h:Heap}(_:K.In h):PySem.W.Frag:=K
theorem LW {l:PySem.W.OpenLaw}{n k:Nat}{q:Program}{loose:List Str}{XP:(Str→Option Value)→Heap→Prop}{YP:World→Heap→Prop}{d:DefRec}{K:Params→PySem.W.Frag}{CX:World→HI}{sp:World→Sp}{x:Str}
 (hn:l.most=some n) (hn2:n≤sizeLine) (hdf:d.params.defaults=[]) (hr:BQ k callerA)
 (hY:∀(w:World) (h:Heap),YP w h→(K w.params).In h)
 (F:∀(w:World) (mg:Str→Option Value) (fa:Addr) (h:Heap),(K w.params).In h→h.Ns mainGlobals mg→mg d.name=some (.ref fa)→
  ∃ fd:FuncData,(∀(s:Shared) (u:Value),BindsTo s fd ⟨[u],[]⟩ [(x,u)])∧
   ∀ base:Heap,(K w.params).In base→base.Ns mainGlobals mg→Ap l.prog w (K w.params) mg base (CX w) k fa fd [x] (sp w))
 (hsp:∀(w:World) (H:Hp) (a:Addr) (ns:List Int),ns.length≤n→Mo H→Aq (K w.params) H a (ns.map V.int)→sp w [.ref a] H (fun v _=>v=.bl true) fun _ _ _=>False)
 (hCX:∀(w:World) (H:Hp) (s:Shared) (e:Value) (s':Shared),CX w [] H s (fun _ _ _=>False) e s'→False):
 PySem.W.WalkO q loose XP YP l.row.toRowW d [] (fun f vs=>PySem.call f vs):=by
 refine Att.FL hn hdf fun w s₀ s₁ mg mb fa o pm cd doc a vs ns G Y ho hd hcd hmg hobj hints hlen hg=>?_
 have KX:=hY w _ Y
 obtain⟨fd,hb,hF⟩:=F w mg fa _ KX G.T.g hmg
 exact KO KX G.T.g G.T.b G.T.builtins G.T.nolimit hg hobj hints (Nat.le_trans hlen hn2) hr hF hb (fun H hO hS=>hsp w H a ns hlen hO hS) fun H e s'=>hCX w H s₁ e s'
end L2
/- THE LAST THEOREM (shape;LID,My.* are yours):
 My.Adr: a structure of the addresses that your layer names (classes,functions);My.Txt K t: a structure (Prop) of the equations over K;
 My.txt_mk:{K} {implicit addresses ..} (e1:nsIn K mainGlobals "law"=some (some (.ref f))) (e2:K.lookup f=some ⟨oc,od,.func (fnOf "law" "law" params body scope dV kV doc pm an cdv ct),sl⟩) (e3:codeIn K cdv "law"=true) ..:∃ t,My.Txt K t
set_option maxRecDepth 100000 in
set_option maxHeartbeats 0 in
theorem PySem.Challenge.cw_LID_holds : PySem.Challenge.rw_LID.Holds := by
 w_on;o_law;k_head;(case hw=>w_witness2)
 k_fill
 refine L2.LW (l:=PySem.Challenge.rw_LID) (n:=63) (k:=40) (x:="script") (CX:=fun w=>..) (sp:=fun _=>My.sp_law) rfl (by decide) rfl ⟨rfl,by decide,by decide⟩ (fun w h Y=>PySem.W.kIn_of Y) ?F ?S ?C
 case F=>
  intro w mg fa h KX G hmg
  have T:∃ t,My.Txt (L2.RH KX) t:=by
   dsimp only[L2.RH]                          -- K must stand as «<heap const> w.params» for k_is
   refine' My.txt_mk ?e1 ?e2 ?e3 ..
   (case e1=>PySem.W.k_is)                    -- in the order: a name -> its address -> its object -> its parts
   (case e2=>PySem.W.k_is)
   ..
  obtain⟨t,T⟩:=T
  have e0:=hmg.symm.trans (PySem.W.mg_of KX G T.law)
  cases e0                                       -- fa is the law's own address
  exact⟨_,fun s u=>.of_eq rfl,fun base kb nb=>My.law_fn T kb nb⟩     -- if «.of_eq rfl» comes too early: refine' ⟨_,?b,fun base kb nb=>My.law_fn T kb nb⟩;exact fun s u=>.of_eq rfl
 case S=>exact fun w H a ns hl hO hS=>..
 case C=>exact ..
(the tactic k_is has no namespace: write k_is) -/
namespace L2
open PySem PySem.Spec PyProof.Rows
def Cj (s:Stmt)(j:Nat):Stmt:=match s with
 | .ClassDef _ _ _ body _ _ _ _ _ _ _=>body.getD j (.Pass ⟨0,0,0,0⟩)
 | _=>.Pass ⟨0,0,0,0⟩
def CB (s:Stmt):Arguments:=match s with
 | .FunctionDef _ a _ _ _ _ _ _ _ _=>a
 | _=>{ posonlyargs:=[],args:=[],vararg:=none,kwonlyargs:=[],kw_defaults:=[],kwarg:=none,defaults:=[] }
def BY (s:Stmt):List Stmt:=match s with
 | .FunctionDef _ _ b _ _ _ _ _ _ _=>b
 | _=>[]
def AL (s:Stmt):Scope:=match s with
 | .FunctionDef _ _ _ _ _ _ sc _ _ _=>sc
 | _=>{ kind:=.function,names:=[],isGenerator:=false,isCoroutine:=false }
abbrev Bj:HI:=fun _ _ _ _ _ _=>False
abbrev E0:XK:=fun _ _ _=>False
theorem Db {X:Cx}:E2 Bj X E0:=fun _ _ _ _ _ _ _ h=>h.elim
structure Fun (K:PySem.W.Frag)(x qual:Str)(st:Stmt)(f:Addr)(fd:FuncData):Prop where
 ex:∃(oc:Value) (od:Option Addr) (kV doc pm:Value) (an:Option Addr) (cdv ct:Value) (osl:Array (Option Value)),
  fd=PySem.W.fnOf x qual (CB st) (BY st) (AL st) .none kV doc pm an cdv ct∧K.lookup f=some ⟨oc,od,.func fd,osl⟩∧PySem.W.codeIn K cdv qual=true
 kp:PySem.W.keepIn K (.ref f)=true
section
variable {P:Program}{w:World}{K:PySem.W.Frag}{mg:Str→Option Value}{base:Heap}
theorem Fun.ok {x qual:Str}{st:Stmt}{f:Addr}{fd:FuncData}{N ps:List Str}{k:Nat}{sp:Sp}(F:Fun K x qual st f fd)(S:Aa N ps (AL st))(len:∀ vs H Q E,sp vs H Q E→vs.length=ps.length)
 (hbody:∀(cdv:Value) (A:Around) (outer:List Env) (s:Shared) (H:Hp) (vs:List V) (Q:VK) (E:XK),BQ k (A.deeper (envOfC qual (AL st) s.heap.objs.size f cdv))→sp vs H Q E→
  ∃ t,Hu (Ft Bj P w K mg base N qual (AL st) f cdv A outer s H E).nox (BY st) t∧t { nx:=fun _ H'=>Q .non H',rt:=Q } (DY N vs) H):Ap P w K mg base Bj (k+1) f fd ps sp:=by
 obtain⟨oc,od,kV,doc,pm,an,cdv,ct,osl,rfl,lk,hcd⟩:=F.ex
 refine MD lk hcd S len fun A outer s H vs Q E hr hsp=>?_
 obtain⟨t,h,q⟩:=hbody cdv A outer s H vs Q E hr hsp
 exact⟨t,h.nox,q⟩
theorem Fun.binds {x qual:Str}{st:Stmt}{f:Addr}{fd:FuncData}{ps:List Str}(F:Fun K x qual st f fd)
 (h:∀(kV doc pm:Value) (an:Option Addr) (cdv ct:Value) (us:List Value),us.length=ps.length→bindArgs (PySem.W.fnOf x qual (CB st) (BY st) (AL st) .none kV doc pm an cdv ct) ⟨us,[]⟩=pure (ps.zip us)):Cu K fd ps []:=by
 obtain⟨oc,od,kV,doc,pm,an,cdv,ct,osl,rfl,lk,hcd⟩:=F.ex
 exact .all (h kV doc pm an cdv ct)
theorem KP {x qual:Str}{st:Stmt}{f:Addr}{oc:Value}{od an:Option Addr}{osl:Array (Option Value)}{kV doc pm cdv ct:Value}(l:K.lookup f=some ⟨oc,od,.func (PySem.W.fnOf x qual (CB st) (BY st) (AL st) .none kV doc pm an cdv ct),osl⟩)
 (c:PySem.W.codeIn K cdv qual=true) (k:PySem.W.keepIn K (.ref f)=true):Fun K x qual st f (PySem.W.fnOf x qual (CB st) (BY st) (AL st) .none kV doc pm an cdv ct):=⟨⟨oc,od,kV,doc,pm,an,cdv,ct,osl,rfl,l,c⟩,k⟩
end
theorem MH {A:Around}{k:Nat}(hr:BQ k A):A.units+1<cLine:=Nat.lt_of_le_of_lt (Nat.add_le_add_left (by decide:1≤64) _) hr.units
theorem GP {n:Nat}(h:n≤1000):n<sizeLine:=Nat.lt_of_le_of_lt h (by decide)
section
variable {X:Cx}
end
theorem Af {A B:Prop}(h:B):if false=true then A else B:=by
 rw[if_neg Bool.false_ne_true]
 exact h
theorem Ax {A B:Prop}(h:A):if true=true then A else B:=by
 rw[if_pos rfl]
 exact h
theorem CP {c A B:Prop}[Decidable c](h1:c→A)(h2:¬ c→B):if c then A else B:=by
 by_cases h:c
 ·rw[if_pos h]
  exact h1 h
 ·rw[if_neg h]
  exact h2 h
def AG (H H':Hp):Prop:=∀ b o,H b=some o→H' b=some o
theorem AG.refl (H:Hp):AG H H:=fun _ _ h=>h
theorem AG.trans {H H1 H2:Hp}(a:AG H H1)(b:AG H1 H2):AG H H2:=fun c o h=>b c o (a c o h)
theorem AG.free {H H':Hp}(e:AG H H'){l:Addr}(h:H' l=Option.none):H l=Option.none:=by
 cases q:H l with
 | none=>rfl
 | some o=>
  rw[e l o q]at h
  cases h
theorem AG.seq {K:PySem.W.Frag}{H H':Hp}{a:Addr}{xs:List V}(e:AG H H')(h:Aq K H a xs):Aq K H' a xs:=by
 rcases h with(h | ⟨o,h⟩) | h
 ·exact .inl (.inl (e _ _ h))
 ·exact .inl (.inr ⟨o,e _ _ h⟩)
 ·exact .inr h
def Sz (n:Nat)(x:Int):Prop:=x.natAbs<2 ^ n
theorem Sz.mono {m n:Nat}{x:Int}(h:Sz m x)(hn:m≤n):Sz n x:=Nat.lt_of_lt_of_le h (Nat.pow_le_pow_right (by decide) hn)
theorem Sz.mul {m n:Nat}{x y:Int}(h:Sz m x)(g:Sz n y):Sz (m+n) (x*y):=by
 unfold Sz at *
 rw[Int.natAbs_mul,Nat.pow_add]
 exact Nat.mul_lt_mul_of_lt_of_lt h g
theorem Sz.sub {n:Nat}{x y:Int}(h:Sz n x)(g:Sz n y):Sz (n+1) (x-y):=by
 unfold Sz at *
 rw[Nat.pow_succ]
 omega
theorem Sz.neg {n:Nat}{x:Int}(h:Sz n x):Sz n (-x):=by
 unfold Sz at *
 omega
theorem Sz.of_le {n:Nat}{x y:Int}(h:Sz n y)(g:x.natAbs≤y.natAbs):Sz n x:=Nat.lt_of_le_of_lt g h
section
variable {X:Cx}
def KQ (i j:Int):Prop:=Sz 4000 i∧Sz 4000 j
theorem KQ.ok {i j:Int}(h:KQ i j):IntMulOk i j:=IntMulOk.of_le (m:=4000) (n:=4000) (intBits_le_iff.mpr h.1) (intBits_le_iff.mpr h.2) (by decide)
theorem Ei:EM X (binaryOp .Mult) (rI KQ fun i j=>.int (i*j)):=ID fun _ _ _ _ _ _ _ hc q=>mul_int q hc.ok
def KR (_ j:Int):Prop:=j≠0∧Sz 4000 j
theorem KR.ok {i j:Int}(h:KR i j):Builtin.divisionGoesByPylong i j=false:=by
 refine PyProof.noPylong_of_log2 ?_
 have h0:j.natAbs≠0:=by have:=h.1;omega
 exact Nat.lt_trans ((Nat.log2_lt h0).mpr h.2) (by decide)
theorem KS:EM X (binaryOp .FloorDiv) (rI KR fun i j=>.int (i.fdiv j)):=ID fun _ _ _ _ _ _ _ hc q=>floordiv_int hc.1 q (.inl hc.ok)
def KU:List V→List V→Bool
 | [],[]=>true
 | x::xs,y::ys=>IP x y&&KU xs ys
 | _,_=>false
def RI (xs ys:List V)(j:Nat):Bool:=match xs[j]?,ys[j]? with
 | some x,some y=>IP x y
 | _,_=>false
def SV (K:PySem.W.Frag)(neg:Bool):R2:=fun x y H Q=>∃ a b xs ys,x=.ref a∧y=.ref b∧Am K H a xs∧Am K H b ys∧xs.all Au=true∧ys.all Au=true∧Q (.bl (if neg then !KU xs ys else KU xs ys)) H
def QN (K:PySem.W.Frag)(n:Nat)(t:LJ):TG:=fun v σ H Q=>∃ a xs,v=.ref a∧Aq K H a xs∧xs.length=n∧t xs σ H Q
theorem Mp {es:List Expr}{k:Nat}{t:LJ}{n:Nat}{pos:Pos}(hc:X.calm=true)(h:NR X es t)
 (hn:(assignEach es X.env).length=n:=by rfl) (hst:(assignEach es X.env).findIdx? (·.1)=none:=by rfl):PG X (.Tuple es k pos) (QN X.K n t):=by
 intro pins s σ H v u Q I r hw
 obtain⟨a,xs,e1,hq,hl,hw⟩:=hw
 subst e1
 cases r
 obtain⟨its,rv,ht,hz⟩:=I.list hq
 rw[assign_Tuple]
 refine wpAny_bind (wpAny_standAt ?_)
 unfold unpack
 have e:(assignEach es X.env).length=its.toArray.size:=by rw[hn,← hl,rv.length,List.size_toArray]
 rw[e,hst]
 refine wpAny_bind (wpAny_holding (PySem.W.kun_itemsOf (I.ok.hd hc) ht.isList fun h' hx=>?_))
 have I1:AZ X pins σ H { s with heap:=h' }:=I.kept (t':=s.toks) fun b o e=>hx b o (Nat.ne_of_lt (Heap.lt_size e)) e
 exact h pins _ σ H xs _ Q I1 (by simpa using rv) hw
def SW (K:PySem.W.Frag):List V→Hp→VK→Prop:=fun xs H Q=>∃ x c t u b,xs=[x,c]∧E1 K H x t∧Aj c u∧(∀ p,c≠.ref p∨True)∧PySem.W.kitOne K t u=some b∧Q (.bl b) H
theorem Ai:CU X (.builtin "isinstance") (SW X.K):=by
 intro pins s σ H xs us Q I r h
 obtain⟨x,c,t,u',b,rfl,ty,rc,_,hk,q⟩:=h
 obtain⟨u,w',rfl,r1,r2⟩:=KE r
 have e:w'=u'∨∃ T,c=.ty T:=by
  cases c with
  | non=>left;cases rc;cases r2;rfl
  | bl _=>left;cases rc;cases r2;rfl
  | int i=>obtain⟨z,rfl⟩:=rc;exact absurd hk (by simp[PySem.W.kitOne,PySem.W.kitCls];cases ty <;> simp)
  | str i=>obtain⟨z,rfl⟩:=rc;exact absurd hk (by simp[PySem.W.kitOne,PySem.W.kitCls];cases ty <;> simp)
  | byt i=>obtain⟨z,rfl⟩:=rc;exact absurd hk (by simp[PySem.W.kitOne,PySem.W.kitCls];cases ty <;> simp)
  | flt i=>obtain⟨z,rfl⟩:=rc;exact absurd hk (by simp[PySem.W.kitOne,PySem.W.kitCls];cases ty <;> simp)
  | ref _=>left;cases rc;cases r2;rfl
  | ty _=>left;cases rc;cases r2;rfl
 rcases e with rfl | ⟨T,rfl⟩
 ·exact GJ I r1 ty hk fun tk=>⟨.bl b,H,I.tok tk,rfl,q⟩
 ·cases rc;cases r2
  exact GJ I r1 ty hk fun tk=>⟨.bl b,H,I.tok tk,rfl,q⟩
end
def BV (X:Cx)(scope:Scope)(cl:List (Str×Addr))(C:Addr)(N:List Str)(s₀:Shared)(H₀:Hp)(ex:List Addr)(pn:List (Addr×Obj)):Cx where
 prog:=X.prog
 w:=X.w
 K:=X.K
 mg:=X.mg
 base:=X.base
 A:=X.A
 N:=N
 s₀:=s₀
 H₀:=H₀
 env:=compEnvC scope cl C X.env
 outer:=X.stack
 stack:=X.stack
 ex:=ex
 fn:=fun y=>(cl.lookup y).any fun c=>decide (C<c)
 calm:=X.calm
 pn:=pn
 xe:=fun _ _=>False
structure B5 (X:Cx)(scope:Scope)(cl:List (Str×Addr))(x:Str)(fv:List Str)(js:List Nat):Prop where
 kind:scope.kind=.function
 nc:∀ y∈scope.names,y.2≠.cell
 nm:∀ y∈scope.names,y.2=.local→scope.names.lookup y.1=some .local
 hx:scope.names.lookup x=some .local
 fr:∀ y∈scope.names,y.2=.free→y.1∈fv
 nd:(x::fv).Nodup
 vis:∀ y∈fv,scope.names.lookup y=some .free∧X.env.scope.names.lookup y=some .cell∧(cl.lookup y).isSome=true
 cls:∀ p∈cl,X.env.cells.lookup p.1=some p.2
 sl:Paired (fun y j=>X.N[j]?=some y) fv js
def Ev (js:List Nat)(σ:St):St:=js.map fun j=>(σ[j]?).getD none
theorem Be {env:Env}(hk:env.scope.kind=.function):∀{names:List (Str×NameKind)} {y:Str},names.lookup y=some .free→env.kindOf y=some .cell→
 (names.map fun(n,k)=>if(k==NameKind.free&&env.scope.kind==.function&&env.kindOf n==some .cell)then(n,NameKind.cell)else(n,k)).lookup y=some .cell
 | [],_,h,_=>by simp at h
 | (n,k)::r,y,h,hy=>by
  have ih:=@Be env hk r y
  show List.lookup y ((if(k==NameKind.free&&env.scope.kind==.function&&env.kindOf n==some .cell)=true then(n,NameKind.cell)else(n,k))::_)=_
  cases hx:y==n with
  | true=>
   have e:y=n:=eq_of_beq hx
   subst e
   simp only[List.lookup_cons,hx]at h
   cases h
   rw[if_pos (by rw[hk,hy];rfl)]
   simp[List.lookup_cons]
  | false=>
   simp only[List.lookup_cons,hx]at h
   split
   ·simp only[List.lookup_cons,hx];exact ih h hy
   ·simp only[List.lookup_cons,hx];exact ih h hy
theorem Bf {env:Env}:∀{names:List (Str×NameKind)} {y:Str} {k':NameKind},
 (names.map fun(n,k)=>if(k==NameKind.free&&env.scope.kind==.function&&env.kindOf n==some .cell)then(n,NameKind.cell)else(n,k)).lookup y=some k'→
 names.lookup y=some k'∨(names.lookup y=some .free∧k'=.cell)
 | [],_,_,h=>by simp at h
 | (n,k)::r,y,k',h=>by
  have ih:=@Bf env r y k'
  have h:List.lookup y ((if(k==NameKind.free&&env.scope.kind==.function&&env.kindOf n==some .cell)=true then(n,NameKind.cell)else(n,k))::(r.map fun(n,k)=>if(k==NameKind.free&&env.scope.kind==.function&&env.kindOf n==some .cell)then(n,NameKind.cell)else(n,k)))=some k':=h
  cases hx:y==n with
  | true=>
   by_cases hc:(k==NameKind.free&&env.scope.kind==.function&&env.kindOf n==some .cell)=true
   ·rw[if_pos hc]at h
    simp only[List.lookup_cons,hx]at h
    cases h
    right
    have hk:k=.free:=by
     rw[Bool.and_eq_true,Bool.and_eq_true]at hc
     exact eq_of_beq hc.1.1
    subst hk
    exact⟨by simp[List.lookup_cons,hx],rfl⟩
   ·rw[if_neg hc]at h
    simp only[List.lookup_cons,hx]at h
    left
    simp only[List.lookup_cons,hx]
    exact h
  | false=>
   have h':(r.map fun(n,k)=>if(k==NameKind.free&&env.scope.kind==.function&&env.kindOf n==some .cell)then(n,NameKind.cell)else(n,k)).lookup y=some k':=by
    by_cases hc:(k==NameKind.free&&env.scope.kind==.function&&env.kindOf n==some .cell)=true
    ·rw[if_pos hc]at h
     simp only[List.lookup_cons,hx]at h
     exact h
    ·rw[if_neg hc]at h
     simp only[List.lookup_cons,hx]at h
     exact h
   simp only[List.lookup_cons,hx]
   exact ih h'
section
variable {X:Cx}{scope:Scope}{cl:List (Str×Addr)}{x:Str}{fv:List Str}{js:List Nat}
theorem B5.cell_of (S:B5 X scope cl x fv js){y:Str}{c:Addr}(h:cl.lookup y=some c):X.env.cells.lookup y=some c:=S.cls (y,c) (PySem.mem_of_lookup h)
theorem B5.own (S:B5 X scope cl x fv js){C:Addr}{y:Str}{k:NameKind}(h:(compEnvC scope cl C X.env).kindOf y=some k)(hk:k=.cell∨k=.free):y∈fv:=by
 have h':(scope.names.map fun(n,k)=>if(k==NameKind.free&&X.env.scope.kind==.function&&X.env.kindOf n==some .cell)then(n,NameKind.cell)else(n,k)).lookup y=some k:=h
 rcases Bf h' with q | ⟨q,_⟩
 ·rcases hk with rfl | rfl
  ·exact absurd rfl (S.nc _ (PySem.mem_of_lookup q))
  ·exact S.fr _ (PySem.mem_of_lookup q) rfl
 ·exact S.fr _ (PySem.mem_of_lookup q) rfl
theorem EN {F:Str→Nat→Prop}:∀{ys:List Str} {js:List Nat} {i:Nat} {y:Str},Paired F ys js→ys[i]?=some y→∃ j,js[i]?=some j∧F y j:=by
 intro A B j x h
 induction h generalizing j with
 | nil=>
  intro e
  simp at e
 | cons r t ih=>
  intro e
  cases j with
  | zero=>
   simp at e
   subst e
   exact⟨_,rfl,r⟩
  | succ j=>
   obtain⟨y,h1,h2⟩:=ih (by simpa using e)
   exact⟨y,by simpa using h1,h2⟩
theorem IR {pins:List (Addr×Obj)}{σ:St}{H:Hp}{s:Shared}{h₁:Heap}{ex:List Addr}{tk:Nat}(S:B5 X scope cl x fv js)(I:AZ X pins σ H s)
 (hf:∀ b∈ex,EL X pins H b) (hlt:∀ b∈ex,b<s.heap.objs.size) (hns:h₁.Ns s.heap.objs.size (fun _=>none)) (hk:∀ b o,s.heap.get? b=some o→h₁.get? b=some o):
 AZ (BV X scope cl s.heap.objs.size (x::fv) s H ex (X.pn++pins)) [] (none::Ev js σ) H { s with heap:=h₁,toks:=tk }:=by
 have nstk:∀ b∈ex,b∉Fl X.stack:=fun b hb z=>by
  rcases List.mem_cons.mp (I.stkSub b z)with e | e
  ·exact(hf b hb).2.1 e
  ·exact(hf b hb).2.2.1 e
 have ok:(BV X scope cl s.heap.objs.size (x::fv) s H ex (X.pn++pins)).Ok:=by
  refine⟨I.ok.mod,S.kind,I.ok.glob,I.ok.blt,Nat.le_refl _,fun y z c h1 h2=>I.ok.inj y z c (S.cell_of h1) (S.cell_of h2),fun y hy=>?_,(fun y c h hc=>by
   have h':((cl.lookup y).any fun c=>decide (s.heap.objs.size<c))=true:=h
   rw[show cl.lookup y=some c from hc]at h'
   exact Nat.le_of_lt (of_decide_eq_true h')),I.ok.hd,I.ok.frames,.inl rfl,
   fun b hb=>⟨Nat.ne_of_lt (hlt b hb),fun y c h=>(hf b hb).2.2.2.2.1 y c (S.cell_of h)⟩,I.bs,Nat.le_trans I.ok.bsz I.sz,fun b o e hb=>?_,nstk,I.stack,I.stkFree⟩
  ·have hm:y∈fv:=by
    rcases hy with hy | hy
    ·exact S.own hy (.inl rfl)
    ·exact S.own hy (.inr rfl)
   exact Option.isSome_iff_exists.mp (S.vis y hm).2.2
  ·obtain⟨f0,f1,f2,f3,f4,f5⟩:=hf b hb
   rcases f3 with z | z
   ·exact I.ok.noex b o e z
   ·exact absurd (Nat.lt_of_lt_of_le (Heap.lt_size e) (Nat.le_trans I.ok.bsz z)) (Nat.lt_irrefl _)
 refine⟨ok,rfl,I.bare,Un.kept hk,⟨_,hns,fun i y v e1 e2 e3=>?_⟩,fun y c h=>?_,I.hok.fresh (Nat.le_refl _),fun y c h=>I.freeC y c (S.cell_of h),fun p hp=>?_,I.hok.kept hk,?_⟩
 ·cases i with
  | zero=>have z:(some (none:Option V))=some (some v):=e2;cases z
  | succ i=>
   have hy:fv[i]?=some y:=by simpa [BV]using e1
   obtain⟨j,hj,hN⟩:=EN S.sl hy
   have hv:σ[j]?=some (some v):=by
    have z:(Ev js σ)[i]?=some (some v):=by simpa using e2
    unfold Ev at z
    rw[List.getElem?_map,hj]at z
    have z':(σ[j]?).getD none=some v:=Option.some.inj z
    cases q:σ[j]? with
    | none=>rw[q]at z';cases z'
    | some o=>rw[q]at z';exact congrArg some z'
   obtain⟨hfree,hcell,hsome⟩:=S.vis y (List.mem_of_getElem? hy)
   obtain⟨m,hn,hl⟩:=I.loc
   obtain⟨u,ru,look⟩:=hl j y v hN hv (.inr (.inl hcell))
   refine⟨u,ru,.inr ⟨.inl (Be I.ok.kind hfree hcell),?_⟩⟩
   obtain⟨c',hc'⟩:=Option.isSome_iff_exists.mp hsome
   rcases look with⟨k,_⟩ | ⟨_,c,ec,z⟩
   ·have k':X.env.scope.names.lookup y=some .local:=k
    rw[hcell]at k';cases k'
   ·have e:=S.cell_of hc'
    rw[ec]at e
    cases e
    exact⟨_,hc',by obtain⟨o,ho,hd⟩:=z;exact⟨o,hk _ _ ho,hd⟩⟩
 ·obtain⟨v,o,ho,hd⟩:=I.cell y c (S.cell_of h)
  exact⟨v,o,hk _ _ ho,hd⟩
 ·have hp':p∈X.pn++pins:=by simpa [BV]using hp
  obtain⟨e,n,ne,nf,d⟩:=I.pin p hp'
  refine⟨hk _ _ e,n,Nat.ne_of_lt (Heap.lt_size e),fun z=>?_,d⟩
  rcases List.mem_cons.mp (I.stkSub p.1 z)with q | q
  ·exact ne q
  ·exact nf q
 ·show(none::Ev js σ).length=(x::fv).length
  have:fv.length=js.length:=Paired.length S.sl
  simp[Ev,this]
theorem HK {pins pins':List (Addr×Obj)}{σ σ':St}{H H':Hp}{s s':Shared}{h'':Heap}{ex:List Addr}{N:List Str}{pn:List (Addr×Obj)}(I:AZ X pins σ H s)(hf:∀ b∈ex,EL X pins H b)
 (J:AZ (BV X scope cl s.heap.objs.size N s H ex pn) pins' σ' H' s') (sb:Heap.SameBut s.heap.objs.size s'.heap h''):AZ X pins σ H' { s' with heap:=h'' }:=by
 have neC:∀ b o,s.heap.get? b=some o→b≠s.heap.objs.size:=fun b o e=>Nat.ne_of_lt (Heap.lt_size e)
 have u:Un (Fl X.stack) ex H H' s.heap s'.heap:=J.base
 have fr:H' s.heap.objs.size=none:=J.free
 refine I.call' (s':={ s' with heap:=h'' }) (ch:=ex) J.os ⟨fun b o e n hb hx=>?_,fun b o e n hb hx=>?_,u.free,fun b o e hx=>?_,u.tups,u.frzs,u.tbls⟩ (fun b o e=>?_) J.bare (fun b hb=>?_)
 ·exact(sb.2 b (neC b o e)).trans (u.keep b o e n hb hx)
 ·obtain⟨sl,q⟩:=u.slot b o e n hb hx
  exact⟨sl,(sb.2 b (neC b o e)).trans q⟩
 ·obtain⟨o',q⟩:=u.there b o e hx
  exact⟨o',(sb.2 b (neC b o e)).trans q⟩
 ·refine(J.hok b o e).stay (fun c v hc q=>(sb.2 c ?_).trans q) (fun _ q=>q) fun _ _ q=>q
  rcases hc with rfl | hc
  ·intro z;rw[z,fr]at e;cases e
  ·intro z;rw[z,fr]at hc;cases hc
 ·obtain⟨f0,f1,f2,f3,f4,f5⟩:=hf b hb
  exact⟨f3,f1,f4,f5⟩
end
def PF (X:Cx)(ifs:List Expr)(t:TT):Prop:=
 ∀(pins:List (Addr×Obj)) (s:Shared) (σ:St) (H:Hp) (Q:Bool→Hp→Prop),AZ X pins σ H s→t σ H Q→
  wpAny (model X.prog X.w) X.A (forIn ifs true fun c r=>if r=true then do let ok ← isTrue c X.env (eval c X.env);pure (ForInStep.yield ok)else pure (ForInStep.yield r)) (TP X pins σ Q) X.xe s
def Mq:TT:=fun _ H Q=>Q true H
theorem DE {X:Cx}:PF X [] Mq:=by
 intro pins s σ H Q I h
 rw[List.forIn_nil]
 exact wpAny_pure ⟨H,I,h⟩
section
variable {prog:Program}{w:World}{A:Around}{R:Result→Shared→Prop}{s:Shared}
theorem FM {elt target iter:Expr}{ifs:List Expr}{scope:Scope}{pos:Pos}{it acc:Value}{env:Env}(I:Nat→Shared→Prop)
 (turn:∀ n s,I n s→wpAny (model prog w) A (pyNext it) (fun r s₁=>match r with
  | none=>R (.ok .next) s₁
  | some v=>wpAny (model prog w) A (letOwnedTupleGo target it v) (fun _ s₁'=>wpAny (model prog w) A (assign target env v) (fun _ s₂=>
   wpAny (model prog w) A (forIn ifs true fun c r=>if r=true then do let ok ← isTrue c env (eval c env);pure (ForInStep.yield ok)else pure (ForInStep.yield r)) (fun ok s₃=>
    if ok=true then wpAny (model prog w) A (eval elt env) (fun x s₄=>
     wpAny (model prog w) A (call (.builtin "list.append") [acc,x]) (fun _ s₅=>∃ m,m<n∧I m s₅) (fun _ _=>False) s₄) (fun _ _=>False) s₃
    else ∃ m,m<n∧I m s₃) (fun _ _=>False) s₂) (fun _ _=>False) s₁') (fun _ _=>False) s₁) (fun _ _=>False) s)
 (n:Nat) (h:I n s):
 codeAny (model prog w) A (.compLoop (.ListComp elt [⟨target,iter,ifs,0⟩] scope pos) 0 it acc env) R s:=by
 refine codeAny_loop rfl I (fun n s hI=>?_) n h
 show wpAny _ A ((compTurn (.ListComp elt [⟨target,iter,ifs,0⟩] scope pos) 0 it acc env).onRaise (fun x=>do noteFrame x env;theTreesLotGoes x)) _ _ s
 refine wpAny_noted ?_
 rw[compTurn_list]
 refine wpAny_bind (wpAny_standAt (wpAny_bind (wpAny_mono (turn n s hI) (fun r s₁ h₁=>?_) fun _ _ h'=>h'.elim)))
 cases r with
 | none=>exact wpAny_pure h₁
 | some v=>
  refine wpAny_bind (wpAny_mono h₁ (fun _ s₁' h₁'=>?_) fun _ _ h'=>h'.elim)
  refine wpAny_bind (wpAny_mono h₁' (fun _ s₂ h₂=>wpAny_bind (wpAny_mono h₂ (fun ok s₃ h₃=>?_) fun _ _ h'=>h'.elim)) fun _ _ h'=>h'.elim)
  cases ok with
  | false=>exact wpAny_pure ⟨rfl,h₃⟩
  | true=>
   exact wpAny_bind (wpAny_bind (wpAny_mono h₃ (fun x s₄ h₄=>wpAny_bind (wpAny_mono h₄ (fun _ s₅ h₅=>wpAny_pure (wpAny_pure ⟨rfl,h₅⟩)) fun _ _ h'=>h'.elim)) fun _ _ h'=>h'.elim))
end
def N2 (wi:TI)(js:List Nat)(tt:TT)(te:TE):TE:=fun σ H Q=>wi σ H fun J H1=>∀ D,H1 D=none→∃ W:Nat→Nat→Hp→Prop,(∃ m,W 0 m (upd H1 D (.lst [])))∧∀ i m H,W i m H→
 (J.stop i H∧Q (.ref D) H)∨(J.go i H∧∀ x H',J.yld i H x H'→tt (some x::Ev js σ) H' fun b H2=>
  if b=true then te (some x::Ev js σ) H2 fun v H3=>∃ xs,H3 D=some (.lst xs)∧xs.length<sizeLine∧∃ m',m'<m∧W (i+1) m' (upd H3 D (.lst (xs++[v])))
  else ∃ m',m'<m∧W (i+1) m' H2)
theorem DF {X:Cx}{elt iter:Expr}{ifs:List Expr}{x:Str}{px pos:Pos}{scope:Scope}{cl:List (Str×Addr)}{fv:List Str}{js:List Nat}{wi:TI}{tt:TT}{te:TE}(hc:X.calm=true)(hclos:closureFor scope X.env=pure cl)
 (S:B5 X scope cl x fv js) (hi:PI X (.Name x px) iter wi)
 (ht:∀(C:Addr) (s₀:Shared) (H₀:Hp) (ex:List Addr) (pn:List (Addr×Obj)),PF (BV X scope cl C (x::fv) s₀ H₀ ex pn) ifs tt)
 (he:∀(C:Addr) (s₀:Shared) (H₀:Hp) (ex:List Addr) (pn:List (Addr×Obj)),PE (BV X scope cl C (x::fv) s₀ H₀ ex pn) elt te)
 (hs:∀ x,foldedSetIterable iter X.env x=pure x:=by intro _;rfl):PE X (.ListComp elt [⟨.Name x px,iter,ifs,0⟩] scope pos) (N2 wi js tt te):=by
 intro pins s σ H Q I h
 rw[eval_ListComp]
 refine wpAny_comprehension_free (use:=none) rfl hs hclos S.kind S.nm (BJ (hi pins s σ H _ I h) fun v s1 h1=>BJ h1 fun itv s2 h2=>?_)
 obtain⟨it,fp,tn,J,H2,e,I2,T,st2,f2,hW⟩:=h2
 subst e
 have hD:H2 s2.heap.objs.size=none:=I2.hok.fresh (Nat.le_refl _)
 obtain⟨W,⟨m0,w0⟩,turn⟩:=hW s2.heap.objs.size hD
 have lt2:∀ b∈fp,b<s2.heap.objs.size:=fun b hb=>by
  obtain⟨o,e,_⟩:=T.obj _ _ st2 b hb
  exact Heap.lt_size e
 refine wpAny_newObj_type (wpAny_newFunctionEnv S.nc (by intro y hy;simp at hy) (fun h₁ hns₁ hsb₁=>?_) S.kind)
 dsimp only at hns₁ hsb₁ ⊢
 have I3:AZ X pins σ (upd H2 s2.heap.objs.size (.lst [])) { s2 with heap:=s2.heap.push { cls:=.type "list",dict:=none,data:=.seq ([]:List Value).toArray } }:=I2.lnew (t':=s2.toks) .nil (Nat.zero_le _)
 generalize hS3:({ s2 with heap:=s2.heap.push { cls:=.type "list",dict:=none,data:=.seq ([]:List Value).toArray } }:Shared)=s3 at I3
 have eh:s3.heap=s2.heap.push { cls:=.type "list",dict:=none,data:=.seq ([]:List Value).toArray }:=by rw[← hS3]
 rw[← eh]at hns₁ hsb₁ ⊢
 have hsz:s3.heap.objs.size=s2.heap.objs.size+1:=by rw[eh,Heap.size_push]
 have k23:∀ b o,s2.heap.get? b=some o→s3.heap.get? b=some o:=fun b o e=>by rw[eh];exact Heap.get?_push_of_some _ e
 have k34:∀ b o,s3.heap.get? b=some o→h₁.get? b=some o:=fun b o e=>hsb₁.extBut b o (Nat.ne_of_lt (Heap.lt_size e)) (Heap.get?_push_of_some _ e)
 have f3:∀ b∈fp,EL X pins (upd H2 s2.heap.objs.size (.lst [])) b:=fun b hb=>⟨by rw[AT (Nat.ne_of_lt (lt2 b hb))];exact(f2 b hb).1,(f2 b hb).2⟩
 have lt3:∀ b∈fp,b<s3.heap.objs.size:=fun b hb=>by rw[hsz];exact Nat.lt_succ_of_lt (lt2 b hb)
 have I4:=IR (tk:=s3.toks) S I3 f3 lt3 (h₁:=h₁) (by simpa using hns₁) k34
 generalize hY:BV X scope cl s3.heap.objs.size (x::fv) s3 (upd H2 s2.heap.objs.size (.lst [])) fp (X.pn++pins)=Y at I4
 have hYp:Y.prog=X.prog:=by rw[← hY];rfl
 have hYw:Y.w=X.w:=by rw[← hY];rfl
 have hYK:Y.K=X.K:=by rw[← hY];rfl
 have hYA:Y.A=X.A:=by rw[← hY];rfl
 have hYc:Y.calm=true:=by rw[← hY];exact hc
 have hYe:Y.env=compEnvC scope cl s3.heap.objs.size X.env:=by rw[← hY];rfl
 have hYx:Y.xe=fun _ _=>False:=by rw[← hY];rfl
 have hYN:Y.N=x::fv:=by rw[← hY];rfl
 have heY:PE Y elt te:=by rw[← hY];exact he _ _ _ _ _
 have htY:PF Y ifs tt:=by rw[← hY];exact ht _ _ _ _ _
 have stat:∀{H':Hp},(∀ b∈fp,H' b=none)→∀ b∈fp,EL Y [] H' b:=fun {H'} hn b hb=>by
  obtain⟨g0,g1,g2,g3,g4,g5⟩:=f3 b hb
  rw[← hY]
  refine⟨hn b hb,Nat.ne_of_lt (lt3 b hb),fun z=>?_,.inl hb,fun y c e=>g4 y c (S.cell_of e),fun p hp=>g5 p (by simpa [BV]using hp)⟩
  rcases List.mem_cons.mp (I3.stkSub b z)with q | q
  ·exact g1 q
  ·exact g2 q
 have fin:∀{i:Nat} {m:Nat} {σ':St} {H':Hp} {s':Shared},AZ Y [] σ' H' s'→Q (.ref s2.heap.objs.size) H'→compPost (model X.prog X.w) X.A X.xe none (EP X pins σ Q) (.ref s2.heap.objs.size) s3.heap.objs.size (.ok .next) s':=fun {i m σ' H' s'} J q=>by
  obtain⟨mm,hn,_⟩:=J.loc
  rw[← hY]at J hn
  refine⟨mm,hn,fun h'' sb=>?_⟩
  exact⟨.ref _,H',HK I3 f3 J sb,rfl,q⟩
 have st4:∀ s4:Shared,s4={ s3 with heap:=h₁,toks:=s3.toks }→tn 0 s4.heap:=fun s4 e=>by
  subst e
  exact T.keep _ _ _ st2 fun b hb o e=>k34 b o (k23 b o e)
 have loop:codeAny (model X.prog X.w) X.A (.compLoop (.ListComp elt [⟨.Name x px,iter,ifs,0⟩] scope pos) 0 (.ref it) (.ref s2.heap.objs.size) (compEnvC scope cl s3.heap.objs.size X.env))
  (compPost (model X.prog X.w) X.A X.xe none (EP X pins σ Q) (.ref s2.heap.objs.size) s3.heap.objs.size) { s3 with heap:=h₁,toks:=s3.toks }:=by
  refine FM (fun n s'=>∃(i:Nat) (o:Option V) (H':Hp),AZ Y [] (o::Ev js σ) H' s'∧tn i s'.heap∧(∀ b∈fp,H' b=none)∧W i n H') ?_ m0 ⟨0,none,_,I4,st4 _ rfl,fun b hb=>(f3 b hb).1,w0⟩
  rintro n s5 ⟨i,o,H5,I5,st5,fr5,w5⟩
  rcases turn i n H5 w5 with⟨stop,q⟩ | ⟨go,step⟩
  ·have r:=T.done Y hYp hYw hYK hYc i [] s5 _ H5 (fun _ _=>False) I5 (stat fr5) st5 stop
   rw[hYA]at r
   refine BJ r fun r s6 zq=>?_
   obtain⟨hr,I6⟩:=zq
   subst hr
   exact fin (i:=i) (m:=n) I6 q
  ·have r:=T.item Y hYp hYw hYK hYc i [] s5 _ H5 (fun _ _=>False) I5 (stat fr5) st5 go
   rw[hYA]at r
   refine BJ r fun r s6 zq=>?_
   obtain⟨u,hr,h6⟩:=zq
   subst hr
   refine BJ h6 fun _ s7 zq=>?_
   obtain⟨y,H7,I7,r7,y7,st7,fr7⟩:=zq
   have I7':=I7.pinned (stat fr7) (T.obj _ _ st7)
   have hname:PG Y (.Name x px) (Fn 0):=BG (X:=Y) (i:=0) (by rw[hYN];exact S.nd) (by rw[hYN];rfl) (.inl (by rw[hYe];exact lookup_relabel_local S.hx)) (.inr (by rw[hYe];exact lookup_relabel_local S.hx))
   have r8:=hname _ s7 _ H7 y u (fun σ' H'=>σ'=some y::Ev js σ∧H'=H7) I7' r7 ⟨rfl,rfl⟩
   rw[hYp,hYw,hYA,hYe,hYx]at r8
   refine BJ r8 fun _ s8 zq=>?_
   obtain⟨σ8,H8,I8,e1,e2⟩:=zq
   subst e1 e2
   have r9:=htY _ s8 _ _ _ I8 (step y _ y7)
   rw[hYp,hYw,hYA,hYe,hYx]at r9
   refine BJ r9 fun b s9 zq=>?_
   obtain⟨H9,I9,q9⟩:=zq
   have again:∀{σ':St} {H':Hp} {s':Shared},AZ Y ([]++Ex fp s7.heap) (some y::Ev js σ) H' s'→(∃ m',m'<n∧W (i+1) m' H')→
    ∃ m,m<n∧∃(i:Nat) (o:Option V) (H':Hp),AZ Y [] (o::Ev js σ) H' s'∧tn i s'.heap∧(∀ b∈fp,H' b=none)∧W i m H':=fun {σ' H' s'} K7 ⟨m',hm,w7⟩=>by
    refine⟨m',hm,i+1,some y,H',K7.unpinned,T.keep _ _ _ st7 fun b hb o e=>(K7.pin (b,o) (List.mem_append_right _ (List.mem_append_right _ (B4 hb e)))).1,fun b hb=>?_,w7⟩
    obtain⟨o,e,d⟩:=T.obj _ _ st7 b hb
    exact(K7.pin (b,o) (List.mem_append_right _ (List.mem_append_right _ (B4 hb e)))).2.1
   cases b with
   | false=>
    rw[if_neg Bool.false_ne_true]at q9 ⊢
    exact again (σ':=[]) I9 q9
   | true=>
    rw[if_pos rfl]at q9 ⊢
    have r10:=heY _ s9 _ _ _ I9 q9
    rw[hYp,hYw,hYA,hYe,hYx]at r10
    refine BJ r10 fun v s10 zq=>?_
    obtain⟨y10,H10,I10,ry,xs,hxs,hlen,m',hm,w10⟩:=zq
    have r11:=Cv (X:=Y) _ s10 _ H10 (.ref s2.heap.objs.size) [y10] (.ref s2.heap.objs.size) [v] (fun _ H'=>H'=upd H10 s2.heap.objs.size (.lst (xs++[y10]))) I10 rfl (.cons ry .nil) ⟨_,xs,y10,rfl,rfl,hxs,hlen,rfl⟩
    rw[hYp,hYw,hYA,hYx]at r11
    refine BJ r11 fun _ s11 zq=>?_
    obtain⟨_,H11,I11,_,e11⟩:=zq
    subst e11
    exact again (σ':=[]) I11 ⟨m',hm,w10⟩
 have loop':∀ s4:Shared,s4={ s3 with heap:=h₁,toks:=s3.toks }→codeAny (model X.prog X.w) X.A (.compLoop (.ListComp elt [⟨.Name x px,iter,ifs,0⟩] scope pos) 0 (.ref it) (.ref s2.heap.objs.size) (compEnvC scope cl s3.heap.objs.size X.env))
  (compPost (model X.prog X.w) X.A X.xe none (EP X pins σ Q) (.ref s2.heap.objs.size) s3.heap.objs.size) s4:=fun s4 e=>by subst e;exact loop
 have e4:∀ t,t=s3.toks→({ s3 with heap:=h₁,toks:=t }:Shared)={ s3 with heap:=h₁,toks:=s3.toks }:=fun t e=>by rw[e]
 have fin4:∀ s4:Shared,s4={ s3 with heap:=h₁,toks:=s3.toks }→codeAny (model X.prog X.w) X.A (.compStart (.ListComp elt [⟨.Name x px,iter,ifs,0⟩] scope pos) 0 (.ref it) (.ref s2.heap.objs.size) (compEnvC scope cl s3.heap.objs.size X.env))
  (compPost (model X.prog X.w) X.A X.xe none (EP X pins σ Q) (.ref s2.heap.objs.size) s3.heap.objs.size) s4:=fun s4 e=>
  codeAny_compStart_list (loop' s4 e) (T.self X.A 0 s4 _ _ (st4 s4 e) (loop' s4 e))
 have es:({ s2 with heap:=s2.heap.push { cls:=.type "list",dict:=none,data:=.seq ([]:List Value).toArray } }:Shared)=s3:=hS3
 refine fin4 _ ?_
 rw[← es]
 rfl
section
variable {P:Program}{w:World}{H:Hp}{h:Heap}{a:Addr}{o:HO}
theorem A7.there (x:A7 P w H h a o):∃ ob,h.get? a=some ob:=by
 cases o with
 | lst xs=>obtain⟨_,_,_,_,e⟩:=x;exact⟨_,e⟩
 | tup xs=>obtain⟨_,_,_,ob,e,_⟩:=x;exact⟨_,e⟩
 | dK kvs=>obtain⟨_,_,_,_,o,_,_,e,_⟩:=x;exact⟨_,e⟩
 | dT kvs=>obtain⟨_,_,_,_,o,_,_,e,_⟩:=x;exact⟨_,e⟩
 | set S n=>obtain⟨o,_,_,_,e,_⟩:=x;exact⟨_,e⟩
 | ins C dx fs=>obtain⟨_,_,_,e,_⟩:=x;exact⟨_,e⟩
 | own y=>exact x
 | xd fs=>obtain⟨_,⟨_,_,_,e,_⟩,_⟩:=x;exact⟨_,e⟩
 | rng lo hi=>obtain⟨_,_,_,e⟩:=x;exact⟨_,e⟩
 | frz ob u=>obtain⟨e,_⟩:=x;exact⟨_,e⟩
 | tbl ps=>exact⟨_,(show h.get? a=some _ from x)⟩
 | met f y=>exact⟨_,(show h.get? a=some _ from x)⟩
 | ext φ=>obtain⟨_,e,_⟩:=x;exact e
end
structure E5 (P:Program)(w:World)(l:List Env)(H H':Hp)(h h' B:Heap):Prop where
 inB:∀ b o,h.get? b=some o→b∉Fl l→∃ o1,B.get? b=some o1∧(H b=none→o1=o)
 trk:∀ b u,H' b=some u→∃ o,B.get? b=some o
 st:B.StaysIn h'
 fr:∀ b∈Fl l,H b=none∧∃ o,h.get? b=some o∧∀ vs,o.data≠.fields vs
 slot:∀ b o,h.get? b=some o→b∈Fl l→∃ sl,h'.get? b=some { o with slots:=sl }
 free:∀ b o,h.get? b=some o→H b=none→H' b=none
 tups:∀ b xs,H b=some (.tup xs)→H' b=some (.tup xs)
 frzs:∀ b o u,H b=some (.frz o u)→H' b=some (.frz o u)
 tbls:∀ b ps,H b=some (.tbl ps)→∃ more,H' b=some (.tbl (ps++more))
 hok:EG P w H' h'
section
variable {P:Program}{w:World}{l:List Env}{H H':Hp}{h h' h'' B:Heap}
theorem E5.step (F:E5 P w l H H' h h' B)(st:B.StaysIn h'')(up:h'.UpToSlots h''):E5 P w l H H' h h'' B:=by
 refine⟨F.inB,F.trk,st,F.fr,fun b o e hb=>?_,F.free,F.tups,F.frzs,F.tbls,fun b u e=>?_⟩
 ·obtain⟨sl,e1⟩:=F.slot b o e hb
  obtain⟨_,o',e',nd⟩:=F.fr b hb
  rw[e]at e'
  cases e'
  obtain⟨sl2,e2⟩:=up b _ e1 nd
  exact⟨sl2,e2⟩
 ·refine(F.hok b u e).stay (fun c v hc q=>?_) (fun _ q=>q) fun _ _ q=>q
  obtain⟨u',hu'⟩:∃ u',H' c=some u':=by
   rcases hc with z | z
   ·rw[z];exact⟨u,e⟩
   ·exact⟨_,z⟩
  obtain⟨o2,e2⟩:=F.trk c u' hu'
  have e3:=F.st c o2 e2
  rw[q]at e3
  cases e3
  exact st c _ e2
theorem E5.un (F:E5 P w l H H' h h' B):Un (Fl l) [] H H' h h' where
 keep:=fun b o e n hb _=>by
  obtain⟨o1,e1,z⟩:=F.inB b o e hb
  rw[z n]at e1
  exact F.st b o e1
 slot:=fun b o e _ hb _=>F.slot b o e hb
 free:=fun b o e n _=>F.free b o e n
 there:=fun b o e _=>by
  by_cases hb:b∈Fl l
  ·obtain⟨sl,e1⟩:=F.slot b o e hb
   exact⟨_,e1⟩
  ·obtain⟨o1,e1,_⟩:=F.inB b o e hb
   exact⟨o1,F.st b o1 e1⟩
 tups:=F.tups
 frzs:=F.frzs
 tbls:=F.tbls
end
def RJ (P:Program)(w:World):HI:=fun outer H s E e s'=>∃(a:Addr) (cls:Value) (H':Hp) (B:Heap) (a0:Value),e=.ref a∧s'.os=s.os∧AllBare s'.gens∧s.heap.get? a=none∧H' a=none∧
 E5 P w outer H H' s.heap s'.heap B∧Heap.FlyingW B outer a cls a0 s'.heap∧E cls none H'
theorem RJ.none {P:Program}{w:World}{outer:List Env}{H:Hp}{s:Shared}{e:Value}{s':Shared}(h:RJ P w outer H s (fun _ _ _=>False) e s'):False:=by
 obtain⟨_,_,_,_,_,_,_,_,_,_,_,_,q⟩:=h
 exact q
section
variable {P:Program}{w:World}{K:PySem.W.Frag}{mg:Str→Option Value}{base:Heap}
end
section
variable {P:Program}{w:World}{K:PySem.W.Frag}{mg:Str→Option Value}{base:Heap}{N:List Str}{qual:Str}{scope:Scope}{f:Addr}{cd:Value}{A:Around}{outer:List Env}{s:Shared}{H:Hp}{E:XK}
structure SX (K:PySem.W.Frag)(x:Str)(C:Addr):Prop where
 ns:PySem.W.nsIn K mainGlobals x=some (some (.ref C))
 ex:PySem.W.excIn K C [.type "ValueError",.type "Exception",.type "BaseException",.type "object"] "ValueError.__new__"=true
def QO (C:Addr)(E:XK)(te:TE):TS:=fun _ σ H=>te σ H fun _ H1=>E (.ref C) none H1
end
def KW (X:Cx)(a:Addr):Cx:={ X with A:=X.A.mark (some (.ref a)),calm:=false,xe:=fun _ _=>False }
def N3 (a:Addr)(cls:Value)(h:Heap):Prop:=∃ o vs,h.get? a=some o∧o.cls=cls∧o.data=.fields vs
def Mr (a:Addr)(cls:Value):HO:=.ext (N3 a cls)
section
variable {X:Cx}{pins:List (Addr×Obj)}{σ:St}{H:Hp}{s:Shared}{a:Addr}
theorem Cx.Ok.mark (ok:X.Ok)(a:Addr):(KW X a).Ok:=
 ⟨ok.mod,ok.kind,ok.glob,ok.blt,ok.above,ok.inj,ok.has,ok.cab,fun z=>absurd (show false=true from z) Bool.false_ne_true,ok.frames,ok.stk,ok.exf,ok.bs,ok.bsz,ok.noex,ok.exfs,ok.funs,ok.frf⟩
theorem AZ.mark (I:AZ X pins σ H s)(a:Addr):AZ (KW X a) pins σ H s:=⟨I.ok.mark a,I.os,I.bare,I.base,I.loc,I.cell,I.free,I.freeC,I.pin,I.hok,I.len⟩
end
def RK (K:PySem.W.Frag)(sp:Sp)(t:TA)(Dc:Addr)(i:Nat)(ts:TS):TS:=fun D σ H=>t σ H fun vs H1=>sp (vs++[]) H1 (fun _ H2=>D.nx σ H2) fun cls _ H2=>
 PySem.W.exmOne K cls (.ref Dc)=some true∧∀ a,H2 a=none→ts { nx:=fun σ' H'=>D.nx (σ'.set i none) H',rt:=fun _ _=>False } (σ.set i (some (.ref a))) (upd H2 a (Mr a cls))
section
open Builtin Builtin.ObjectAttr Builtin.Getset_descriptor
variable {prog:Program}{w:World}{A:Around}{E:Value→Shared→Prop}{s:Shared}{K:PySem.W.Frag}{a C:Addr}{o:Obj}
structure QP (K:PySem.W.Frag)(C:Addr):Prop where
 cl:(PySem.W.clsIn K C).isSome=true
 ga:PySem.W.findIn K (.ref C) "__getattribute__"=some (some (.builtin "BaseException.__getattribute__"))
 gh:PySem.W.findIn K (.ref C) "__getattr__"=some none
 at_:PySem.W.findIn K (.ref C) "__class__"=some (some (.builtin "object.__class__"))
 ob:PySem.W.mroIn K C (.type "object")=some true
 be:PySem.W.mroIn K C (.type "BaseException")=some true
end
section
open Builtin Builtin.ObjectAttr Builtin.Getset_descriptor PySem.W
variable {prog:Program}{w:World}{A:Around}{E:Value→Shared→Prop}{s:Shared}{K:PySem.W.Frag}{a C:Addr}{o:Obj}
end
section
variable {X:Cx}
def SY (K:PySem.W.Frag):List V→Hp→VK→Prop:=fun xs H Q=>∃(a C:Addr) (c:V) (b:Bool),xs=[.ref a,c]∧H a=some (Mr a (.ref C))∧QP K C∧Q (.bl b) H∧
 ((∃ u,Aj c u∧(∀ i,c≠.int i)∧(∀ i,c≠.str i)∧(∀ i,c≠.byt i)∧(∀ i,c≠.flt i)∧PySem.W.kitOne K (.ref C) u=some b)∨∃ p cs us,c=.ref p∧H p=some (.tup cs)∧Ag cs us∧(∀ vs,Ag cs vs→vs=us)∧PySem.W.kitAny K (.ref C) us=some b)
end
section
variable {X:Cx}{es:List Expr}{te:TE}{t:TA}{pos:Pos}
theorem Ay {a0:List Expr}{a1:Nat}(ha:PE X (Expr.Tuple a0 a1 pos) te)(hr:PA X es t):PA X ((Expr.Tuple a0 a1 pos)::es) (EH te t):=CO ha hr rfl
theorem Cw {a0:List Expr}(ha:PE X (Expr.List a0 pos) te)(hr:PA X es t):PA X ((Expr.List a0 pos)::es) (EH te t):=CO ha hr rfl
theorem CC {a0:Expr}{a1:Operator}{a2:Expr}(ha:PE X (Expr.BinOp a0 a1 a2 pos) te)(hr:PA X es t):PA X ((Expr.BinOp a0 a1 a2 pos)::es) (EH te t):=CO ha hr rfl
theorem BH {a0:Expr}{a1:List Expr}{a2:List Keyword}(ha:PE X (Expr.Call a0 a1 a2 pos) te)(hr:PA X es t):PA X ((Expr.Call a0 a1 a2 pos)::es) (EH te t):=CO ha hr rfl
theorem AA {a0:Str}(ha:PE X (Expr.Name a0 pos) te)(hr:PA X es t):PA X ((Expr.Name a0 pos)::es) (EH te t):=CO ha hr rfl
theorem AD {a0:Const}{a1:Nat}(ha:PE X (Expr.Constant a0 a1 pos) te)(hr:PA X es t):PA X ((Expr.Constant a0 a1 pos)::es) (EH te t):=CO ha hr rfl
theorem AY {a0:Expr}{a1:Expr}(ha:PE X (Expr.Subscript a0 a1 pos) te)(hr:PA X es t):PA X ((Expr.Subscript a0 a1 pos)::es) (EH te t):=CO ha hr rfl
theorem Dd {a0:Expr}{a1:List CmpOp}{a2:List Expr}(ha:PE X (Expr.Compare a0 a1 a2 pos) te)(hr:PA X es t):PA X ((Expr.Compare a0 a1 a2 pos)::es) (EH te t):=CO ha hr rfl
theorem CW {a0:Expr}{a1:List Comprehension}{a2:Scope}(ha:PE X (Expr.ListComp a0 a1 a2 pos) te)(hr:PA X es t):PA X ((Expr.ListComp a0 a1 a2 pos)::es) (EH te t):=CO ha hr rfl
end
section
variable {X:Cx}
abbrev SZ:R2:=rI P6 fun i j=>.int (i ^ j.toNat)
abbrev RL:R2:=MB fun i j=>.int (i-j)
end
def N4 (z:Str):It:=⟨fun i _=>i<z.cps.size,fun i H x H'=>H'=H∧∃ c,z.cps[i]?=some c∧x=.str ⟨#[c]⟩,fun i _=>i=z.cps.size⟩
theorem HL {P:Program}{w:World}{K:PySem.W.Frag}{tg:Expr}(it:Addr)(x:Str)(t:Tok)(ty:String)
 (hW:∀ A':Around,A'.handled=none→Walks P w A' it [it] [it] x.cps.size (SignAt x) (fun i h=>h.IsStrIter it ty x t i))
 (hn:["enumerate","zip","dict_itemiterator","dict_reverseitemiterator","odict_iterator","itertools.zip_longest","itertools.pairwise"].contains ty=false)
 (hS:∀(A:Around) (i:Nat) (s:Shared) (Q:Value→Shared→Prop) (E:Value→Shared→Prop),s.heap.IsStrIter it ty x t i→Q (.ref it) s→wpAny (model P w) A (pyIter (.ref it)) Q E s):
 IA P w K tg (N4 x) [it] it (fun i h=>h.IsStrIter it ty x t i) where
 mem:=by simp
 obj:=fun i h st b hb=>by
  have e:b=it:=by simpa using hb
  subst e
  obtain⟨o,e,c,d⟩:=st
  exact⟨o,e,fun v z=>by rw[d]at z;cases z⟩
 keep:=fun i h h' st k=>let ⟨o,e,r⟩:=st;⟨o,k it (by simp) o e,r⟩
 item:=by
  intro X hP hw hK hc i pins s σ H E I hf st hg
  subst hP hw hK
  obtain⟨f0,f1,f2,f3,f4,f5⟩:=hf it (by simp)
  refine(hW X.A (I.ok.hd hc)).item i s _ _ hg st fun v h' tk hv st' kk=>?_
  obtain⟨c,u,hcu,rfl⟩:=hv
  have I1:AZ X pins σ H { s with heap:=h',toks:=tk }:=I.turned (fun b o hb e=>kk b o (by simpa using hb) e) f0 f1 f3 f4 f5
  obtain⟨o,e,cc,d⟩:=id st'
  exact⟨_,rfl,Iy (s:={ s with heap:=h',toks:=tk }) e cc d hn ⟨.str ⟨#[c]⟩,H,I1,⟨u,rfl⟩,⟨rfl,c,hcu,rfl⟩,st',fun b hb=>(hf b hb).1⟩⟩
 done:=by
  intro X hP hw hK hc i pins s σ H E I hf st hg
  subst hP hw hK
  obtain⟨f0,f1,f2,f3,f4,f5⟩:=hf it (by simp)
  have hg:i=x.cps.size:=hg
  subst hg
  exact(hW X.A (I.ok.hd hc)).done s _ _ st fun h' tk kk=>⟨rfl,I.turned (fun b o hb e=>kk b o (by simpa using hb) e) f0 f1 f3 f4 f5⟩
 self:=fun A i s Q E st h=>hS A i s Q E st h
section
variable {X:Cx}{tg:Expr}
def QQ (tl:TE):TI:=fun σ H R=>tl σ H fun x H1=>∃ z,x=.str z∧R (N4 z) H1
theorem Ms {l:Expr}{tl:TE}(hl:PE X l tl):PI X tg l (QQ tl):=by
 intro pins s σ H R I h
 refine BJ (hl pins s σ H _ I h) fun v s1 zq=>?_
 obtain⟨x,H1,I1,r1,q1⟩:=zq
 obtain⟨z,e,q⟩:=q1
 subst e
 obtain⟨t,rfl⟩:=r1
 have fp:∀ b∈[s1.heap.objs.size],EL X pins H1 b:=fun b hb=>by
  have e:b=s1.heap.objs.size:=by simpa using hb
  subst e
  exact I1.fpOk (Nat.le_refl _) (I1.hok.fresh (Nat.le_refl _))
 cases ha:z.cps.all (·<128)
 ·refine wpAny_pyIter_wide ha ?_
  exact⟨s1.heap.objs.size,[s1.heap.objs.size],_,_,H1,rfl,I1.kept (t':=s1.toks) fun b o e=>Heap.get?_push_of_some _ e,
   HL _ z t "str_iterator" (fun A' hA=>Walks.strWide hA _ z t) (by decide) (fun A i s Q E st h=>wpAny_pyIter_striter_wide st h),⟨_,Heap.get?_push_size _ rfl,rfl,rfl⟩,fp,q⟩
 ·refine wpAny_pyIter_ascii ha ?_
  exact⟨s1.heap.objs.size,[s1.heap.objs.size],_,_,H1,rfl,I1.kept (t':=s1.toks) fun b o e=>Heap.get?_push_of_some _ e,
   HL _ z t "str_ascii_iterator" (fun A' hA=>Walks.strAscii hA _ z t) (by decide) (fun A i s Q E st h=>wpAny_pyIter_striter_ascii st h),⟨_,Heap.get?_push_size _ rfl,rfl,rfl⟩,fp,q⟩
end
theorem De:∀(bs:List Bool),(List.range bs.length).all (fun i=>bs.getD i true)=bs.all id
 | []=>rfl
 | b::bs=>by
  have ih:=De bs
  rw[List.length_cons,List.range_succ_eq_map,List.all_cons,List.all_map,List.all_cons]
  simp only[List.getD_cons_zero,id]
  rw[← ih]
  rfl
theorem Ag.bools:∀{bs:List Bool} {us:List Value} {i:Nat} {v:Value},Ag (bs.map V.bl) us→us[i]?=some v→v=.bool (bs.getD i true)
 | [],_,_,_,.nil,e=>by simp at e
 | b::bs,_,0,_,.cons r _,e=>by
  have e':=Option.some.inj e
  subst e'
  exact r
 | b::bs,_,i+1,v,.cons _ t,e=>by
  have:=Ag.bools (i:=i) (v:=v) t (by simpa using e)
  simpa using this
section
variable {X:Cx}
theorem CY (hc:X.calm=true):CU X (.builtin "all") (fun xs H Q=>∃(p:Addr) (bs:List Bool),xs=[.ref p]∧Aq X.K H p (bs.map V.bl)∧Q (.bl (bs.all id)) H):=by
 intro pins s σ H xs us Q I r h
 obtain⟨p,bs,rfl,hq,q⟩:=h
 obtain⟨u,rfl,rx⟩:=HH r
 cases rx
 obtain⟨its,rv,pl,hz⟩:=I.list hq
 have hl:=rv.length
 rw[List.length_map]at hl
 have hlt:p<s.heap.objs.size:=by obtain⟨o,e,_⟩:=pl.isList;exact Heap.lt_size e
 have hne:p≠s.heap.objs.size:=Nat.ne_of_lt hlt
 refine call_all_walk (wpAny_pyIter_list pl.isList ⟨s.heap.objs.size,[s.heap.objs.size,p],[s.heap.objs.size],its.toArray.size,_,_,fun i=>bs.getD i true,rfl,
  Walks.list (A:=X.A.in1) (show X.A.in1.handled=none from I.ok.hd hc) s.heap.objs.size p hne its.toArray,⟨⟨_,Heap.get?_push_size _ rfl,rfl,rfl⟩,pl.isList.at fun o e=>Heap.get?_push_of_some _ e⟩,?_,fun h' tk kk=>?_⟩)
 ·intro i v s' Q' E' hP hQ
  have e:=Ag.bools rv (show its[i]?=some v by simpa using hP)
  subst e
  exact wpAny_truthy_bool hQ
 ·have hsz:its.toArray.size=bs.length:=by rw[List.size_toArray,← hl]
  rw[hsz,De]
  exact⟨.bl _,H,I.kept fun b o e=>kk b o (by simp;exact Nat.ne_of_lt (Heap.lt_size e)) (Heap.get?_push_of_some _ e),rfl,q⟩
theorem CZ:bootBuiltins "all"=some (.builtin "all"):=by nofun
def PJ (X:Cx)(es:List Expr)(t:Str→TE):Prop:=
 ∀(acc:Str) (pins:List (Addr×Obj)) (s:Shared) (σ:St) (H:Hp) (Q:VK),AZ X pins σ H s→t acc σ H Q→wpAny (model X.prog X.w) X.A (joinParts acc (evalEach es X.env)) (EP X pins σ Q) X.xe s
def Sa:Str→TE:=fun acc _ H Q=>acc.length≤sizeLine∧Q (.str acc) H
def Sb (y:Str)(t:Str→TE):Str→TE:=fun acc σ H Q=>(acc++y).length≤sizeLine∧t (acc++y) σ H Q
def MI:V→Str→Prop
 | .str z,y=>y=z∧z.length≤sizeLine
 | .int i,y=>y=toString i∧i.natAbs.log2<1920
 | _,_=>False
def Sc (te:TE)(t:Str→TE):Str→TE:=fun acc σ H Q=>te σ H fun x H1=>∃ y,MI x y∧(acc++y).length≤sizeLine∧t (acc++y) σ H1 Q
def RM (te:TE):TE:=fun σ H Q=>te σ H fun x H1=>∃ y,MI x y∧Q (.str y) H1
theorem Ag.strs:∀{ts:List Str} {us:List Value},Ag (ts.map V.str) us→∃ l:List (Str×Tok),us=strValues l∧l.map (·.1)=ts
 | [],_,.nil=>⟨[],rfl,rfl⟩
 | t::ts,_,.cons r h=>by
  obtain⟨l,e1,e2⟩:=Ag.strs h
  obtain⟨tk,e⟩:=r
  subst e
  exact⟨(t,tk)::l,by rw[e1];rfl,by rw[List.map_cons,e2]⟩
def Sd:V→Option Int→Option Int→Hp→VK→Prop:=fun x lo hi H Q=>∃ z,x=.str z∧z.length≤sizeLine∧Q (.str (Txt.slice z lo hi)) H
theorem JG {scope:Scope}{cl:List (Str×Addr)}{C:Addr}{N:List Str}{s₀:Shared}{H₀:Hp}{ex:List Addr}{pn:List (Addr×Obj)}:LF (BV X scope cl C N s₀ H₀ ex pn) (Ml X.K):=Ae
def Se (K:PySem.W.Frag):R2:=fun x y H Q=>∃ a b xs ys,x=.ref a∧y=.ref b∧Aq K H a xs∧Aq K H b ys∧xs.all Au=true∧ys.all Au=true∧Q (.bl (!KU xs ys)) H
end
def N5 {α:Type}(f:α→α→Bool):List α→List α→Bool
 | [],[]=>true
 | x::xs,y::ys=>f x y&&N5 f xs ys
 | _,_=>false
def RN {α:Type}(f:α→α→Bool)(xs ys:List α)(j:Nat):Bool:=match xs[j]?,ys[j]? with
 | some x,some y=>f x y
 | _,_=>false
inductive LX where
 | fl (x:V) | tp (xs:List V)
def Ca (H:Hp):V→LX→Prop
 | x,.fl y=>x=y∧Au y=true
 | x,.tp xs=>∃ q,x=.ref q∧H q=some (.tup xs)∧xs.all Au=true
def JH:LX→LX→Bool
 | .fl x,.fl y=>IP x y
 | .tp xs,.tp ys=>KU xs ys
 | _,_=>false
section
variable {X:Cx}{pins:List (Addr×Obj)}{σ:St}{H:Hp}{s:Shared}
def Sf (neg:Bool):R2:=fun x y H Q=>∃ a b xs ys is js,x=.ref a∧y=.ref b∧H a=some (.tup xs)∧H b=some (.tup ys)∧Paired (Ca H) xs is∧Paired (Ca H) ys js∧Q (.bl (if neg then !N5 JH is js else N5 JH is js)) H
theorem B6 {α β:Type}{F:α→β→Prop}:∀{xs:List α} {ys:List β},Paired F xs ys→∀{j:Nat} {x:α},xs[j]?=some x→∃ y,ys[j]?=some y∧F x y:=by
 intro A B h
 induction h with
 | nil=>
  intro j x e
  simp at e
 | cons r t ih=>
  intro j x e
  cases j with
  | zero=>
   simp at e
   subst e
   exact⟨_,rfl,r⟩
  | succ j=>
   obtain⟨y,h1,h2⟩:=ih (by simpa using e)
   exact⟨y,by simpa using h1,h2⟩
def Sg:R2:=fun x y H Q=>∃ p us,x=.non∧y=.ref p∧H p=some (.lst us)∧(∀ u∈us,∃ q xs,u=.ref q∧H q=some (.tup xs))∧Q (.bl false) H
def Mt (tf:TE)(ok:Addr→Sp→Prop)(t:TA):TE:=fun σ H Q=>tf σ H fun x H1=>∃ f sp,x=.ref f∧ok f sp∧t σ H1 fun vs H2=>sp (vs++[]) H2 Q E0
theorem KY {fe e:Expr}{es:List Expr}{tf:TE}{t:TA}{pos:Pos}{ok:Addr→Sp→Prop}(hf:PE X fe tf)
 (hok:∀ f sp,ok f sp→∃ k fd ps,Ap X.prog X.w X.K X.mg X.base Bj k f fd ps sp∧BQ k X.A∧PySem.W.keepIn X.K (.ref f)=true∧Cu X.K fd ps []) (ha:PA X (e::es) t)
 (hc:eval (.Call fe (e::es) [] pos) X.env=(do callWith pos (← eval fe X.env) [] (backTo pos (starEach (e::es) X.env)) (backToKw pos (keywordEach [] X.env))):=by rfl)
 (he:starEach (e::es) X.env=(false,eval e X.env)::starEach es X.env:=by rfl) (hpl:(backTo pos (starEach es X.env)).any (·.1)=false:=by rfl):PE X (.Call fe (e::es) [] pos) (Mt tf ok t):=by
 intro pins s σ H Q I h
 refine Call_ (BJ (hf pins s σ H _ I h) fun v s1 zq=>?_) hc
 obtain⟨x,H1,I1,rx,f,sp,ex,ho,q⟩:=zq
 subst ex
 cases rx
 obtain⟨k,fd,ps,F,hr,hk,hb⟩:=hok f sp ho
 refine PySem.W.callWith_K (h₀:=X.base) I1.ok.mod.kin hk (BJ (ha pos pins s1 σ H1 _ I1 q) fun us s2 ⟨vs,H2,I2,r,q2⟩=>⟨I2.kIn,?_⟩) he hpl
 exact IL F hr hb .nil Db I2 r q2
end
section
variable {X:Cx}
def RO:R2:=fun x y H Q=>∃ z n,x=.str z∧y=.int n∧MulOk z n∧Q (.str (Txt.mul z n)) H
def Sh:R2:=fun x y H Q=>∃ t v,x=.ref t∧y=.int 2∧H t=some (.tup [v])∧∀ p,H p=none→Q (.ref p) (upd H p (.tup [v,v]))
end
section
variable {κ:Type}[DecidableEq κ]
def Cy (kvs:List (κ×V))(k:κ):Option V:=(kvs.find? fun kv=>decide (kv.1=k)).map (·.2)
def E6 (kvs:List (κ×V))(k:κ)(v:V):List (κ×V):=
 if(kvs.any fun kv=>decide (kv.1=k))=true then kvs.map (fun kv=>if kv.1=k then(kv.1,v)else kv)else kvs++[(k,v)]
def HM (kvs:List (κ×V))(k:κ):List (κ×V):=kvs.filter fun kv=>decide (kv.1≠k)
theorem Ej {p:κ×V}{r:List (κ×V)}{k:κ}(e:p.1=k):Cy (p::r) k=some p.2:=by simp[Cy,List.find?_cons,e]
theorem Dh {p:κ×V}{r:List (κ×V)}{k:κ}(e:¬ p.1=k):Cy (p::r) k=Cy r k:=by simp[Cy,List.find?_cons,e]
theorem HN (k:κ):∀ kvs:List (κ×V),(kvs.any fun kv=>decide (kv.1=k))=(Cy kvs k).isSome
 | []=>rfl
 | p::r=>by
  rw[List.any_cons]
  by_cases e:p.1=k
  ·simp only[Ej e,decide_eq_true e,Bool.true_or,Option.isSome_some]
  ·rw[Dh e,decide_eq_false e,Bool.false_or];exact HN k r
theorem FN (kvs:List (κ×V))(k:κ)(v:V):(E6 kvs k v).length≤kvs.length+1:=by
 unfold E6
 split
 ·rw[List.length_map];omega
 ·rw[List.length_append,List.length_cons,List.length_nil];omega
theorem DR.isSome_eq {o:Option V}{u:Option Value}(r:DR o u):o.isSome=u.isSome:=by
 cases o with
 | none=>cases u with
  | none=>rfl
  | some _=>exact(show False from r).elim
 | some _=>cases u with
  | none=>exact(show False from r).elim
  | some _=>rfl
theorem DR.getD {o:Option V}{u:Option Value}{d:V}{d':Value}(r:DR o u)(rd:Aj d d'):Aj (o.getD d) (u.getD d'):=by
 cases o with
 | none=>cases u with
  | none=>exact rd
  | some _=>exact(show False from r).elim
 | some _=>cases u with
  | none=>exact(show False from r).elim
  | some _=>exact r
theorem KV.val {kvs:List (κ×V)}{vs:List (κ×Value)}(r:KV kvs vs)(k:κ):DR (Cy kvs k) (valueAt vs k):=by
 unfold KV at r
 induction r with
 | nil=>exact True.intro
 | @cons p q ps qs h t ih=>
  obtain⟨h1,h2⟩:=h
  by_cases e:p.1=k
  ·have e':q.1=k:=h1.symm.trans e
   have b:valueAt (q::qs) k=some q.2:=by simp[valueAt,List.find?_cons,e']
   rw[Ej e,b];exact h2
  ·have e':¬ q.1=k:=fun z=>e (h1.trans z)
   have b:valueAt (q::qs) k=valueAt qs k:=by simp[valueAt,List.find?_cons,e']
   rw[Dh e,b];exact ih
theorem KV.any {kvs:List (κ×V)}{vs:List (κ×Value)}(r:KV kvs vs)(k:κ):(kvs.any fun kv=>decide (kv.1=k))=vs.any fun kv=>decide (kv.1=k):=by
 unfold KV at r
 induction r with
 | nil=>rfl
 | cons h t ih=>rw[List.any_cons,List.any_cons,ih,h.1]
theorem KV.repl {kvs:List (κ×V)}{vs:List (κ×Value)}(r:KV kvs vs)(k:κ){y:V}{u:Value}(ry:Aj y u):
 KV (kvs.map fun kv=>if kv.1=k then(kv.1,y)else kv) (vs.map fun kv=>if kv.1=k then(kv.1,u)else kv):=by
 unfold KV at r ⊢
 induction r with
 | nil=>exact .nil
 | @cons p q ps qs h t ih=>
  rw[List.map_cons,List.map_cons]
  refine .cons ?_ ih
  obtain⟨h1,h2⟩:=h
  by_cases e:p.1=k
  ·rw[if_pos e,if_pos (h1.symm.trans e)];exact⟨h1,ry⟩
  ·rw[if_neg e,if_neg (fun z=>e (h1.trans z))];exact⟨h1,h2⟩
theorem KV.put {kvs:List (κ×V)}{vs:List (κ×Value)}(r:KV kvs vs)(k:κ){y:V}{u:Value}(ry:Aj y u):KV (E6 kvs k y) (stored vs k u):=by
 unfold E6 stored
 rw[r.any k]
 by_cases e:(vs.any fun kv=>decide (kv.1=k))=true
 ·rw[if_pos e,if_pos e];exact r.repl k ry
 ·rw[if_neg e,if_neg e];exact Paired.snoc r ⟨rfl,ry⟩
theorem KV.drop {kvs:List (κ×V)}{vs:List (κ×Value)}(r:KV kvs vs)(k:κ):KV (HM kvs k) (without vs k):=by
 unfold KV at r ⊢
 unfold HM without
 induction r with
 | nil=>exact .nil
 | @cons p q ps qs h t ih=>
  obtain⟨h1,h2⟩:=h
  rw[List.filter_cons,List.filter_cons]
  by_cases e:p.1=k
  ·have a:¬ decide (p.1≠k)=true:=by simp[e]
   have b:¬ decide (q.1≠k)=true:=by simp[h1.symm.trans e]
   rw[if_neg a,if_neg b];exact ih
  ·have e':¬ q.1=k:=fun z=>e (h1.trans z)
   have a:decide (p.1≠k)=true:=by simp[e]
   have b:decide (q.1≠k)=true:=by simp[e']
   rw[if_pos a,if_pos b];exact .cons ⟨h1,h2⟩ ih
theorem KV.keys {kvs:List (κ×V)}{vs:List (κ×Value)}(r:KV kvs vs):kvs.map (·.1)=vs.map (·.1):=by
 unfold KV at r
 induction r with
 | nil=>rfl
 | cons h t ih=>rw[List.map_cons,List.map_cons,ih,h.1]
theorem KV.length {kvs:List (κ×V)}{vs:List (κ×Value)}(r:KV kvs vs):kvs.length=vs.length:=Paired.length r
end
theorem HP {P:Program}{w:World}{k:BI}{u:Value}(r:Aj (kV k) u):(A9 P w).is k u=true:=by
 cases k with
 | inl i=>obtain⟨t,e⟩:=(show ∃ t,u=Value.int i t from r);subst e;exact G9 P w i t
 | inr x=>obtain⟨t,e⟩:=(show ∃ t,u=Value.str x t from r);subst e;exact HD P w x t
theorem GQ {P:Program}{w:World}:∀{ks:List BI} {us:List Value},Ag (ks.map kV) us→ItemsAre (A9 P w) ks us
 | [],_,r=>by rw[List.map_nil]at r;cases r;exact .nil
 | k::ks,_,r=>by
  rw[List.map_cons]at r
  cases r with
  | cons h t=>exact .cons (HP h) (GQ t)
abbrev KT (H:Hp):List (List BI×V)→List (List BI×Addr×Value)→Prop:=Paired fun p q=>p.1=q.1∧H q.2.1=some (.tup (p.1.map kV))∧Aj p.2 q.2.2
theorem KT.val {H:Hp}{kvs:List (List BI×V)}{xs:List (List BI×Addr×Value)}(r:KT H kvs xs)(k:List BI):DR (Cy kvs k) ((atKey xs k).map (·.2)):=by
 induction r with
 | nil=>exact True.intro
 | @cons p q ps qs h t ih=>
  obtain⟨h1,_,h2⟩:=h
  by_cases e:p.1=k
  ·have e':q.1=k:=h1.symm.trans e
   have b:atKey (q::qs) k=some q.2:=by simp[atKey,List.find?_cons,e']
   rw[Ej e,b];exact h2
  ·have e':¬ q.1=k:=fun z=>e (h1.trans z)
   have b:atKey (q::qs) k=atKey qs k:=by simp[atKey,List.find?_cons,e']
   rw[Dh e,b];exact ih
theorem KT.repl {H:Hp}{kvs:List (List BI×V)}{xs:List (List BI×Addr×Value)}(r:KT H kvs xs)(k:List BI){y:V}{u:Value}(ry:Aj y u):
 KT H (kvs.map fun kv=>if kv.1=k then(kv.1,y)else kv) (xs.map (putAt k u)):=by
 induction r with
 | nil=>exact .nil
 | @cons p q ps qs h t ih=>
  rw[List.map_cons,List.map_cons]
  refine .cons ?_ ih
  obtain⟨h1,h2,h3⟩:=h
  unfold putAt
  by_cases e:p.1=k
  ·rw[if_pos e,if_pos (h1.symm.trans e)];exact⟨h1,h2,ry⟩
  ·rw[if_neg e,if_neg (fun z=>e (h1.trans z))];exact⟨h1,h2,h3⟩
theorem KT.put {H:Hp}{kvs:List (List BI×V)}{xs:List (List BI×Addr×Value)}(r:KT H kvs xs)(k:List BI){b:Addr}{y:V}{u:Value}(hb:H b=some (.tup (k.map kV)))(ry:Aj y u):
 KT H (E6 kvs k y) (storedH xs k b u):=by
 have e:(kvs.any fun kv=>decide (kv.1=k))=(atKey xs k).isSome:=by
  rw[HN,(r.val k).isSome_eq,Option.isSome_map]
 unfold E6 storedH
 rw[e]
 by_cases q:(atKey xs k).isSome=true
 ·rw[if_pos q,if_pos q];exact r.repl k ry
 ·rw[if_neg q,if_neg q];exact Paired.snoc r ⟨rfl,hb,ry⟩
theorem KT.keeps {H H':Hp}{kvs:List (List BI×V)}{xs:List (List BI×Addr×Value)}(r:KT H kvs xs)(ht:∀ b ys,H b=some (.tup ys)→H' b=some (.tup ys)):KT H' kvs xs:=
 Paired.mapP r fun _ _ z=>⟨z.1,ht _ _ z.2.1,z.2.2⟩
section
variable {P:Program}{w:World}{H:Hp}{h:Heap}{a:Addr}
theorem MJ {u:HO}(ok:EG P w H h)(e:Rd H a u):A7 P w H h a u:=e.ok ok
theorem JI {kvs:List (BI×V)}(ok:EG P w H h)(e:Rd H a (.dK kvs)):kvs.length≤sizeLine∧(a==sysModules)=false∧∃ vs,KV kvs vs∧h.DictOf (A9 P w) a vs:=
 show A7 P w H h a (.dK kvs)from MJ ok e
theorem N6 {kvs:List (BI×V)}(ok:EG P w H h)(e:H a=some (.dK kvs)):kvs.length≤sizeLine∧(a==sysModules)=false∧∃ vs,KV kvs vs∧h.DictOf (A9 P w) a vs:=JI ok (.inl e)
theorem Gf {ks:List BI}(ok:EG P w H h)(e:H a=some (.tup (ks.map kV))):(tupleKind (A9 P w)).is h ks a:=by
 obtain⟨_,its,r,o,h1,h2,n,h3⟩:=(show A7 P w H h a (.tup (ks.map kV))from ok a _ e)
 exact⟨o,its.toArray,n,h1,h2,h3,by simpa using GQ r⟩
theorem JJ {kvs:List (List BI×V)}(ok:EG P w H h)(e:Rd H a (.dT kvs)):kvs.length≤sizeLine∧(a==sysModules)=false∧
 ∃ xs,KT H kvs xs∧h.DictOfH (tupleKind (A9 P w)) a xs:=by
 obtain⟨z,y,xs,r,o,es,ep,h1,h2,h3,h4,h5⟩:=(show A7 P w H h a (.dT kvs)from MJ ok e)
 refine⟨z,y,xs,r,o,es,ep,h1,h2,h3,h4,fun x hx=>?_,h5⟩
 have all:∀{l:List (List BI×V)} {m:List (List BI×Addr×Value)},KT H l m→∀ x∈m,(tupleKind (A9 P w)).is h x.1 x.2.1:=by
  intro l m q
  induction q with
  | nil=>intro x hx;exact nomatch hx
  | @cons p q ps qs hq t ih=>
   intro x hx
   rcases List.mem_cons.mp hx with e | hx
   ·subst e
    exact Gf ok (by rw[← hq.1];exact hq.2.1)
   ·exact ih x hx
 exact all r x hx
theorem N7 {kvs:List (List BI×V)}(ok:EG P w H h)(e:H a=some (.dT kvs)):kvs.length≤sizeLine∧(a==sysModules)=false∧
 ∃ xs,KT H kvs xs∧h.DictOfH (tupleKind (A9 P w)) a xs:=JJ ok (.inl e)
end
def EO (H:Hp)(a:Addr)(y:V)(r:Option V):Prop:=
 (∃ kvs k,Rd H a (.dK kvs)∧y=kV k∧r=Cy kvs k)∨∃ kvs k b,Rd H a (.dT kvs)∧y=.ref b∧H b=some (.tup (k.map kV))∧r=Cy kvs k
def IS (H:Hp)(a:Addr)(y v:V)(H':Hp):Prop:=
 (∃ kvs k,H a=some (.dK kvs)∧y=kV k∧kvs.length<sizeLine∧H'=upd H a (.dK (E6 kvs k v)))∨
 ∃ kvs k b,H a=some (.dT kvs)∧y=.ref b∧H b=some (.tup (k.map kV))∧kvs.length<sizeLine∧H'=upd H a (.dT (E6 kvs k v))
theorem EO.k {H:Hp}{a:Addr}{kvs:List (BI×V)}{k:BI}(e:H a=some (.dK kvs)):EO H a (kV k) (Cy kvs k):=.inl ⟨kvs,k,.inl e,rfl,rfl⟩
theorem EO.t {H:Hp}{a b:Addr}{kvs:List (List BI×V)}{k:List BI}(e:H a=some (.dT kvs))(eb:H b=some (.tup (k.map kV))):EO H a (.ref b) (Cy kvs k):=.inr ⟨kvs,k,b,.inl e,rfl,eb,rfl⟩
theorem IS.k {H:Hp}{a:Addr}{kvs:List (BI×V)}{k:BI}{v:V}(e:H a=some (.dK kvs))(hl:kvs.length<sizeLine):IS H a (kV k) v (upd H a (.dK (E6 kvs k v))):=.inl ⟨kvs,k,e,rfl,hl,rfl⟩
theorem IS.t {H:Hp}{a b:Addr}{kvs:List (List BI×V)}{k:List BI}{v:V}(e:H a=some (.dT kvs))(eb:H b=some (.tup (k.map kV)))(hl:kvs.length<sizeLine):
 IS H a (.ref b) v (upd H a (.dT (E6 kvs k v))):=.inr ⟨kvs,k,b,e,rfl,eb,hl,rfl⟩
section
variable {X:Cx}{pins:List (Addr×Obj)}{σ:St}{H:Hp}{s:Shared}{a:Addr}{y v:V}{u r:Value}{o:Option V}{A:Around}{E:Value→Shared→Prop}
theorem AZ.big (I:AZ X pins σ H s):sysModules<s.heap.objs.size:=by
 have h:mainGlobals<s.heap.objs.size:=(I.mod.glob.keeps I.bk).lt
 exact Nat.lt_trans (by decide) h
theorem Jo {Q:Value→Shared→Prop}(hu:A.units+1<cLine)(I:AZ X pins σ H s)(g:EO H a y (some v))(ry:Aj y u)(h:∀ w' s',AZ X pins σ H s'→Aj v w'→Q w' s'):
 wpAny (model X.prog X.w) A (getItem (.ref a) u) Q E s:=by
 rcases g with⟨kvs,k,e,ey,l⟩ | ⟨kvs,k,b,e,ey,eb,l⟩
 ·subst ey
  obtain⟨z,hd,vs,rel,dd⟩:=JI I.hok e
  obtain⟨w',hw,rw'⟩:=DR.some_of (v:=v) (o:=valueAt vs k) (by rw[l];exact rel.val k)
  exact wpAny_getItem_of (HP ry) dd.mapOf hw (h w' _ (I.tok _) rw')
 ·subst ey
  cases (show u=Value.ref b from ry)
  obtain⟨z,hd,xs,rel,dd⟩:=JJ I.hok e
  obtain⟨w',hw,rw'⟩:=DR.some_of (v:=v) (o:=(atKey xs k).map (·.2)) (by rw[l];exact rel.val k)
  obtain⟨p,hp,hp2⟩:=Option.map_eq_some_iff.mp hw
  refine wpAny_getItem_heap (tupleKind_room_in1 hu) (Gf I.hok eb) dd hp ?_
  rw[hp2]
  exact h w' _ (I.tok _) rw'
theorem LY {Q:Value→Shared→Prop}(hu:A.units+1<cLine)(I:AZ X pins σ H s)(g:EO H a y o)(ry:Aj y u)(h:∀ s',AZ X pins σ H s'→Q (.bool (!o.isSome)) s'):
 wpAny (model X.prog X.w) A (compareOp .NotIn u (.ref a)) Q E s:=by
 rcases g with⟨kvs,k,e,ey,l⟩ | ⟨kvs,k,b,e,ey,eb,l⟩
 ·subst ey
  obtain⟨z,hd,vs,rel,dd⟩:=JI I.hok e
  refine wpAny_notIn_of (HP ry) hd dd.mapOf ?_
  rw[← (rel.val k).isSome_eq,← l]
  exact h _ (I.tok _)
 ·subst ey
  cases (show u=Value.ref b from ry)
  obtain⟨z,hd,xs,rel,dd⟩:=JJ I.hok e
  refine wpAny_notIn_heap (tupleKind_room_in1 hu) (Gf I.hok eb) hd dd ?_
  have q:=(rel.val k).isSome_eq
  rw[Option.isSome_map]at q
  rw[← q,← l]
  exact h _ (I.tok _)
theorem JK {h':Heap}{t':Nat}{ob:HO}(I:AZ X pins σ H s)(mu:NY (H a))(hs:Heap.SameBut a s.heap h')(he:∃ q,h'.get? a=some q)(new:A7 X.prog X.w (upd H a ob) h' a ob):
 AZ X pins σ (upd H a ob) { s with heap:=h',toks:=t' }:=
 I.write (x:=a) (e:=a) mu (.inl rfl) (fun b q hb z=>(hs.2 b hb).trans z) he new
theorem Mu {P:Program}{w:World}{H':Hp}{h':Heap}{kvs:List (BI×V)}{vs:List (BI×Value)}(z:kvs.length≤sizeLine)(hd:(a==sysModules)=false)(rel:KV kvs vs)(dd:h'.DictOf (A9 P w) a vs):
 A7 P w H' h' a (.dK kvs):=⟨z,hd,vs,rel,dd⟩
theorem Jp {H':Hp}{Q:Unit→Shared→Prop}(hu:A.units+1<cLine)(I:AZ X pins σ H s)(g:IS H a y v H')(ry:Aj y u)(rv:Aj v r)(h:∀ s',AZ X pins σ H' s'→Q () s'):
 wpAny (model X.prog X.w) A (setItem (.ref a) u r) Q E s:=by
 rcases g with⟨kvs,k,e,ey,l,eH⟩ | ⟨kvs,k,b,e,ey,eb,l,eH⟩
 ·subst ey eH
  obtain⟨z,hd,vs,rel,dd⟩:=N6 I.hok e
  have hz:vs.length≤sizeLine:=by rw[← rel.length];exact z
  have hl:(E6 kvs k v).length≤sizeLine:=by have:=FN kvs k v;omega
  refine wpAny_setItem_pairs (hsz:=hz) (HP ry) dd fun h' dd' hs=>h _ ?_
  have he:∃ q,h'.get? a=some q:=let ⟨q,_,_,hq,_⟩:=dd';⟨q,hq⟩
  exact JK I (by rw[e];exact True.intro) hs he (Mu hl hd (rel.put k rv) dd')
 ·subst ey eH
  cases (show u=Value.ref b from ry)
  obtain⟨z,hd,xs,rel,dd⟩:=N7 I.hok e
  have hz:xs.length≤sizeLine:=by rw[← Paired.length rel];exact z
  have hl:(E6 kvs k v).length≤sizeLine:=by have:=FN kvs k v;omega
  refine wpAny_setItem_heap (hsz:=hz) (tupleKind_room_in1 hu) (Gf I.hok eb) dd fun h' dd' hs=>h _ ?_
  obtain⟨q,es,ep,hq,h2,h3,h4,_,h5⟩:=dd'
  refine JK I (by rw[e];exact True.intro) hs ⟨q,hq⟩ ⟨hl,hd,_,(rel.put k eb rv).keeps fun c ys ec=>?_,q,es,ep,hq,h2,h3,h4,h5⟩
  rw[AT (CL ec e (fun z=>nomatch z))]
  exact ec
end
section
variable {X:Cx}{pins:List (Addr×Obj)}{σ:St}{H:Hp}{s:Shared}{a:Addr}{kvs:List (BI×V)}{k:BI}{u:Value}{A:Around}{E:Value→Shared→Prop}
end
def N8 (i:Expr):Prop:=∀ ov iv,subscripted i false ov iv=operate [ov,iv] (getItem ov iv)
theorem LZ {prog:Program}{w:World}{A:Around}{E:Value→Shared→Prop}{s:Shared}{env:Env}{value slice:Expr}{pos:Pos}{T id:String}{Q:Value→Shared→Prop}
 (hl:typeLookup (.type T) "__getitem__"=pure (some (.builtin id))) (hs:N8 slice)
 (h:wpAny (model prog w) A (eval value env) (fun o s₁=>wpAny (model prog w) A (eval slice env) (fun i s₂=>s₂.TypeIs o T∧wpAny (model prog w) A (getItem o i) Q E s₂) E s₁) E s):
 wpAny (model prog w) A (eval (.Subscript value slice pos) env) Q E s:=by
 refine Subscript_ (wpAny_mono h (fun o s₁ h₁=>wpAny_mono h₁ (fun i s₂ h₂=>?_) fun _ _ x=>x) fun _ _ x=>x)
 obtain⟨hT,h₂⟩:=h₂
 unfold subscriptTail
 refine wpAny_bind ?_
 rw[getitemInPython_of_ne hT.not_modules]
 refine wpAny_bind (wpAny_specialOf hT hl ?_)
 have fin:wpAny (model prog w) A (subscripted slice false o i) (fun r s₃=>wpAny (model prog w) A (letTemporaryGo value o r >>= fun _=>pure r) Q E s₃) E s₂:=by
  rw[hs o i]
  exact wpAny_operating (wpAny_mono h₂ (fun r s₃ h₃=>wpAny_bind (wpAny_letTemporaryGo (wpAny_pure h₃))) fun _ _ x=>x)
 first
  | exact wpAny_pure (wpAny_bind fin)
  | exact wpAny_bind (wpAny_pure (wpAny_bind fin))
  | exact wpAny_bind fin
theorem HQ {X:Cx}{pins:List (Addr×Obj)}{σ:St}{H:Hp}{s:Shared}{a:Addr}{y:V}{o:Option V}(I:AZ X pins σ H s)(g:EO H a y o):s.TypeIs (.ref a) "dict":=by
 rcases g with⟨kvs,k,e,_,_⟩ | ⟨kvs,k,b,e,_,_,_⟩
 ·obtain⟨_,_,vs,_,dd⟩:=JI I.hok e
  exact dd.typeIs
 ·obtain⟨_,_,xs,_,dd⟩:=JJ I.hok e
  exact dd.typeIs
def N9 (td ty:TE):TE:=fun σ H Q=>td σ H fun x H1=>ty σ H1 fun y H2=>∃ a v,x=.ref a∧EO H2 a y (some v)∧Q v H2
def Si (ty td:TE):TE:=fun σ H Q=>ty σ H fun y H1=>td σ H1 fun x H2=>∃ a o,x=.ref a∧EO H2 a y o∧Q (.bl o.isSome) H2
def PP (ty td:TE):TE:=fun σ H Q=>ty σ H fun y H1=>td σ H1 fun x H2=>∃ a o,x=.ref a∧EO H2 a y o∧Q (.bl (!o.isSome)) H2
def OA (td ty tv:TE):TS:=fun D σ H=>tv σ H fun v H1=>td σ H1 fun x H2=>ty σ H2 fun y H3=>∃ a H4,x=.ref a∧IS H3 a y v H4∧D.nx σ H4
def RP (td ty tv:TE)(rd:V→V→Hp→VK→Prop):TS:=fun D σ H=>td σ H fun x H1=>ty σ H1 fun y H2=>∃ a v,x=.ref a∧EO H2 a y (some v)∧
 tv σ H2 fun y2 H3=>rd v y2 H3 fun z H4=>∃ H5,IS H4 a y z H5∧D.nx σ H5
def RQ (td ty:TE):TS:=fun D σ H=>td σ H fun x H1=>ty σ H1 fun y H2=>∃ a kvs k,x=.ref a∧H2 a=some (.dK kvs)∧y=kV k∧(Cy kvs k).isSome=true∧D.nx σ (upd H2 a (.dK (HM kvs k)))
section
variable {X:Cx}{o i e value:Expr}{pos pos' tpos:Pos}{td ty tv:TE}
theorem La (hu:X.A.units+1<cLine)(ho:PE X o td)(hi:PE X i ty)(hs:N8 i):PE X (.Subscript o i pos) (N9 td ty):=by
 intro pins s σ H Q I h
 refine LZ PySem.F.slot_dict_getitem.lookup hs (BJ (ho pins s σ H _ I h) fun u s1 ⟨x,H1,I1,rx,q1⟩=>BJ (hi pins s1 σ H1 _ I1 q1) fun iv s2 zq=>?_)
 obtain⟨y,H2,I2,ry,a,v,ex,g,q2⟩:=zq
 subst ex
 obtain rfl:u=Value.ref a:=rx
 exact⟨HQ I2 g,Jo hu I2 g ry fun w' s3 I3 rw'=>⟨v,H2,I3,rw',q2⟩⟩
theorem JL (hu:X.A.units+1<cLine)(ho:PE X o td)(hi:PE X i ty)(hv:PE X value tv)(hs:swapsWith value (some (.Subscript o i pos')) pos.line X.env=pure false):
 PS X (.Assign [.Subscript o i pos'] value pos) (OA td ty tv):=by
 intro pins s σ H D I h
 refine wpAny_Assign_Subscript (BJ (hv pins s σ H _ I h) fun r s1 ⟨v,H1,I1,rv,q1⟩=>BJ (ho pins s1 σ H1 _ I1 q1) fun u s2 ⟨x,H2,I2,rx,q2⟩=>BJ (hi pins s2 σ H2 _ I2 q2) fun iv s3 zq=>?_) hs
 obtain⟨y,H3,I3,ry,a,H4,ex,g,q3⟩:=zq
 subst ex
 obtain rfl:u=Value.ref a:=rx
 exact Jp hu I3 g ry rv fun s4 I4=>⟨σ,H4,I4,q3⟩
end
theorem KZ {P:Program}{w:World}{H:Hp}(h:Heap)(hb:sysModules<h.objs.size):A7 P w H (h.push { cls:=.type "dict",data:=.dict #[] }) h.objs.size (.dT []):=
 ⟨Nat.zero_le _,beq_eq_false_iff_ne.mpr (Ne.symm (Nat.ne_of_lt hb)),[],.nil,_,#[],0,Heap.get?_push_size _ rfl,⟨rfl,rfl,rfl⟩,rfl,rfl,List.nodup_nil⟩
def QR:TE:=fun _ H Q=>∀ p,H p=none→Q (.ref p) (upd H p (.dK []))
def Mv:TE:=fun _ H Q=>∀ p,H p=none→Q (.ref p) (upd H p (.dT []))
section
variable {X:Cx}{pos:Pos}
theorem HR:PE X (.Dict [] [] pos) Mv:=fun pins s σ H Q I h=>
 wpAny_Dict_empty ⟨.ref s.heap.objs.size,_,I.laid (a:=s.heap.objs.size) (o:=.dT []) (t':=s.toks) (fun _ _ q=>Heap.get?_push_of_some _ q) (Nat.le_refl _) (KZ s.heap I.big),rfl,h _ (I.hok.fresh (Nat.le_refl _))⟩
end
section
variable {P:Program}{w:World}{A:Around}{E:Value→Shared→Prop}{s:Shared}{d it:Addr}{o:Obj}{es:Array DictEntry}{ep i:Nat}
structure OB (h:Heap)(d:Addr)(o:Obj)(es:Array DictEntry)(ep:Nat):Prop where
 at_:h.get? d=some o
 ex:o.ExactDict
 data:o.data=.dict es ep
theorem OB.ty (x:OB s.heap d o es ep):s.TypeIs (.ref d) "dict":=⟨o,x.at_,x.ex.1⟩
end
section
variable {X:Cx}{tg:Expr}{pins:List (Addr×Obj)}{σ:St}{H:Hp}{s:Shared}
def Sj (a:Addr)(o:Obj):It:=
 ⟨fun i H=>∃ kvs,H a=some (.frz o (.dT kvs))∧i<kvs.length,
  fun i H x H'=>H'=H∧∀ kvs,H a=some (.frz o (.dT kvs))→∃ ks v b,kvs[i]?=some (ks,v)∧x=.ref b∧H b=some (.tup (ks.map kV)),
  fun i H=>∃ kvs,H a=some (.frz o (.dT kvs))∧kvs.length≤i⟩
def TX (tl:TE):TI:=fun σ H R=>tl σ H fun x H1=>∃ a kvs,x=.ref a∧H1 a=some (.dT kvs)∧∀ o,R (Sj a o) (upd H1 a (.frz o (.dT kvs)))
end
section
variable {P:Program}{w:World}{A:Around}{E:Value→Shared→Prop}{s:Shared}{d:Addr}{o:Obj}{es:Array DictEntry}{ep:Nat}
end
section
variable {X:Cx}
def Sk (K:PySem.W.Frag):R2:=fun x y H Q=>∃ a b xs,x=.ref a∧y=.ref b∧Aq K H a xs∧Aq K H b []∧Q (.bl (!xs.isEmpty)) H
end
end L2
namespace StrT
open PySem PySem.W PyProof.Rows
section
variable {N:Nat}{lt:Nat→Nat→Bool}
def Wp {α:Type}(N:Nat)(lt:Nat→Nat→Bool):KasT α→(α→Prop)→Prop
 | .ret a,P=>P a
 | .ask i j k,P=>i<N∧j<N∧Wp N lt (k (lt i j)) P
theorem Wp.mono {α:Type}{P P':α→Prop}(hp:∀ a,P a→P' a):∀{t:KasT α},Wp N lt t P→Wp N lt t P'
 | .ret a,h=>hp a h
 | .ask _ _ _,h=>⟨h.1,h.2.1,Wp.mono hp h.2.2⟩
theorem Wp.bind {α β:Type}{f:α→KasT β}{P:β→Prop}:∀{t:KasT α},Wp N lt t (fun a=>Wp N lt (f a) P)→Wp N lt (t.bind f) P
 | .ret _,h=>h
 | .ask _ _ _,h=>⟨h.1,h.2.1,Wp.bind h.2.2⟩
structure RR (lt:Nat→Nat→Bool):Prop where
 tr:∀ a b c,lt b a=false→lt c b=false→lt c a=false
 as:∀ a b,lt a b=true→lt b a=false
theorem RR.rf (o:RR lt)(a:Nat):lt a a=false:=by
 cases h:lt a a with
 | false=>rfl
 | true=>exact(o.as a a h).symm▸h.symm▸h
def gg (p:Array Nat)(i:Nat):Nat:=p.getD i 0
def Up (lt:Nat→Nat→Bool)(p:Array Nat)(k:Nat):Prop:=∀ i j,i≤j→j<k→lt (gg p j) (gg p i)=false
def Dn (lt:Nat→Nat→Bool)(p:Array Nat)(k:Nat):Prop:=∀ i j,i≤j→j<k→lt (gg p i) (gg p j)=false
structure Bs (N:Nat)(p₀ p:Array Nat):Prop where
 sz:p.size=N
 bd:∀ i,gg p i<N
 pm:p.Perm p₀
def TY (lt:Nat→Nat→Bool)(p:Array Nat)(n q:Nat):Prop:=q+1≤n∧∀ i j,n-(q+1)≤i→i<n→n-(q+1)≤j→j<n→lt (gg p i) (gg p j)=false
end
end StrT
namespace L2
open PySem PySem.Spec PyProof.Rows
def Sl (p q:Int×Int):Bool:=if p.1=q.1 then decide (p.2<q.2)else decide (p.1<q.1)
def IT (h:Heap)(v:Value)(p:Int×Int):Prop:=∃ a t u,v=.ref a∧IsTup h a #[.int p.1 t,.int p.2 u]
theorem IT.inj {h:Heap}{v:Value}{p q:Int×Int}(x:IT h v p)(y:IT h v q):p=q:=by
 obtain⟨a1,t1,u1,rfl,o1,h1,_,n1,d1⟩:=x
 obtain⟨a2,t2,u2,e2,o2,h2,_,n2,d2⟩:=y
 cases e2
 rw[h1]at h2
 cases h2
 rw[d1]at d2
 injection d2 with e1 _
 obtain⟨p1,p2⟩:=p
 obtain⟨q1,q2⟩:=q
 simp at e1
 rw[e1.1.1,e1.2.1]
theorem Jq:bootBuiltins "sorted"=some (.builtin "sorted"):=by nofun
abbrev QS (ps:List (Int×Int)):Prop:=ps.Pairwise fun p q=>Sl q p=false
section
variable {P:Program}{w:World}{A:Around}{E:Value→Shared→Prop}{s:Shared}
end
def Sm (H:Hp)(v:V)(p:Int×Int):Prop:=∃ b,v=.ref b∧H b=some (.tup [.int p.1,.int p.2])
abbrev QT (H:Hp)(vs:List V)(ps:List (Int×Int)):Prop:=Paired (Sm H) vs ps
section
variable {X:Cx}{pins:List (Addr×Obj)}{σ:St}{H:Hp}{s:Shared}
def PQ (K:PySem.W.Frag):List V→Hp→VK→Prop:=fun xs H Q=>∃ a vs ps,xs=[V.ref a]∧Aq K H a vs∧QT H vs ps∧vs.length<64∧∀ l vs' ps',H l=none→QT H vs' ps'→ps'.Perm ps→QS ps'→Q (.ref l) (upd H l (.lst vs'))
def Sn (K:PySem.W.Frag)(a:Addr):It:=
 ⟨fun i H=>∃ xs x,Aq K H a xs∧xs[i]?=some x,fun i H y H'=>∃ x b,(∀ xs,Aq K H a xs→xs[i]?=some x)∧H b=none∧y=.ref b∧H'=upd H b (.tup [.int i,x]),fun i H=>∃ xs,Aq K H a xs∧xs.length≤i⟩
def RS (K:PySem.W.Frag)(ta:TA):TI:=fun σ H R=>ta σ H fun vs H1=>∃ a,vs=[V.ref a]∧(∃ xs,Aq K H1 a xs)∧R (Sn K a) H1
end
section
variable {A:Around}{s:Shared}
end
section
variable {X:Cx}{pins:List (Addr×Obj)}{σ:St}{H:Hp}{s:Shared}
def TZ (K:PySem.W.Frag)(H:Hp)(v:V)(ps:List (Int×Int)):Prop:=∃ a vs,v=.ref a∧Aq K H a vs∧QT H vs ps
end
structure Fw (X:Cx)(scope:Scope)(cl:List (Str×Addr))(x y:Str)(fv:List Str)(js:List Nat):Prop where
 S:B5 X scope cl x fv js
 hy:scope.names.lookup y=some .local
 nd:(x::y::fv).Nodup
section
variable {X:Cx}{scope:Scope}{cl:List (Str×Addr)}{x y:Str}{fv:List Str}{js:List Nat}
theorem HS {pins:List (Addr×Obj)}{σ:St}{H:Hp}{s:Shared}{h₁:Heap}{ex:List Addr}{tk:Nat}(S2:Fw X scope cl x y fv js)(I:AZ X pins σ H s)
 (hf:∀ b∈ex,EL X pins H b) (hlt:∀ b∈ex,b<s.heap.objs.size) (hns:h₁.Ns s.heap.objs.size (fun _=>none)) (hk:∀ b o,s.heap.get? b=some o→h₁.get? b=some o):
 AZ (BV X scope cl s.heap.objs.size (x::y::fv) s H ex (X.pn++pins)) [] (none::none::Ev js σ) H { s with heap:=h₁,toks:=tk }:=by
 have S:=S2.S
 have nstk:∀ b∈ex,b∉Fl X.stack:=fun b hb z=>by
  rcases List.mem_cons.mp (I.stkSub b z)with e | e
  ·exact(hf b hb).2.1 e
  ·exact(hf b hb).2.2.1 e
 have ok:(BV X scope cl s.heap.objs.size (x::y::fv) s H ex (X.pn++pins)).Ok:=by
  refine⟨I.ok.mod,S.kind,I.ok.glob,I.ok.blt,Nat.le_refl _,fun y' z c h1 h2=>I.ok.inj y' z c (S.cell_of h1) (S.cell_of h2),fun y hy=>?_,(fun y c h hc=>by
   have h':((cl.lookup y).any fun c=>decide (s.heap.objs.size<c))=true:=h
   rw[show cl.lookup y=some c from hc]at h'
   exact Nat.le_of_lt (of_decide_eq_true h')),I.ok.hd,I.ok.frames,.inl rfl,
   fun b hb=>⟨Nat.ne_of_lt (hlt b hb),fun y c h=>(hf b hb).2.2.2.2.1 y c (S.cell_of h)⟩,I.bs,Nat.le_trans I.ok.bsz I.sz,fun b o e hb=>?_,nstk,I.stack,I.stkFree⟩
  ·have hm:y∈fv:=by
    rcases hy with hy | hy
    ·exact S.own hy (.inl rfl)
    ·exact S.own hy (.inr rfl)
   exact Option.isSome_iff_exists.mp (S.vis y hm).2.2
  ·obtain⟨f0,f1,f2,f3,f4,f5⟩:=hf b hb
   rcases f3 with z | z
   ·exact I.ok.noex b o e z
   ·exact absurd (Nat.lt_of_lt_of_le (Heap.lt_size e) (Nat.le_trans I.ok.bsz z)) (Nat.lt_irrefl _)
 refine⟨ok,rfl,I.bare,Un.kept hk,⟨_,hns,fun i y v e1 e2 e3=>?_⟩,fun y c h=>?_,I.hok.fresh (Nat.le_refl _),fun y c h=>I.freeC y c (S.cell_of h),fun p hp=>?_,I.hok.kept hk,?_⟩
 ·rcases i with _ | _ | i
  ·have z:(some (none:Option V))=some (some v):=e2;cases z
  ·have z:(some (none:Option V))=some (some v):=e2;cases z
  ·
   have hy:fv[i]?=some y:=by simpa [BV]using e1
   obtain⟨j,hj,hN⟩:=EN S.sl hy
   have hv:σ[j]?=some (some v):=by
    have z:(Ev js σ)[i]?=some (some v):=by simpa using e2
    unfold Ev at z
    rw[List.getElem?_map,hj]at z
    have z':(σ[j]?).getD none=some v:=Option.some.inj z
    cases q:σ[j]? with
    | none=>rw[q]at z';cases z'
    | some o=>rw[q]at z';exact congrArg some z'
   obtain⟨hfree,hcell,hsome⟩:=S.vis y (List.mem_of_getElem? hy)
   obtain⟨m,hn,hl⟩:=I.loc
   obtain⟨u,ru,look⟩:=hl j y v hN hv (.inr (.inl hcell))
   refine⟨u,ru,.inr ⟨.inl (Be I.ok.kind hfree hcell),?_⟩⟩
   obtain⟨c',hc'⟩:=Option.isSome_iff_exists.mp hsome
   rcases look with⟨k,_⟩ | ⟨_,c,ec,z⟩
   ·have k':X.env.scope.names.lookup y=some .local:=k
    rw[hcell]at k';cases k'
   ·have e:=S.cell_of hc'
    rw[ec]at e
    cases e
    exact⟨_,hc',by obtain⟨o,ho,hd⟩:=z;exact⟨o,hk _ _ ho,hd⟩⟩
 ·obtain⟨v,o,ho,hd⟩:=I.cell y c (S.cell_of h)
  exact⟨v,o,hk _ _ ho,hd⟩
 ·have hp':p∈X.pn++pins:=by simpa [BV]using hp
  obtain⟨e,n,ne,nf,d⟩:=I.pin p hp'
  refine⟨hk _ _ e,n,Nat.ne_of_lt (Heap.lt_size e),fun z=>?_,d⟩
  rcases List.mem_cons.mp (I.stkSub p.1 z)with q | q
  ·exact ne q
  ·exact nf q
 ·show(none::none::Ev js σ).length=(x::y::fv).length
  have:fv.length=js.length:=Paired.length S.sl
  simp[Ev,this]
end
def Mw (wi:TI)(g:TG)(js:List Nat)(tt:TT)(te:TE):TE:=fun σ H Q=>wi σ H fun J H1=>∀ D,H1 D=none→∃ W:Nat→Nat→Hp→Prop,(∃ m,W 0 m (upd H1 D (.lst [])))∧∀ i m H,W i m H→
 (J.stop i H∧Q (.ref D) H)∨(J.go i H∧∀ x H' o1 o2,J.yld i H x H'→g x (o1::o2::Ev js σ) H' fun σ2 H4=>(∃ v1 v2,σ2=some v1::some v2::Ev js σ)∧tt σ2 H4 fun b H2=>
  if b=true then te σ2 H2 fun v H3=>∃ xs,H3 D=some (.lst xs)∧xs.length<sizeLine∧∃ m',m'<m∧W (i+1) m' (upd H3 D (.lst (xs++[v])))
  else ∃ m',m'<m∧W (i+1) m' H2)
theorem HU {X:Cx}{elt iter:Expr}{ifs:List Expr}{x y:Str}{px py tp:Pos}{kk:Nat}{pos:Pos}{scope:Scope}{cl:List (Str×Addr)}{fv:List Str}{js:List Nat}{wi:TI}{tt:TT}{te:TE}(hc:X.calm=true)(hclos:closureFor scope X.env=pure cl)
 (S2:Fw X scope cl x y fv js) (hi:PI X (.Tuple [.Name x px,.Name y py] kk tp) iter wi)
 (ht:∀(C:Addr) (s₀:Shared) (H₀:Hp) (ex:List Addr) (pn:List (Addr×Obj)),PF (BV X scope cl C (x::y::fv) s₀ H₀ ex pn) ifs tt)
 (he:∀(C:Addr) (s₀:Shared) (H₀:Hp) (ex:List Addr) (pn:List (Addr×Obj)),PE (BV X scope cl C (x::y::fv) s₀ H₀ ex pn) elt te)
 (hs:∀ x,foldedSetIterable iter X.env x=pure x:=by intro _;rfl):PE X (.ListComp elt [⟨.Tuple [.Name x px,.Name y py] kk tp,iter,ifs,0⟩] scope pos) (Mw wi (Mf X.K 2 (HG (Fn 0) (HG (Fn 1) Me))) js tt te):=by
 intro pins s σ H Q I h
 have S:=S2.S
 rw[eval_ListComp]
 refine wpAny_comprehension_free (use:=none) rfl hs hclos S.kind S.nm (BJ (hi pins s σ H _ I h) fun v s1 h1=>BJ h1 fun itv s2 h2=>?_)
 obtain⟨it,fp,tn,J,H2,e,I2,T,st2,f2,hW⟩:=h2
 subst e
 have hD:H2 s2.heap.objs.size=none:=I2.hok.fresh (Nat.le_refl _)
 obtain⟨W,⟨m0,w0⟩,turn⟩:=hW s2.heap.objs.size hD
 have lt2:∀ b∈fp,b<s2.heap.objs.size:=fun b hb=>by
  obtain⟨o,e,_⟩:=T.obj _ _ st2 b hb
  exact Heap.lt_size e
 refine wpAny_newObj_type (wpAny_newFunctionEnv S.nc (by intro y hy;simp at hy) (fun h₁ hns₁ hsb₁=>?_) S.kind)
 dsimp only at hns₁ hsb₁ ⊢
 have I3:AZ X pins σ (upd H2 s2.heap.objs.size (.lst [])) { s2 with heap:=s2.heap.push { cls:=.type "list",dict:=none,data:=.seq ([]:List Value).toArray } }:=I2.lnew (t':=s2.toks) .nil (Nat.zero_le _)
 generalize hS3:({ s2 with heap:=s2.heap.push { cls:=.type "list",dict:=none,data:=.seq ([]:List Value).toArray } }:Shared)=s3 at I3
 have eh:s3.heap=s2.heap.push { cls:=.type "list",dict:=none,data:=.seq ([]:List Value).toArray }:=by rw[← hS3]
 rw[← eh]at hns₁ hsb₁ ⊢
 have hsz:s3.heap.objs.size=s2.heap.objs.size+1:=by rw[eh,Heap.size_push]
 have k23:∀ b o,s2.heap.get? b=some o→s3.heap.get? b=some o:=fun b o e=>by rw[eh];exact Heap.get?_push_of_some _ e
 have k34:∀ b o,s3.heap.get? b=some o→h₁.get? b=some o:=fun b o e=>hsb₁.extBut b o (Nat.ne_of_lt (Heap.lt_size e)) (Heap.get?_push_of_some _ e)
 have f3:∀ b∈fp,EL X pins (upd H2 s2.heap.objs.size (.lst [])) b:=fun b hb=>⟨by rw[AT (Nat.ne_of_lt (lt2 b hb))];exact(f2 b hb).1,(f2 b hb).2⟩
 have lt3:∀ b∈fp,b<s3.heap.objs.size:=fun b hb=>by rw[hsz];exact Nat.lt_succ_of_lt (lt2 b hb)
 have I4:=HS (tk:=s3.toks) S2 I3 f3 lt3 (h₁:=h₁) (by simpa using hns₁) k34
 generalize hY:BV X scope cl s3.heap.objs.size (x::y::fv) s3 (upd H2 s2.heap.objs.size (.lst [])) fp (X.pn++pins)=Y at I4
 have hYp:Y.prog=X.prog:=by rw[← hY];rfl
 have hYw:Y.w=X.w:=by rw[← hY];rfl
 have hYK:Y.K=X.K:=by rw[← hY];rfl
 have hYA:Y.A=X.A:=by rw[← hY];rfl
 have hYc:Y.calm=true:=by rw[← hY];exact hc
 have hYe:Y.env=compEnvC scope cl s3.heap.objs.size X.env:=by rw[← hY];rfl
 have hYx:Y.xe=fun _ _=>False:=by rw[← hY];rfl
 have hYN:Y.N=x::y::fv:=by rw[← hY];rfl
 have hgY:PG Y (.Tuple [.Name x px,.Name y py] kk tp) (Mf X.K 2 (HG (Fn 0) (HG (Fn 1) Me))):=by
  rw[← hYK]
  exact Hy hYc (Br (BG (X:=Y) (i:=0) (by rw[hYN];exact S2.nd) (by rw[hYN];rfl) (.inl (by rw[hYe];exact lookup_relabel_local S.hx)) (.inr (by rw[hYe];exact lookup_relabel_local S.hx)))
   (Br (BG (X:=Y) (i:=1) (by rw[hYN];exact S2.nd) (by rw[hYN];rfl) (.inl (by rw[hYe];exact lookup_relabel_local S2.hy)) (.inr (by rw[hYe];exact lookup_relabel_local S2.hy))) Fe))
 have heY:PE Y elt te:=by rw[← hY];exact he _ _ _ _ _
 have htY:PF Y ifs tt:=by rw[← hY];exact ht _ _ _ _ _
 have stat:∀{H':Hp},(∀ b∈fp,H' b=none)→∀ b∈fp,EL Y [] H' b:=fun {H'} hn b hb=>by
  obtain⟨g0,g1,g2,g3,g4,g5⟩:=f3 b hb
  rw[← hY]
  refine⟨hn b hb,Nat.ne_of_lt (lt3 b hb),fun z=>?_,.inl hb,fun y c e=>g4 y c (S.cell_of e),fun p hp=>g5 p (by simpa [BV]using hp)⟩
  rcases List.mem_cons.mp (I3.stkSub b z)with q | q
  ·exact g1 q
  ·exact g2 q
 have fin:∀{i:Nat} {m:Nat} {σ':St} {H':Hp} {s':Shared},AZ Y [] σ' H' s'→Q (.ref s2.heap.objs.size) H'→compPost (model X.prog X.w) X.A X.xe none (EP X pins σ Q) (.ref s2.heap.objs.size) s3.heap.objs.size (.ok .next) s':=fun {i m σ' H' s'} J q=>by
  obtain⟨mm,hn,_⟩:=J.loc
  rw[← hY]at J hn
  refine⟨mm,hn,fun h'' sb=>?_⟩
  exact⟨.ref _,H',HK I3 f3 J sb,rfl,q⟩
 have st4:∀ s4:Shared,s4={ s3 with heap:=h₁,toks:=s3.toks }→tn 0 s4.heap:=fun s4 e=>by
  subst e
  exact T.keep _ _ _ st2 fun b hb o e=>k34 b o (k23 b o e)
 have loop:codeAny (model X.prog X.w) X.A (.compLoop (.ListComp elt [⟨.Tuple [.Name x px,.Name y py] kk tp,iter,ifs,0⟩] scope pos) 0 (.ref it) (.ref s2.heap.objs.size) (compEnvC scope cl s3.heap.objs.size X.env))
  (compPost (model X.prog X.w) X.A X.xe none (EP X pins σ Q) (.ref s2.heap.objs.size) s3.heap.objs.size) { s3 with heap:=h₁,toks:=s3.toks }:=by
  refine FM (fun n s'=>∃(i:Nat) (o1 o2:Option V) (H':Hp),AZ Y [] (o1::o2::Ev js σ) H' s'∧tn i s'.heap∧(∀ b∈fp,H' b=none)∧W i n H') ?_ m0 ⟨0,none,none,_,I4,st4 _ rfl,fun b hb=>(f3 b hb).1,w0⟩
  rintro n s5 ⟨i,o1,o2,H5,I5,st5,fr5,w5⟩
  rcases turn i n H5 w5 with⟨stop,q⟩ | ⟨go,step⟩
  ·have r:=T.done Y hYp hYw hYK hYc i [] s5 _ H5 (fun _ _=>False) I5 (stat fr5) st5 stop
   rw[hYA]at r
   refine BJ r fun r s6 zq=>?_
   obtain⟨hr,I6⟩:=zq
   subst hr
   exact fin (i:=i) (m:=n) I6 q
  ·have r:=T.item Y hYp hYw hYK hYc i [] s5 _ H5 (fun _ _=>False) I5 (stat fr5) st5 go
   rw[hYA]at r
   refine BJ r fun r s6 zq=>?_
   obtain⟨u,hr,h6⟩:=zq
   subst hr
   refine BJ h6 fun _ s7 zq=>?_
   obtain⟨y,H7,I7,r7,y7,st7,fr7⟩:=zq
   have I7':=I7.pinned (stat fr7) (T.obj _ _ st7)
   have r8:=hgY _ s7 _ H7 y u _ I7' r7 (step y _ o1 o2 y7)
   rw[hYp,hYw,hYA,hYe,hYx]at r8
   refine BJ r8 fun _ s8 zq=>?_
   obtain⟨σ8,H8,I8,⟨v1,v2,e1⟩,q8⟩:=zq
   subst e1
   have r9:=htY _ s8 _ _ _ I8 q8
   rw[hYp,hYw,hYA,hYe,hYx]at r9
   refine BJ r9 fun b s9 zq=>?_
   obtain⟨H9,I9,q9⟩:=zq
   have again:∀{σ':St} {H':Hp} {s':Shared},AZ Y ([]++Ex fp s7.heap) (some v1::some v2::Ev js σ) H' s'→(∃ m',m'<n∧W (i+1) m' H')→
    ∃ m,m<n∧∃(i:Nat) (o1 o2:Option V) (H':Hp),AZ Y [] (o1::o2::Ev js σ) H' s'∧tn i s'.heap∧(∀ b∈fp,H' b=none)∧W i m H':=fun {σ' H' s'} K7 ⟨m',hm,w7⟩=>by
    refine⟨m',hm,i+1,some v1,some v2,H',K7.unpinned,T.keep _ _ _ st7 fun b hb o e=>(K7.pin (b,o) (List.mem_append_right _ (List.mem_append_right _ (B4 hb e)))).1,fun b hb=>?_,w7⟩
    obtain⟨o,e,d⟩:=T.obj _ _ st7 b hb
    exact(K7.pin (b,o) (List.mem_append_right _ (List.mem_append_right _ (B4 hb e)))).2.1
   cases b with
   | false=>
    rw[if_neg Bool.false_ne_true]at q9 ⊢
    exact again (σ':=[]) I9 q9
   | true=>
    rw[if_pos rfl]at q9 ⊢
    have r10:=heY _ s9 _ _ _ I9 q9
    rw[hYp,hYw,hYA,hYe,hYx]at r10
    refine BJ r10 fun v s10 zq=>?_
    obtain⟨y10,H10,I10,ry,xs,hxs,hlen,m',hm,w10⟩:=zq
    have r11:=Cv (X:=Y) _ s10 _ H10 (.ref s2.heap.objs.size) [y10] (.ref s2.heap.objs.size) [v] (fun _ H'=>H'=upd H10 s2.heap.objs.size (.lst (xs++[y10]))) I10 rfl (.cons ry .nil) ⟨_,xs,y10,rfl,rfl,hxs,hlen,rfl⟩
    rw[hYp,hYw,hYA,hYx]at r11
    refine BJ r11 fun _ s11 zq=>?_
    obtain⟨_,H11,I11,_,e11⟩:=zq
    subst e11
    exact again (σ':=[]) I11 ⟨m',hm,w10⟩
 have loop':∀ s4:Shared,s4={ s3 with heap:=h₁,toks:=s3.toks }→codeAny (model X.prog X.w) X.A (.compLoop (.ListComp elt [⟨.Tuple [.Name x px,.Name y py] kk tp,iter,ifs,0⟩] scope pos) 0 (.ref it) (.ref s2.heap.objs.size) (compEnvC scope cl s3.heap.objs.size X.env))
  (compPost (model X.prog X.w) X.A X.xe none (EP X pins σ Q) (.ref s2.heap.objs.size) s3.heap.objs.size) s4:=fun s4 e=>by subst e;exact loop
 have e4:∀ t,t=s3.toks→({ s3 with heap:=h₁,toks:=t }:Shared)={ s3 with heap:=h₁,toks:=s3.toks }:=fun t e=>by rw[e]
 have fin4:∀ s4:Shared,s4={ s3 with heap:=h₁,toks:=s3.toks }→codeAny (model X.prog X.w) X.A (.compStart (.ListComp elt [⟨.Tuple [.Name x px,.Name y py] kk tp,iter,ifs,0⟩] scope pos) 0 (.ref it) (.ref s2.heap.objs.size) (compEnvC scope cl s3.heap.objs.size X.env))
  (compPost (model X.prog X.w) X.A X.xe none (EP X pins σ Q) (.ref s2.heap.objs.size) s3.heap.objs.size) s4:=fun s4 e=>
  codeAny_compStart_list (loop' s4 e) (T.self X.A 0 s4 _ _ (st4 s4 e) (loop' s4 e))
 have es:({ s2 with heap:=s2.heap.push { cls:=.type "list",dict:=none,data:=.seq ([]:List Value).toArray } }:Shared)=s3:=hS3
 refine fin4 _ ?_
 rw[← es]
 rfl
section
variable {X:Cx}
def So (K:PySem.W.Frag)(te:TE)(tk:TO):TE:=fun σ H Q=>te σ H fun x H1=>tk σ H1 fun k H2=>k=some (-1)∧∃ a xs,x=.ref a∧Aq K H2 a xs∧∀ p,H2 p=none→Q (.ref p) (upd H2 p (.lst xs.reverse))
end
def IU:List (TE×TE)→St→Hp→(List (V×V)→Hp→Prop)→Prop
 | [],_,H,Q=>Q [] H
 | (tk,tv)::r,σ,H,Q=>tk σ H fun x H1=>tv σ H1 fun y H2=>IU r σ H2 fun ps H3=>Q ((x,y)::ps) H3
abbrev VV:List (V×V)→List (Value×Value)→Prop:=Paired fun p q=>Aj p.1 q.1∧Aj p.2 q.2
def Ta (X:Cx)(pos:Pos)(keys:List (Option Expr))(values:List Expr)(trs:List (TE×TE)):Prop:=
 ∀(pins:List (Addr×Obj)) (s:Shared) (σ:St) (H:Hp) (Q:List (V×V)→Hp→Prop),AZ X pins σ H s→IU trs σ H Q→
  wpAny (model X.prog X.w) X.A (evalPairs (pairTrees keys values X.env pos)) (fun vs s'=>∃ ps H',AZ X pins σ H' s'∧VV ps vs∧Q ps H') X.xe s
def Mz (kvs more:List (BI×V)):List (BI×V):=more.foldl (fun acc kv=>E6 acc kv.1 kv.2) kvs
def RT (trs:List (TE×TE)):TE:=fun σ H Q=>∀ p,H p=none→IU trs σ (upd H p (.dK [])) fun ps H2=>H2 p=some (.dK [])∧∃ kvs:List (BI×V),ps=kvs.map (fun kv=>(kV kv.1,kv.2))∧kvs.length≤15∧Q (.ref p) (upd H2 p (.dK (Mz [] kvs)))
structure M1 (X:Cx)(o:Expr)(m:Str)(apos:Pos)(e:Expr)(cpos:Pos):Prop where
 base:attributeBase o m X.env (eval o X.env)=eval o X.env
 few:((backTo cpos (starEach [e] X.env)).all (fun x=>!x.1)&&(backToKw cpos (keywordEach [] X.env)).all (fun x=>x.1.isSome)
  && decide (([e]:List Expr).length+([]:List Keyword).length+(if([]:List Keyword).isEmpty then 0 else 1)<30))=true
 line:(apos.endLine==cpos.line)=true
 trees:backTo cpos (starEach [e] X.env)=[(false,eval e X.env)]
structure M2 (X:Cx)(o:Expr)(m:Str)(apos:Pos)(e f:Expr)(cpos:Pos):Prop where
 base:attributeBase o m X.env (eval o X.env)=eval o X.env
 few:((backTo cpos (starEach [e,f] X.env)).all (fun x=>!x.1)&&(backToKw cpos (keywordEach [] X.env)).all (fun x=>x.1.isSome)
  && decide (([e,f]:List Expr).length+([]:List Keyword).length+(if([]:List Keyword).isEmpty then 0 else 1)<30))=true
 line:(apos.endLine==cpos.line)=true
 trees:backTo cpos (starEach [e,f] X.env)=[(false,eval e X.env),(false,eval f X.env)]
def PR (H:Hp)(a:Addr):Prop:=(∃ kvs,Rd H a (.dK kvs))∨∃ kvs,Rd H a (.dT kvs)
section
variable {X:Cx}{pins:List (Addr×Obj)}{σ:St}{H:Hp}{s:Shared}{a:Addr}{y d:V}{u r:Value}{o:Option V}{A:Around}{E:Value→Shared→Prop}
end
def QU (td ty:TE):TE:=fun σ H Q=>td σ H fun x H1=>∃ a,x=.ref a∧PR H1 a∧ty σ H1 fun y H2=>∃ o,EO H2 a y o∧Q (o.getD .non) H2
def QV (td ty tx:TE):TE:=fun σ H Q=>td σ H fun x H1=>∃ a,x=.ref a∧PR H1 a∧ty σ H1 fun y H2=>tx σ H2 fun z H3=>∃ o,EO H3 a y o∧Q (o.getD z) H3
def QW (td ty:TE):TE:=fun σ H Q=>td σ H fun x H1=>∃ a,x=.ref a∧PR H1 a∧ty σ H1 fun y H2=>∃ kvs k v,H2 a=some (.dK kvs)∧y=kV k∧Cy kvs k=some v∧Q v (upd H2 a (.dK (HM kvs k)))
def QX (td ty tx:TE):TE:=fun σ H Q=>td σ H fun x H1=>∃ a,x=.ref a∧PR H1 a∧ty σ H1 fun y H2=>tx σ H2 fun z H3=>∃ kvs k,H3 a=some (.dK kvs)∧y=kV k∧
 (∀ v,Cy kvs k=some v→Q v (upd H3 a (.dK (HM kvs k))))∧(Cy kvs k=none→Q z H3)
section
variable {X:Cx}{o e f:Expr}{apos cpos:Pos}{td ty tx:TE}
end
def Sq (z:Str):Value→Bool
 | .str y _=>y==z
 | _=>false
section
variable {X:Cx}
end
def MK (w:World)(kv:BI×V)(e:DictEntry):Prop:=Fj kv.1 e.key=true∧e.hash=NX w kv.1∧Aj kv.2 e.val
def OC (w:World)(o:Obj)(kvs:List (BI×V)):Prop:=o.ExactDict∧∃ es ep,o.data=.dict es ep∧Paired (MK w) kvs es.toList∧(kvs.map (·.1)).Nodup
def IV (w:World)(K:PySem.W.Frag)(a:Addr)(kvs:List (BI×V)):Prop:=∃ ob,K.lookup a=some ob∧OC w ob kvs∧(a==sysModules)=false
theorem JM {P:Program}{w:World}:∀{kvs:List (BI×V)} {es:List DictEntry},Paired (MK w) kvs es→∃ vs:List (BI×Value),KV kvs vs∧Pairs (A9 P w) es vs∧vs.map (·.1)=kvs.map (·.1)∧∀ e∈es,∃ k,(A9 P w).is k e.key=true∧e.hash=(A9 P w).hash k
 | _,_,.nil=>⟨[],.nil,.nil,rfl,fun _ h=>nomatch h⟩
 | (kv::_),(e::_),.cons r t=>by
  obtain⟨vs,h1,h2,h3,h4⟩:=JM (P:=P) t
  obtain⟨q1,q2,q3⟩:=r
  refine⟨(kv.1,e.val)::vs,.cons ⟨rfl,q3⟩ h1,.cons q1 rfl h2,by rw[List.map_cons,List.map_cons,h3],fun x hx=>?_⟩
  rcases List.mem_cons.mp hx with z | z
  ·rw[z];exact⟨kv.1,q1,q2⟩
  ·exact h4 x z
section
variable {X:Cx}{pins:List (Addr×Obj)}{σ:St}{H:Hp}{s:Shared}{a:Addr}{kvs:List (BI×V)}
theorem IV.at (I:AZ X pins σ H s)(d:IV X.w X.K a kvs):∃ vs,KV kvs vs∧s.heap.DictOf (A9 X.prog X.w) a vs∧∃ ob,s.heap.get? a=some ob∧ob.dict=none:=by
 obtain⟨ob,hk,⟨hx,es,ep,hd,hp,hn⟩,_⟩:=d
 obtain⟨vs,h1,h2,h3,h4⟩:=JM (P:=X.prog) hp
 refine⟨vs,h1,⟨ob,es,ep,I.kIn a ob hk,hx,hd,fun e he=>h4 e (Array.mem_def.mp he),h2,by rw[h3];exact hn⟩,ob,I.kIn a ob hk,hx.2.1⟩
end
def QY (w:World)(K:PySem.W.Frag)(mg:Str→Option Value)(x:Str)(kvs:List (BI×V)):Prop:=∃ a,mg x=some (.ref a)∧IV w K a kvs
def Tb (w:World)(K:PySem.W.Frag)(kvs:List (BI×V)):TE:=fun _ H Q=>∀ a,IV w K a kvs→Q (.ref a) H
def OD (w:World)(K:PySem.W.Frag)(mg:Str→Option Value)(x:Str)(kts:List (BI×List V)):Prop:=∃ kvs,QY w K mg x kvs∧Paired (fun(kv:BI×V) (kt:BI×List V)=>kv.1=kt.1∧∃ a,kv.2=.ref a∧∀ H,Am K H a kt.2) kvs kts
def QZ (w:World)(K:PySem.W.Frag)(kts:List (BI×List V)):TE:=fun _ H Q=>∀ a kvs,IV w K a kvs→Paired (fun(kv:BI×V) (kt:BI×List V)=>kv.1=kt.1∧∃ a,kv.2=.ref a∧∀ H,Am K H a kt.2) kvs kts→Q (.ref a) H
theorem JN {X:Cx}{x:Str}{kts:List (BI×List V)}{pos:Pos}(hm:OD X.w X.K X.mg x kts)(hg:Gl X x:=by rfl)(hd:(x==("__debug__":Str))=false:=by decide):PE X (.Name x pos) (QZ X.w X.K kts):=by
 obtain⟨kvs,⟨a,h,k⟩,p⟩:=hm
 intro pins s σ H Q I q
 exact Fc I hg h ⟨.ref a,H,I,rfl,q a kvs k p⟩ hd
section
variable {X:Cx}{o i e f:Expr}{pos apos cpos:Pos}{td ty te tf:TE}
def RU (w:World)(K:PySem.W.Frag)(td ty:TE):TE:=fun σ H Q=>td σ H fun x H1=>ty σ H1 fun y H2=>∃ a kvs k v,x=.ref a∧IV w K a kvs∧y=kV k∧Cy kvs k=some v∧Q v H2
def M0 (w:World)(K:PySem.W.Frag)(td ty tx:TE):TE:=fun σ H Q=>td σ H fun x H1=>∃ a kvs,x=.ref a∧IV w K a kvs∧ty σ H1 fun y H2=>tx σ H2 fun z H3=>∃ k,y=kV k∧Q ((Cy kvs k).getD z) H3
theorem HV (ho:PE X o td)(he:PE X e te)(hf:PE X f tf)(m:M2 X o "get" apos e f cpos):PE X (.Call (.Attribute o "get" apos) [e,f] [] cpos) (M0 X.w X.K td te tf):=by
 intro pins s σ H Q I h
 refine wpAny_Call_method m.base m.few m.line PySem.F.plainAttrs_dict PySem.F.slot_dict_get PySem.F.type_dict_get (BJ (ho pins s σ H _ I h) fun u s1 zq=>?_)
 obtain⟨x,H1,I1,rx,a,kvs,ex,d,q1⟩:=zq
 subst ex
 obtain rfl:u=Value.ref a:=rx
 obtain⟨_,_,dd,ob,hob,hno⟩:=d.at I1
 refine⟨dd.typeIs,fun b q=>by cases q;exact⟨ob,hob,hno⟩,?_⟩
 rw[m.trees]
 refine Calls.callWith_builtin rfl (Calls.evalArgs_plain (Calls.spliced_cons (BJ (he pins s1 σ H1 _ I1 q1) fun iv s2 ⟨y,H2,I2,ry,q2⟩=>
  Calls.spliced_cons (BJ (hf pins s2 σ H2 _ I2 q2) fun fv s3 ⟨z,H3,I3,rz,k,ey,q3⟩=>Calls.spliced_nil ?_))))
 subst ey
 obtain⟨vs3,rel3,dd3,_⟩:=d.at I3
 refine call_meetsIn PySem.F.slot_dict_get dd3.typeIs PySem.F.entry_dict_get (PySem.F.args_dict_get_3 _ _ _) (meets_dict_get_default (A9 X.prog X.w) a (HP ry) d.choose_spec.2.2 fv) ⟨_,dd3.mapOf,?_⟩
 exact⟨_,H3,I3.tok _,(rel3.val k).getD rz,q3⟩
def RV:V→List V→Hp→VK→Prop:=fun x vs H Q=>∃ l x0 xs y,x=.ref l∧vs=[.int 1,y]∧H l=some (.lst (x0::xs))∧xs.length+2≤sizeLine∧Q .non (upd H l (.lst (x0::y::xs)))
end
section
variable {prog:Program}{w:World}{A:Around}{E:Value→Shared→Prop}{s:Shared}
theorem Cb {it t:Addr}{i:Nat}{items:Array Value}{x:Value}{Q:Value→Shared→Prop}(hit:s.heap.IsTupleIter it t i)(ht:s.heap.IsTuple t items)(hx:items[i]?=some x)
 (hQ:∀ h',h'.IsTupleIter it t (i+1)→Heap.SameBut it s.heap h'→Q x { s with heap:=h' }):wpAny (model prog w) A (Builtin.SmallTypes.nextOf (.ref it)) Q E s:=by
 obtain⟨o,ho,hc,hd⟩:=id hit
 obtain⟨ol,hol,_,nl,hdl⟩:=ht
 unfold Builtin.SmallTypes.nextOf
 refine wpAny_bind (wpAny_callSpecial?_slot (name:=Str.ofString "__next__") hit.typeIs F.slot_tuple_iterator_next (wpAny_call_entry F.slot_tuple_iterator_next hit.typeIs F.entry_tuple_iterator_next ?_ (F.args_tuple_iterator_next_1 _)))
 show wpAny _ _ (field (.ref it) 0 >>= _) _ _ s
 refine wpAny_bind (wpAny_field ho hd (x:=.ref t) rfl ?_)
 show wpAny _ _ (if(Value.ref t==Value.none)=true then _ else _) _ _ s
 rw[if_neg (show ¬ ((Value.ref t==Value.none)=true)from Bool.false_ne_true)]
 show wpAny _ _ (field (.ref it) 1 >>= _) _ _ s
 refine wpAny_bind (wpAny_field ho hd (x:=.int i 0) rfl ?_)
 show wpAny _ _ (seqItems? (.ref t) >>= _) _ _ s
 refine wpAny_bind (wpAny_seqItems hol hdl ?_)
 simp only[Int.toNat_natCast,hx]
 refine wpAny_bind (wpAny_setField ho hd (by simp) (wpAny_pure ⟨x,rfl,wpAny_pure (hQ _ ?_ (Heap.SameBut.update ..))⟩))
 exact⟨_,Heap.get?_update_self _ ho (Obj.isFreed_of_fields (Obj.data_mapFields hd _)),(Obj.cls_mapFields ..).trans hc,by
  rw[Obj.data_mapFields hd];simp[rawInt]⟩
theorem E7 {it t:Addr}{i:Nat}{items:Array Value}{Q:Value→Shared→Prop}(hh:A.handled=none)(hit:s.heap.IsTupleIter it t i)(ht:s.heap.IsTuple t items)(hx:items[i]?=none)
 (hE:∀ h' e,Heap.ExtBut it s.heap h'→(∃ o,h'.get? e=some o∧o.cls=.type "StopIteration")→E (.ref e) { s with heap:=h' }):wpAny (model prog w) A (Builtin.SmallTypes.nextOf (.ref it)) Q E s:=by
 obtain⟨o,ho,hc,hd⟩:=id hit
 obtain⟨ol,hol,_,nl,hdl⟩:=ht
 unfold Builtin.SmallTypes.nextOf
 refine wpAny_bind (wpAny_callSpecial?_slot (name:=Str.ofString "__next__") hit.typeIs F.slot_tuple_iterator_next (wpAny_call_entry F.slot_tuple_iterator_next hit.typeIs F.entry_tuple_iterator_next ?_ (F.args_tuple_iterator_next_1 _)))
 show wpAny _ _ (field (.ref it) 0 >>= _) _ _ s
 refine wpAny_bind (wpAny_field ho hd (x:=.ref t) rfl ?_)
 show wpAny _ _ (if(Value.ref t==Value.none)=true then _ else _) _ _ s
 rw[if_neg (show ¬ ((Value.ref t==Value.none)=true)from Bool.false_ne_true)]
 show wpAny _ _ (field (.ref it) 1 >>= _) _ _ s
 refine wpAny_bind (wpAny_field ho hd (x:=.int i 0) rfl ?_)
 show wpAny _ _ (seqItems? (.ref t) >>= _) _ _ s
 refine wpAny_bind (wpAny_seqItems hol hdl ?_)
 simp only[Int.toNat_natCast,hx]
 refine wpAny_bind (wpAny_rule (wpAny_bind (wpAny_setField ho hd (by simp) ?_)))
 show wpAny _ _ (newExc (.type "StopIteration") [] >>= _) _ _ _
 refine wpAny_bind ?_
 simp only[newExc,newTuple]
 refine wpAny_bind (wpAny_newObj_type ?_ (by size_fits))
 refine wpAny_bind (m:=firstArgMember _ _) (wpAny_of_eq (a:=Value.none) (by first | rfl | (simp only[firstArgMember];rfl)) ?_)
 refine wpAny_newObj_type ?_ (by size_fits)
 simp only[raiseNew]
 refine wpAny_bind (wpAny_handled ?_)
 first | rw[show A.in1.handled=none from hh] | rw[hh]
 refine wpAny_bind (wpAny_pure (wpAny_throw ?_))
 exact hE _ _ (((Heap.SameBut.update ..).extBut.push _).push _) ⟨_,Heap.get?_push_size _ rfl,rfl⟩
theorem Jr {z TI TO i1 i2 l1 l2:Addr}{k1 k2:Nat}{xs ys:Array Value}{x y a b:Value}{Q:Value→Shared→Prop}(D:ZipApart z TI TO i1 i2 l1 l2)
 (hz:IsZip s.heap z TI TO .none) (hTI:IsPair s.heap TI (.ref i1) (.ref i2)) (hTO:IsPair s.heap TO a b)
 (h1:s.heap.IsTupleIter i1 l1 k1) (h2:s.heap.IsListIter i2 l2 k2) (hl1:s.heap.IsTuple l1 xs) (hl2:s.heap.IsList l2 ys) (hx:xs[k1]?=some x) (hy:ys[k2]?=some y)
 (hQ:∀ h',IsZip h' z TI TO (rawInt s.heap.objs.size)→IsPair h' TO x y→h'.IsTupleIter i1 l1 (k1+1)→h'.IsListIter i2 l2 (k2+1)→IsPair h' s.heap.objs.size x y→h'.objs.size=s.heap.objs.size+1→
  (∀ c o,c≠z→c≠TO→c≠i1→c≠i2→s.heap.get? c=some o→h'.get? c=some o)→Q (.ref s.heap.objs.size) { s with heap:=h' }):
 wpAny (model prog w) A (Builtin.«zip.__next__» ⟨[.ref z],[]⟩) (fun fin s'=>∃ v,fin=.done (.ret v)∧Q v s') E s:=by
 show wpAny _ _ (field (.ref z) 2 >>= _) _ _ _
 refine wpAny_bind (wpAny_field hz rfl (x:=.bool false) rfl ?_)
 show wpAny _ _ (field (.ref z) 3 >>= _) _ _ _
 refine wpAny_bind (wpAny_field hz rfl (x:=.ref TI) rfl ?_)
 refine wpAny_bind (wpAny_seqItems hTI rfl ?_)
 show wpAny _ _ (Builtin.SmallTypes.ownedTupleIsFree (.ref z) >>= _) _ _ _
 refine wpAny_bind ?_
 unfold Builtin.SmallTypes.ownedTupleIsFree
 refine wpAny_bind (wpAny_field hz rfl (x:=.none) rfl (wpAny_pure ?_))
 simp only[if_true]
 refine wpAny_bind (wpAny_rule ?_)
 refine wpAny_bind (wpAny_field hz rfl (x:=.ref TO) rfl ?_)
 refine wpAny_bind (wpAny_setField_rec hz (by simp) fun h₁ hz₁ hs₁=>?_)
 replace hz₁:IsZip h₁ z TI TO .ellipsis:=hz₁
 refine wpAny_bind ?_
 simp only[List.zipIdx_cons,List.zipIdx_nil,List.forIn_cons,List.forIn_nil]
 refine wpAny_bind (wpAny_bind (wpAny_onRaise ?_))
 show wpAny _ _ (Builtin.SmallTypes.nextOf (.ref i1) >>= _) _ _ _
 refine wpAny_bind (Cb (h1.extBut hs₁.extBut D.i1z) (hl1.extBut hs₁.extBut D.l1z) hx fun h₂ h1₂ hs₂=>wpAny_pure ?_)
 have hTO₂:IsPair h₂ TO a b:=hs₂.extBut _ _ D.TOi1 (hs₁.extBut _ _ D.TOz hTO)
 refine wpAny_bind (wpAny_seqItems hTO₂ rfl ?_)
 refine wpAny_bind (wpAny_updateSeq_pair hTO₂ fun h₃ hTO₃ hs₃=>?_)
 replace hTO₃:IsPair h₃ TO x b:=hTO₃
 refine wpAny_bind (wpAny_letGo (wpAny_pure ?_))
 refine wpAny_bind (wpAny_bind (wpAny_onRaise ?_))
 show wpAny _ _ (Builtin.SmallTypes.nextOf (.ref i2) >>= _) _ _ _
 refine wpAny_bind (wpAny_nextOf_list_item (((h2.extBut hs₁.extBut D.i2z).extBut hs₂.extBut D.i12.symm).extBut hs₃.extBut D.TOi2.symm)
  (((hl2.extBut hs₁.extBut D.l2z).extBut hs₂.extBut D.l2i1).extBut hs₃.extBut D.l2TO) hy fun h₄ h2₄ hs₄=>wpAny_pure ?_)
 have hTO₄:IsPair h₄ TO x b:=hs₄.extBut _ _ D.TOi2 hTO₃
 refine wpAny_bind (wpAny_seqItems hTO₄ rfl ?_)
 refine wpAny_bind (wpAny_updateSeq_pair hTO₄ fun h₅ hTO₅ hs₅=>?_)
 replace hTO₅:IsPair h₅ TO x y:=hTO₅
 refine wpAny_bind (wpAny_letGo (wpAny_pure (wpAny_pure ?_)))
 refine wpAny_bind (wpAny_seqItems hTO₅ rfl ?_)
 refine wpAny_bind (wpAny_newTuple ?_)
 have hsz:h₅.objs.size=s.heap.objs.size:=by rw[hs₅.1,hs₄.1,hs₃.1,hs₂.1,hs₁.1]
 have hz₅:IsZip h₅ z TI TO .ellipsis:=hs₅.extBut _ _ D.TOz.symm (hs₄.extBut _ _ D.i2z.symm (hs₃.extBut _ _ D.TOz.symm (hs₂.extBut _ _ D.i1z.symm hz₁)))
 have hk₅:∀ c o,c≠z→c≠TO→c≠i1→c≠i2→s.heap.get? c=some o→h₅.get? c=some o:=fun c o c1 c2 c3 c4 e=>
  hs₅.extBut _ _ c2 (hs₄.extBut _ _ c4 (hs₃.extBut _ _ c2 (hs₂.extBut _ _ c3 (hs₁.extBut _ _ c1 e))))
 have h1₅:h₅.IsTupleIter i1 l1 (k1+1):=((h1₂.extBut hs₃.extBut D.TOi1.symm).extBut hs₄.extBut D.i12).extBut hs₅.extBut D.TOi1.symm
 have h2₅:h₅.IsListIter i2 l2 (k2+1):=h2₄.extBut hs₅.extBut D.TOi2.symm
 have hzlt:z<h₅.objs.size:=Heap.lt_size hz₅
 show wpAny _ _ (Builtin.SmallTypes.ownedTupleHandOut (.ref z) (.ref h₅.objs.size) >>= _) _ _ _
 refine wpAny_bind ?_
 unfold Builtin.SmallTypes.ownedTupleHandOut
 have hz₆:IsZip (h₅.push { cls:=.type "tuple",data:=.seq #[x,y] }) z TI TO .ellipsis:=Heap.get?_push_of_some _ hz₅
 refine wpAny_bind (wpAny_setField_rec hz₆ (by simp) fun h₇ hz₇ hs₇=>?_)
 replace hz₇:IsZip h₇ z TI TO (rawInt h₅.objs.size):=hz₇
 refine wpAny_setField_rec hz₇ (by simp) fun h₈ hz₈ hs₈=>?_
 replace hz₈:IsZip h₈ z TI TO (rawInt h₅.objs.size):=hz₈
 have up:∀ c o,c≠z→h₅.get? c=some o→h₈.get? c=some o:=fun c o c1 e=>hs₈.extBut _ _ c1 (hs₇.extBut _ _ c1 (Heap.get?_push_of_some _ e))
 have hT₈:IsPair h₈ h₅.objs.size x y:=hs₈.extBut _ _ (Nat.ne_of_gt hzlt) (hs₇.extBut _ _ (Nat.ne_of_gt hzlt) (Heap.get?_push_size _ rfl))
 have hz8:h₈.objs.size=h₅.objs.size+1:=by rw[hs₈.1,hs₇.1,Heap.size_push]
 rw[hsz]at hz₈ hT₈ hz8
 refine wpAny_pure ⟨_,rfl,?_⟩
 show Q (.ref h₅.objs.size) _
 rw[hsz]
 exact hQ h₈ hz₈ (up _ _ D.TOz hTO₅) (h1₅.at fun o e=>up _ o D.i1z e) (h2₅.at fun o e=>up _ o D.i2z e) hT₈ hz8 fun c o c1 c2 c3 c4 e=>up c o c1 (hk₅ c o c1 c2 c3 c4 e)
theorem Ka {z TI TO i1 i2 l1 l2:Addr}{k1 k2:Nat}{xs ys:Array Value}{a b:Value}{Q:Fin→Shared→Prop}(hh:A.handled=none)(D:ZipApart z TI TO i1 i2 l1 l2)
 (hz:IsZip s.heap z TI TO .none) (hTI:IsPair s.heap TI (.ref i1) (.ref i2)) (hTO:IsPair s.heap TO a b)
 (h1:s.heap.IsTupleIter i1 l1 k1) (h2:s.heap.IsListIter i2 l2 k2) (hl1:s.heap.IsTuple l1 xs) (hl2:s.heap.IsList l2 ys) (hend:xs[k1]?=none∨ys[k2]?=none)
 (hE:∀ h' e,(∀ c o,c≠z→c≠TO→c≠i1→c≠i2→s.heap.get? c=some o→h'.get? c=some o)→(∃ o,h'.get? e=some o∧o.cls=.type "StopIteration")→E (.ref e) { s with heap:=h' }):
 wpAny (model prog w) A (Builtin.«zip.__next__» ⟨[.ref z],[]⟩) Q E s:=by
 show wpAny _ _ (field (.ref z) 2 >>= _) _ _ _
 refine wpAny_bind (wpAny_field hz rfl (x:=.bool false) rfl ?_)
 show wpAny _ _ (field (.ref z) 3 >>= _) _ _ _
 refine wpAny_bind (wpAny_field hz rfl (x:=.ref TI) rfl ?_)
 refine wpAny_bind (wpAny_seqItems hTI rfl ?_)
 show wpAny _ _ (Builtin.SmallTypes.ownedTupleIsFree (.ref z) >>= _) _ _ _
 refine wpAny_bind ?_
 unfold Builtin.SmallTypes.ownedTupleIsFree
 refine wpAny_bind (wpAny_field hz rfl (x:=.none) rfl (wpAny_pure ?_))
 simp only[if_true]
 refine wpAny_bind (wpAny_rule ?_)
 refine wpAny_bind (wpAny_field hz rfl (x:=.ref TO) rfl ?_)
 refine wpAny_bind (wpAny_setField_rec hz (by simp) fun h₁ hz₁ hs₁=>?_)
 replace hz₁:IsZip h₁ z TI TO .ellipsis:=hz₁
 refine wpAny_bind ?_
 simp only[List.zipIdx_cons,List.zipIdx_nil,List.forIn_cons,List.forIn_nil]
 refine wpAny_bind (wpAny_bind (wpAny_onRaise ?_))
 show wpAny _ _ (Builtin.SmallTypes.nextOf (.ref i1) >>= _) _ _ _
 cases hx:xs[k1]? with
 | none=>
  refine wpAny_bind (E7 hh (h1.extBut hs₁.extBut D.i1z) (hl1.extBut hs₁.extBut D.l1z) hx fun h₂ e hs₂ he=>?_)
  obtain⟨oe,hoe,hce⟩:=he
  have hz₂:IsZip h₂ z TI TO .ellipsis:=hs₂ _ _ D.i1z.symm hz₁
  have hez:e≠z:=fun x=>by subst x;rw[hz₂]at hoe;cases hoe;simp at hce
  refine wpAny_setField_rec hz₂ (by simp) fun h₃ _ hs₃=>hE h₃ e (fun c o c1 _ c3 _ x=>hs₃.extBut _ _ c1 (hs₂ _ _ c3 (hs₁.extBut _ _ c1 x))) ⟨oe,hs₃.extBut _ _ hez hoe,hce⟩
 | some x=>
  have hy:ys[k2]?=none:=by rcases hend with h | h;rw[hx]at h;cases h;exact h
  refine wpAny_bind (Cb (h1.extBut hs₁.extBut D.i1z) (hl1.extBut hs₁.extBut D.l1z) hx fun h₂ h1₂ hs₂=>wpAny_pure ?_)
  have hTO₂:IsPair h₂ TO a b:=hs₂.extBut _ _ D.TOi1 (hs₁.extBut _ _ D.TOz hTO)
  refine wpAny_bind (wpAny_seqItems hTO₂ rfl ?_)
  refine wpAny_bind (wpAny_updateSeq_pair hTO₂ fun h₃ hTO₃ hs₃=>?_)
  refine wpAny_bind (wpAny_letGo (wpAny_pure ?_))
  refine wpAny_bind (wpAny_bind (wpAny_onRaise ?_))
  show wpAny _ _ (Builtin.SmallTypes.nextOf (.ref i2) >>= _) _ _ _
  refine wpAny_bind (wpAny_nextOf_list_end hh (((h2.extBut hs₁.extBut D.i2z).extBut hs₂.extBut D.i12.symm).extBut hs₃.extBut D.TOi2.symm)
   (((hl2.extBut hs₁.extBut D.l2z).extBut hs₂.extBut D.l2i1).extBut hs₃.extBut D.l2TO) hy fun h₄ e hs₄ he=>?_)
  obtain⟨oe,hoe,hce⟩:=he
  have hz₄:IsZip h₄ z TI TO .ellipsis:=hs₄ _ _ D.i2z.symm (hs₃.extBut _ _ D.TOz.symm (hs₂.extBut _ _ D.i1z.symm hz₁))
  have hez:e≠z:=fun x=>by subst x;rw[hz₄]at hoe;cases hoe;simp at hce
  refine wpAny_setField_rec hz₄ (by simp) fun h₅ _ hs₅=>hE h₅ e (fun c o c1 c2 c3 c4 x=>hs₅.extBut _ _ c1 (hs₄ _ _ c4 (hs₃.extBut _ _ c2 (hs₂.extBut _ _ c3 (hs₁.extBut _ _ c1 x))))) ⟨oe,hs₅.extBut _ _ hez hoe,hce⟩
theorem Gg {z TI TO i1 i2 l1 l2:Addr}{k1 k2:Nat}{xs ys:Array Value}{x y a b:Value}{Q:Option Value→Shared→Prop}(D:ZipApart z TI TO i1 i2 l1 l2)
 (hz:IsZip s.heap z TI TO .none) (hTI:IsPair s.heap TI (.ref i1) (.ref i2)) (hTO:IsPair s.heap TO a b)
 (h1:s.heap.IsTupleIter i1 l1 k1) (h2:s.heap.IsListIter i2 l2 k2) (hl1:s.heap.IsTuple l1 xs) (hl2:s.heap.IsList l2 ys) (hx:xs[k1]?=some x) (hy:ys[k2]?=some y)
 (hQ:∀ h',IsZip h' z TI TO (rawInt s.heap.objs.size)→IsPair h' TO x y→h'.IsTupleIter i1 l1 (k1+1)→h'.IsListIter i2 l2 (k2+1)→IsPair h' s.heap.objs.size x y→h'.objs.size=s.heap.objs.size+1→
  (∀ c o,c≠z→c≠TO→c≠i1→c≠i2→s.heap.get? c=some o→h'.get? c=some o)→Q (some (.ref s.heap.objs.size)) { s with heap:=h' }):
 wpAny (model prog w) A (pyNext (.ref z)) Q E s:=by
 have hT:s.TypeIs (.ref z) "zip":=⟨_,hz,rfl⟩
 unfold pyNext
 exact wpAny_bind (wpAny_attempt (wpAny_callSpecial?_slot (name:=Str.ofString "__next__") hT F.slot_zip_next
  (wpAny_call_entry F.slot_zip_next hT F.entry_zip_next (Jr D hz hTI hTO h1 h2 hl1 hl2 hx hy fun h' a1 a2 a3 a4 a5 a6 a7=>wpAny_pure (hQ h' a1 a2 a3 a4 a5 a6 a7)) (F.args_zip_next_1 _))))
theorem HW {z TI TO i1 i2 l1 l2:Addr}{k1 k2:Nat}{xs ys:Array Value}{a b:Value}{Q:Option Value→Shared→Prop}(hh:A.handled=none)(D:ZipApart z TI TO i1 i2 l1 l2)
 (hz:IsZip s.heap z TI TO .none) (hTI:IsPair s.heap TI (.ref i1) (.ref i2)) (hTO:IsPair s.heap TO a b)
 (h1:s.heap.IsTupleIter i1 l1 k1) (h2:s.heap.IsListIter i2 l2 k2) (hl1:s.heap.IsTuple l1 xs) (hl2:s.heap.IsList l2 ys) (hend:xs[k1]?=none∨ys[k2]?=none)
 (hQ:∀ h',(∀ c o,c≠z→c≠TO→c≠i1→c≠i2→s.heap.get? c=some o→h'.get? c=some o)→Q none { s with heap:=h' }):wpAny (model prog w) A (pyNext (.ref z)) Q E s:=by
 have hT:s.TypeIs (.ref z) "zip":=⟨_,hz,rfl⟩
 unfold pyNext
 refine wpAny_bind (wpAny_attempt (wpAny_callSpecial?_slot (name:=Str.ofString "__next__") hT F.slot_zip_next
  (wpAny_call_entry F.slot_zip_next hT F.entry_zip_next (Ka hh D hz hTI hTO h1 h2 hl1 hl2 hend fun h' e hk he=>?_) (F.args_zip_next_1 _))))
 obtain⟨o,ho,hc⟩:=he
 refine wpAny_bind (wpAny_isInstance (T:="StopIteration") (b:=true) ⟨o,ho,hc⟩ isSubtype_stop ?_)
 exact wpAny_pure (hQ _ hk)
end
abbrev PU (h:Heap)(l1:Addr):Heap:=h.push { cls:=.type "tuple_iterator",data:=.fields #[.ref l1,.int 0 0] }
abbrev PV (h:Heap)(l1 l2:Addr):Heap:=(PU h l1).push { cls:=.type "list_iterator",data:=.fields #[.ref l2,.int 0 0] }
abbrev PX (h:Heap)(l1 l2:Addr):Heap:=(PV h l1 l2).push { cls:=.type "tuple",data:=.seq #[.ref h.objs.size,.ref (PU h l1).objs.size] }
abbrev PY (h:Heap)(l1 l2:Addr):Heap:=(PX h l1 l2).push { cls:=.type "tuple",data:=.seq #[.none,.none] }
abbrev M3 (h:Heap)(l1 l2:Addr):Heap:=(PY h l1 l2).push { cls:=.type "zip",data:=.fields #[.none,.bool false,.bool false,.ref (PV h l1 l2).objs.size,.ref (PX h l1 l2).objs.size] }
theorem IW (l1 l2:Addr)(xs ys:Array Value):
 Meets (Builtin.«zip.__new__» ⟨[.type "zip",.ref l1,.ref l2],[]⟩) (fun _ R s=>s.heap.IsTuple l1 xs∧s.heap.IsList l2 ys∧R (.ok (.ret (.ref (PY s.heap l1 l2).objs.size))) { s with heap:=M3 s.heap l1 l2 }):=
 .of_wp fun prog w A R s h=>by
  obtain⟨hp,g,d,tk,os⟩:=s;obtain⟨hl1,hl2,h⟩:=h
  have hsub:=sub_zip
  have hL1:Heap.IsTuple (Shared.heap ⟨hp,g,d,tk,os⟩) l1 xs:=hl1
  have hL2:Heap.IsList (Shared.heap ⟨hp.push { cls:=.type "tuple_iterator",data:=.fields #[.ref l1,.int 0 0] },g,d,tk,os⟩) l2 ys:=Heap.IsList.push hl2 _
  wp_walk using wpAny_pyIter_tuple hL1,wpAny_pyIter_list hL2
  exact⟨_,rfl,h⟩
section
variable {prog:Program}{w:World}{A:Around}{E:Value→Shared→Prop}{s:Shared}
theorem Js {l1 l2:Addr}{xs ys:Array Value}{Q:Value→Shared→Prop}(hl1:s.heap.IsTuple l1 xs)(hl2:s.heap.IsList l2 ys)
 (h:∀ h',IsZip h' (s.heap.objs.size+4) (s.heap.objs.size+2) (s.heap.objs.size+3) .none→IsPair h' (s.heap.objs.size+2) (.ref s.heap.objs.size) (.ref (s.heap.objs.size+1))→
  IsPair h' (s.heap.objs.size+3) .none .none→h'.IsTupleIter s.heap.objs.size l1 0→h'.IsListIter (s.heap.objs.size+1) l2 0→h'.objs.size=s.heap.objs.size+5→
  (∀ c o,s.heap.get? c=some o→h'.get? c=some o)→Q (.ref (s.heap.objs.size+4)) { s with heap:=h' }):
 wpAny (model prog w) A (call (.type "zip") [.ref l1,.ref l2]) Q E s:=by
 refine callType_new F.called_zip (by decide) (F.typeCall_zip_2 _ _) (F.newCall_zip_2 _ _) (fun obj=>F.args_object_init_3 obj _ _) F.entry_zip_new (IW l1 l2 xs ys) ⟨hl1,hl2,?_⟩
 have z1:(PU s.heap l1).objs.size=s.heap.objs.size+1:=Heap.size_push ..
 have z2:(PV s.heap l1 l2).objs.size=s.heap.objs.size+2:=by rw[Heap.size_push,z1]
 have z3:(PX s.heap l1 l2).objs.size=s.heap.objs.size+3:=by rw[Heap.size_push,z2]
 have z4:(PY s.heap l1 l2).objs.size=s.heap.objs.size+4:=by rw[Heap.size_push,z3]
 have z5:(M3 s.heap l1 l2).objs.size=s.heap.objs.size+5:=by rw[Heap.size_push,z4]
 have g5:(M3 s.heap l1 l2).get? (PY s.heap l1 l2).objs.size=some _:=Heap.get?_push_size _ rfl
 have g4:(M3 s.heap l1 l2).get? (PX s.heap l1 l2).objs.size=some _:=Heap.get?_push_of_some _ (Heap.get?_push_size _ rfl)
 have g3:(M3 s.heap l1 l2).get? (PV s.heap l1 l2).objs.size=some _:=Heap.get?_push_of_some _ (Heap.get?_push_of_some _ (Heap.get?_push_size _ rfl))
 have g2:(M3 s.heap l1 l2).get? (PU s.heap l1).objs.size=some _:=Heap.get?_push_of_some _ (Heap.get?_push_of_some _ (Heap.get?_push_of_some _ (Heap.get?_push_size _ rfl)))
 have g1:(M3 s.heap l1 l2).get? s.heap.objs.size=some _:=Heap.get?_push_of_some _ (Heap.get?_push_of_some _ (Heap.get?_push_of_some _ (Heap.get?_push_of_some _ (Heap.get?_push_size _ rfl))))
 show _∧_
 rw[z2,z3,z4]at g5
 rw[z1,z2]at g3
 rw[z3]at g4
 rw[z1]at g2
 rw[z4]
 exact⟨⟨_,g5,rfl⟩,h _ g5 g3 g4 ⟨_,g1,rfl,rfl⟩ ⟨_,g2,rfl,rfl⟩ z5 fun c o x=>
  Heap.get?_push_of_some _ (Heap.get?_push_of_some _ (Heap.get?_push_of_some _ (Heap.get?_push_of_some _ (Heap.get?_push_of_some _ x))))⟩
end
theorem M4 {h h2:Heap}:∀ fs:List Addr,(∀ b∈fs,∃ o,h.get? b=some o)→(∀ b∈fs,∃ o,h2.get? b=some o∧o.isFreed=false)→
 ∃ mid:Heap,mid.objs.size=h.objs.size∧(∀ b∈fs,mid.get? b=h2.get? b)∧∀ b,b∉fs→mid.get? b=h.get? b
 | [],_,_=>⟨h,rfl,(fun _ hb=>nomatch hb),fun _ _=>rfl⟩
 | b::fs,h1,h2'=>by
  obtain⟨m,e1,e2,e3⟩:=M4 fs (fun c hc=>h1 c (List.mem_cons_of_mem _ hc)) (fun c hc=>h2' c (List.mem_cons_of_mem _ hc))
  obtain⟨o,ho,hf⟩:=h2' b (by simp)
  obtain⟨o1,ho1⟩:∃ o1,m.get? b=some o1:=by
   by_cases c:b∈fs
   ·exact⟨o,(e2 b c).trans ho⟩
   ·obtain⟨o1,q⟩:=h1 b (by simp)
    exact⟨o1,(e3 b c).trans q⟩
  have hb:(m.update b fun _=>o).get? b=some o:=Heap.get?_update_self (fun _=>o) ho1 hf
  refine⟨m.update b fun _=>o,(Heap.size_update ..).trans e1,fun c hc=>?_,fun c hc=>?_⟩
  ·by_cases e:c=b
   ·subst e;exact hb.trans ho.symm
   ·rw[Heap.get?_update_ne _ _ _ _ e]
    rcases List.mem_cons.mp hc with z | z
    ·exact absurd z e
    ·exact e2 c z
  ·have e:c≠b:=fun z=>hc (by simp[z])
   rw[Heap.get?_update_ne _ _ _ _ e]
   exact e3 c fun z=>hc (List.mem_cons_of_mem _ z)
section
variable {X:Cx}{pins:List (Addr×Obj)}{σ:St}{H:Hp}{s:Shared}{h':Heap}
theorem AZ.turnedL {t':Nat}{fs:List Addr}(I:AZ X pins σ H s)(k:∀ b o,b∉fs→s.heap.get? b=some o→h'.get? b=some o)(ok:∀ b∈fs,EL X pins H b):AZ X pins σ H { s with heap:=h',toks:=t' }:=by
 have nit:∀ b u,H b=some u→b∉fs:=fun b u e z=>by rw[(ok b z).1]at e;cases e
 refine I.step (g':=s.gens) (d':=s.drawn) (ch:=fs) (fun b hb=>?_) (fun b o _ _ hc e _=>k b o hc e) (fun b o _ _ hc e _=>⟨o.slots,k b o hc e⟩) (fun _ _ _ _ n=>n)
  (fun b o hc e=>⟨o,k b o hc e⟩) (fun _ _ e=>e) (fun _ _ _ e=>e) (fun b ps e=>⟨#[],by rw[e];simp⟩) (fun m hm=>?_) (fun b u e=>?_) I.bare
 ·obtain⟨f0,f1,f2,f3,f4,f5⟩:=ok b hb
  exact⟨f3,f1,f4,f5⟩
 ·obtain⟨o,es,ep,ho,r⟩:=hm
  exact⟨o,es,ep,k _ o (fun z=>(ok _ z).2.1 rfl) ho,r⟩
 ·refine(I.hok b u e).stay (fun c v hc q=>k c v ?_ q) (fun _ q=>q) fun _ _ q=>q
  rcases hc with z | z
  ·rw[z];exact nit b u e
  ·exact nit c _ z
end
def OE (K:PySem.W.Frag)(t l:Addr):It:=
 ⟨fun i H=>∃ xs ys x y,Am K H t xs∧Aq K H l ys∧xs[i]?=some x∧ys[i]?=some y,
  fun i H v H'=>∃ x y b,(∀ xs,Am K H t xs→xs[i]?=some x)∧(∀ ys,Aq K H l ys→ys[i]?=some y)∧H b=none∧v=.ref b∧H'=upd H b (.tup [x,y]),
  fun i H=>∃ xs ys,Am K H t xs∧Aq K H l ys∧(xs.length≤i∨ys.length≤i)⟩
theorem Kb {P:Program}{w:World}{K:PySem.W.Frag}{els:List Expr}{x1}{pt:Pos}(t l z TI TO i1 i2:Addr)(D:ZipApart z TI TO i1 i2 t l):
 IA P w K (.Tuple els x1 pt) (OE K t l) [z,TI,TO,i1,i2] z (fun i h=>IsZip h z TI TO .none∧IsPair h TI (.ref i1) (.ref i2)∧(∃ a b,IsPair h TO a b)∧h.IsTupleIter i1 t i∧h.IsListIter i2 l i) where
 mem:=by simp
 obj:=fun i h st b hb=>by
  obtain⟨h1,h2,⟨_,_,h3⟩,⟨o4,h4,_,d4⟩,⟨o5,h5,_,d5⟩⟩:=st
  have hb':b=z∨b=TI∨b=TO∨b=i1∨b=i2:=by simpa using hb
  rcases hb' with rfl | rfl | rfl | rfl | rfl
  ·exact⟨_,h1,fun v z=>by cases z⟩
  ·exact⟨_,h2,fun v z=>by cases z⟩
  ·exact⟨_,h3,fun v z=>by cases z⟩
  ·exact⟨_,h4,fun v z=>by rw[d4]at z;cases z⟩
  ·exact⟨_,h5,fun v z=>by rw[d5]at z;cases z⟩
 keep:=fun i h h' st k=>by
  obtain⟨h1,h2,⟨a,b,h3⟩,h4,h5⟩:=st
  exact⟨k z (by simp) _ h1,k TI (by simp) _ h2,⟨a,b,k TO (by simp) _ h3⟩,h4.at fun o q=>k i1 (by simp) o q,h5.at fun o q=>k i2 (by simp) o q⟩
 item:=by
  intro X hP hw hK hc i pins s σ H E I hf st hg
  subst hP hw hK
  obtain⟨xs,ys,x,y,hqx,hqy,hx,hy⟩:=hg
  obtain⟨hz,hTI,⟨a,b,hTO⟩,h1,h2⟩:=st
  obtain⟨its,rv,p,_⟩:=I.tuple hqx
  obtain⟨its2,rv2,p2,_⟩:=I.list hqy
  obtain⟨u,hu,ru⟩:=rv.get hx
  obtain⟨v,hv,rv'⟩:=rv2.get hy
  refine Gg D hz hTI hTO h1 h2 (show s.heap.IsTuple t its.toArray from p) p2.isList (x:=u) (y:=v) (by simpa using hu) (by simpa using hv) fun h1' hz1 hTO1 hi1 hi2 hT1 hsz1 hk1=>⟨_,rfl,?_⟩
  refine wpAny_letOwnedTupleGo_zip (s:={ s with heap:=h1' }) hz1 fun h2' hz2 hs2=>?_
  replace hs2:Heap.SameBut z h1' h2':=hs2
  have zH:z<s.heap.objs.size:=Heap.lt_size hz
  have TOH:TO<s.heap.objs.size:=Heap.lt_size hTO
  have TIH:TI<s.heap.objs.size:=Heap.lt_size hTI
  have i1H:i1<s.heap.objs.size:=by obtain⟨_,q,_⟩:=id h1;exact Heap.lt_size q
  have i2H:i2<s.heap.objs.size:=by obtain⟨_,q,_⟩:=id h2;exact Heap.lt_size q
  have hTI2:IsPair h2' TI (.ref i1) (.ref i2):=hs2.extBut _ _ D.TIz (hk1 _ _ D.TIz D.TITO D.TIi1 D.TIi2 hTI)
  have hTO2:IsPair h2' TO u v:=hs2.extBut _ _ D.TOz hTO1
  have hi12:h2'.IsTupleIter i1 t (i+1):=hi1.extBut hs2.extBut D.i1z
  have hi22:h2'.IsListIter i2 l (i+1):=hi2.extBut hs2.extBut D.i2z
  have hT2:IsPair h2' s.heap.objs.size u v:=hs2.extBut _ _ (Nat.ne_of_gt zH) hT1
  obtain⟨o1,ho1,_,hd1⟩:=id hi12
  obtain⟨o2,ho2,_,hd2⟩:=id hi22
  obtain⟨mid,hm1,hm2,hm3⟩:=M4 (h:=s.heap) (h2:=h2') [z,TI,TO,i1,i2] (fun b hb=>by
   have hb':b=z∨b=TI∨b=TO∨b=i1∨b=i2:=by simpa using hb
   rcases hb' with rfl | rfl | rfl | rfl | rfl
   ·exact⟨_,hz⟩
   ·exact⟨_,hTI⟩
   ·exact⟨_,hTO⟩
   ·obtain⟨o,q,_⟩:=id h1;exact⟨o,q⟩
   ·obtain⟨o,q,_⟩:=id h2;exact⟨o,q⟩) (fun b hb=>by
   have hb':b=z∨b=TI∨b=TO∨b=i1∨b=i2:=by simpa using hb
   rcases hb' with rfl | rfl | rfl | rfl | rfl
   ·exact⟨_,hz2,rfl⟩
   ·exact⟨_,hTI2,rfl⟩
   ·exact⟨_,hTO2,rfl⟩
   ·exact⟨_,ho1,Obj.isFreed_of_fields hd1⟩
   ·exact⟨_,ho2,Obj.isFreed_of_fields hd2⟩)
  have I1:AZ X pins σ H { s with heap:=mid }:=I.turnedL (t':=s.toks) (fs:=[z,TI,TO,i1,i2]) (fun b o hb q=>(hm3 b hb).trans q) hf
  have k2:∀ b o,mid.get? b=some o→h2'.get? b=some o:=fun b o q=>by
   by_cases c:b∈[z,TI,TO,i1,i2]
   ·exact(hm2 b c).symm.trans q
   ·rw[hm3 b c]at q
    have c':b≠z∧b≠TI∧b≠TO∧b≠i1∧b≠i2:=by simpa using c
    exact hs2.extBut _ _ c'.1 (hk1 _ _ c'.1 c'.2.2.1 c'.2.2.2.1 c'.2.2.2.2 q)
  have fz:mid.objs.size≤s.heap.objs.size:=by rw[hm1];exact Nat.le_refl _
  have I3:AZ X pins σ (upd H s.heap.objs.size (.tup [x,y])) { s with heap:=h2' }:=
   I1.laid (t':=s.toks) k2 fz (show A7 X.prog X.w _ h2' _ (.tup [x,y])from⟨by show 2≤sizeLine;rw[sizeLine_eq];decide,[u,v],.cons ru (.cons rv' .nil),⟨_,hT2,rfl,_,rfl⟩⟩)
  refine⟨.ref s.heap.objs.size,_,I3,rfl,⟨x,y,s.heap.objs.size,(fun zs hz=>by rw[I.tuple_inj hz hqx];exact hx),(fun zs hz=>by rw[I.list_inj hz hqy];exact hy),I.hok.fresh (Nat.le_refl _),rfl,rfl⟩,⟨hz2,hTI2,⟨_,_,hTO2⟩,hi12,hi22⟩,fun b hb=>?_⟩
  have lt:b<s.heap.objs.size:=by
   have hb':b=z∨b=TI∨b=TO∨b=i1∨b=i2:=by simpa using hb
   rcases hb' with rfl | rfl | rfl | rfl | rfl <;> assumption
  rw[AT (Nat.ne_of_lt lt)]
  exact(hf b hb).1
 done:=by
  intro X hP hw hK hc i pins s σ H E I hf st hg
  subst hP hw hK
  obtain⟨xs,ys,hqx,hqy,hx⟩:=hg
  obtain⟨hz,hTI,⟨a,b,hTO⟩,h1,h2⟩:=st
  obtain⟨its,rv,p,_⟩:=I.tuple hqx
  obtain⟨its2,rv2,p2,_⟩:=I.list hqy
  have l1:=rv.length
  have l2:=rv2.length
  refine HW (I.ok.hd hc) D hz hTI hTO h1 h2 (show s.heap.IsTuple t its.toArray from p) p2.isList (hx.imp (fun q=>by simp;omega) (fun q=>by simp;omega)) fun h' hk=>⟨rfl,?_⟩
  refine I.turnedL (t':=s.toks) (fs:=[z,TI,TO,i1,i2]) (fun b o hb q=>?_) hf
  have c':b≠z∧b≠TI∧b≠TO∧b≠i1∧b≠i2:=by simpa using hb
  exact hk _ _ c'.1 c'.2.2.1 c'.2.2.2.1 c'.2.2.2.2 q
 self:=fun _ _ _ _ _ st h=>wpAny_pyIter_zip st.1 h
section
variable {X:Cx}
def Qa (K:PySem.W.Frag)(ta:TA):TI:=fun σ H R=>ta σ H fun vs H1=>∃ t l,vs=[V.ref t,V.ref l]∧(∃ xs,Am K H1 t xs)∧(∃ ys,Aq K H1 l ys)∧R (OE K t l) H1
theorem M5 {a c:Expr}{ta:TA}{p pos pt:Pos}{els:List Expr}{x1}(hg:Gl X "zip")(hm:X.mg "zip"=none)(hv:bootBuiltins "zip"=some (.type "zip"))(ha:PA X [a,c] ta)(hs:starEach [a,c] X.env=(false,eval a X.env)::starEach [c] X.env:=by rfl)(hs2:(backTo pos (starEach [c] X.env)).any (·.1)=false:=by rfl):
 PI X (.Tuple els x1 pt) (.Call (.Name "zip" p) [a,c] [] pos) (Qa X.K ta):=by
 intro pins s σ H R I h
 refine Call_ (DA I hg hm hv (PyProof.Rows.callWith_type1 (BJ (ha pos pins s σ H _ I h) fun us s1 zq=>?_) hs hs2))
 obtain⟨vs,H1,I1,r1,q1⟩:=zq
 obtain⟨t,l,e,⟨xs,hqx⟩,⟨ys,hqy⟩,q⟩:=q1
 subst e
 obtain⟨u,v,rfl,ru,rv⟩:=Ag.two r1
 cases ru
 cases rv
 obtain⟨its,rv,pt',_⟩:=I1.tuple hqx
 obtain⟨its2,rv2,pl,_⟩:=I1.list hqy
 have tl:t<s1.heap.objs.size:=by obtain⟨o,q,_⟩:=(show s1.heap.IsTuple t its.toArray from pt');exact Heap.lt_size q
 have ll:l<s1.heap.objs.size:=by obtain⟨o,q,_⟩:=pl.isList;exact Heap.lt_size q
 refine Js (show s1.heap.IsTuple t its.toArray from pt') pl.isList fun h' hz hTI hTO hi1 hi2 hsz kp=>wpAny_pyIter_zip (s:={ s1 with heap:=h' }) hz ?_
 have I2:AZ X pins σ H1 { s1 with heap:=h' }:=I1.kept (t':=s1.toks) kp
 generalize hn:s1.heap.objs.size=n at *
 have ge:∀ b∈[n+4,n+2,n+3,n,n+1],n≤b:=fun b hb=>by
  have hb':b=n+4∨b=n+2∨b=n+3∨b=n∨b=n+1:=by simpa using hb
  rcases hb' with rfl | rfl | rfl | rfl | rfl
  ·exact Nat.le_add_right _ _
  ·exact Nat.le_add_right _ _
  ·exact Nat.le_add_right _ _
  ·exact Nat.le_refl _
  ·exact Nat.le_add_right _ _
 have D:ZipApart (n+4) (n+2) (n+3) n (n+1) t l:=by
  have a1:t<n+4:=Nat.lt_of_lt_of_le tl (Nat.le_add_right _ _)
  have a2:l<n+4:=Nat.lt_of_lt_of_le ll (Nat.le_add_right _ _)
  have b1:t<n+3:=Nat.lt_of_lt_of_le tl (Nat.le_add_right _ _)
  have b2:l<n+3:=Nat.lt_of_lt_of_le ll (Nat.le_add_right _ _)
  have c1:t<n+1:=Nat.lt_of_lt_of_le tl (Nat.le_add_right _ _)
  have c2:l<n+1:=Nat.lt_of_lt_of_le ll (Nat.le_add_right _ _)
  have nn:∀{i j:Nat},i≠j→(n+i:Nat)≠n+j:=fun h z=>h (Nat.add_left_cancel z)
  exact⟨nn (by decide),nn (by decide),nn (i:=0) (by decide),nn (by decide),nn (by decide),nn (j:=0) (by decide),nn (by decide),nn (j:=0) (by decide),nn (by decide),nn (i:=0) (by decide),
   Nat.ne_of_lt a1,Nat.ne_of_lt b1,Nat.ne_of_lt tl,Nat.ne_of_lt c1,Nat.ne_of_lt a2,Nat.ne_of_lt b2,Nat.ne_of_lt ll,Nat.ne_of_lt c2⟩
 exact⟨n+4,_,_,_,H1,rfl,I2,Kb t l _ _ _ _ _ D,⟨hz,hTI,⟨_,_,hTO⟩,hi1,hi2⟩,fun b hb=>I1.fpOk (by rw[hn];exact ge b hb) (I1.hok.fresh (by rw[hn];exact ge b hb)),q⟩
theorem JO {K:PySem.W.Frag}{t l:Addr}{xs ys:List V}{g:TG}{tb:TS}{D:F6}{σ:St}{H:Hp}(Pv:Nat→St→Hp→Prop)(hxy:xs.length=ys.length)(h0:Pv 0 σ H)(hl:∀ i σ H,i≤xs.length→Pv i σ H→Am K H t xs∧Aq K H l ys)
 (hs:∀ i x y σ H b,xs[i]?=some x→ys[i]?=some y→Pv i σ H→H b=none→g (.ref b) σ (upd H b (.tup [x,y])) fun σ2 H2=>tb { D with nx:=Pv (i+1),ct:=Pv (i+1),bk:=D.nx } σ2 H2) (hd:∀ σ H,Pv xs.length σ H→D.nx σ H):
 ∃ W:Nat→Nat→St→Hp→Prop,(∃ m,W 0 m σ H)∧∀ i m σ H,W i m σ H→
  ((OE K t l).stop i H∧D.nx σ H)∨((OE K t l).go i H∧∃ N:St→Hp→Prop,(∀ σ' H',N σ' H'→∃ m',m'<m∧W (i+1) m' σ' H')∧∀ x H',(OE K t l).yld i H x H'→g x σ H' fun σ2 H2=>tb { D with nx:=N,ct:=N,bk:=D.nx } σ2 H2):=by
 refine⟨fun i m σ H=>m=xs.length-i∧i≤xs.length∧Pv i σ H,⟨xs.length,by simp,Nat.zero_le _,h0⟩,?_⟩
 rintro i m σ H ⟨rfl,hi,p⟩
 obtain⟨qx,qy⟩:=hl i σ H hi p
 by_cases hlt:i<xs.length
 ·have hlt2:i<ys.length:=by omega
  refine .inr ⟨⟨xs,ys,xs[i],ys[i],qx,qy,by simp[hlt],by simp[hlt2]⟩,Pv (i+1),fun σ' H' p'=>⟨xs.length-(i+1),by omega,rfl,hlt,p'⟩,fun v H' y=>?_⟩
  obtain⟨x0,y0,b,y1,y2,hb,rfl,rfl⟩:=y
  exact hs i x0 y0 σ H b (y1 xs qx) (y2 ys qy) p hb
 ·have e:i=xs.length:=by omega
  subst e
  exact .inl ⟨⟨xs,ys,qx,qy,.inl (Nat.le_refl _)⟩,hd σ H p⟩
end
section
variable {X:Cx}
end
inductive IX (H:Hp):Nat→V→V→Prop where
 | fl {n:Nat} {x:V} (h:Au x=true):IX H n x x
 | rf {n:Nat} {a:Addr}:IX H n (.ref a) (.ref a)
 | tp {n:Nat} {a b:Addr} {xs ys:List V} (h1:H a=some (.tup xs)) (h2:H b=some (.tup ys)) (hl:xs.length=ys.length)
  (hh:∀(j:Nat) (u v:V),xs[j]?=some u→ys[j]?=some v→IX H n u v):IX H (n+1) (.ref a) (.ref b)
theorem Kc {x:V}(h:Au x=true):IP x x=true:=by
 cases x <;> first | rfl | exact absurd (show false=true from h) Bool.false_ne_true | simp[IP]
section
variable {X:Cx}{pins:List (Addr×Obj)}{σ:St}{H:Hp}{s:Shared}
theorem Jt {n:Nat}:(List.range n).all (fun _=>true)=true:=by simp
theorem Ke (I:AZ X pins σ H s){n:Nat}{A:Around}{xs ys:List V}{us vs:List Value}(r1:Ag xs us)(r2:Ag ys vs)
 (ih:∀(j:Nat) (u v:V),xs[j]?=some u→ys[j]?=some v→∀ u' v',Aj u u'→Aj v v'→SeqAt.EqAt A s u' v' true):
 ∀ j (h1:j<us.toArray.size) (h2:j<vs.toArray.size),SeqAt.EqAt A s us.toArray[j] vs.toArray[j] ((fun _=>true) j):=by
 intro j h1 h2
 have l1:=r1.length
 have l2:=r2.length
 rw[List.size_toArray]at h1 h2
 have ex:xs[j]?=some (xs[j]'(by omega)):=List.getElem?_eq_getElem _
 have ey:ys[j]?=some (ys[j]'(by omega)):=List.getElem?_eq_getElem _
 obtain⟨u,hu',ru⟩:=r1.get ex
 obtain⟨v,hv',rv⟩:=r2.get ey
 have eu:us.toArray[j]'(by simpa using h1)=u:=by
  rw[List.getElem?_eq_getElem h1]at hu'
  simpa using Option.some.inj hu'
 have ev:vs.toArray[j]'(by simpa using h2)=v:=by
  rw[List.getElem?_eq_getElem h2]at hv'
  simpa using Option.some.inj hv'
 rw[eu,ev]
 exact ih j _ _ ex ey u v ru rv
theorem IX.at (I:AZ X pins σ H s){n:Nat}{x y:V}(h:IX H n x y):∀{A:Around} {u v:Value},A.units+n<cLine→Aj x u→Aj y v→SeqAt.EqAt A s u v true:=by
 induction h with
 | fl hf=>
  intro A u v _ rx ry
  have:=KL (A:=A) (s:=s) rx ry hf hf
  rw[Kc hf]at this
  exact this
 | rf=>
  intro A u v _ rx ry
  cases rx
  cases ry
  exact SeqAt.EqAt.same _
 | @tp n a b xs ys h1 h2 hl hh ih=>
  intro A u v hu rx ry
  cases rx
  cases ry
  by_cases e:a=b
  ·subst e;exact SeqAt.EqAt.same _
  obtain⟨its,r1,p,_⟩:=I.tuple (Am.of h1)
  obtain⟨its2,r2,p2,_⟩:=I.tuple (Am.of h2)
  have rc:=SeqAt.RcAt.tuples (A:=A) (s:=s) (e:=fun _=>true) (show s.heap.IsTuple a its.toArray from p) (show s.heap.IsTuple b its2.toArray from p2) (by omega)
   (Ke I (n:=n) r1 r2 fun j u v e1 e2 u' v' ru rv=>ih j u v e1 e2 (A:=A.in1) (show A.units+1+n<cLine by omega) ru rv)
  rw[List.size_toArray,List.size_toArray,← r1.length,← r2.length,Jt,hl]at rc
  exact SeqAt.EqAt.of_refs e (by simpa using rc)
end
section
variable {prog:Program}{w:World}{A:Around}{E:Value→Shared→Prop}{s:Shared}
end
section
variable {prog:Program}{w:World}{A:Around}{E:Value→Shared→Prop}{s:Shared}
end
section
variable {X:Cx}
def RW (K:PySem.W.Frag)(te:TE):TE:=fun σ H Q=>te σ H fun x H1=>∃ a xs,x=.ref a∧Aq K H1 a xs∧∀ l,H1 l=none→Q (.ref l) (upd H1 l (.lst xs.reverse))
end
def BM (mg:Str→Option Value)(base:Heap):Prop:=
 ∃ bm o,mg "__builtins__"=some (.ref bm)∧(bm≠builtinsNs∧bm≠mainGlobals)∧base.get? bm=some o∧o.cls=.type "module"∧o.dict=some builtinsNs∧o.data=.plain
theorem BM.keep {mg:Str→Option Value}{h h':Heap}(B:BM mg h)(k:∀ b o,h.get? b=some o→h'.get? b=some o):BM mg h':=by
 obtain⟨bm,o,a,n,e,r⟩:=B
 exact⟨bm,o,a,n,k _ _ e,r⟩
def GR (H:Hp)(q:Str)(c:Addr):Prop:=∃ o vs t,H c=some (.frz o (.own 0))∧o.data=.fields vs∧vs[1]?=some (.str q t)
def DO (H:Hp)(P:Addr)(q:Str):Prop:=∃ ps,H P=some (.tbl ps)∧TriplesOk ps.toList∧∀ pos cv,codeAmong pos ps.toList=some cv→∃ c,cv=.ref c∧GR H q c
theorem GR.keep {H H':Hp}{q:Str}{c:Addr}(x:GR H q c)(h:∀ b o,H b=some (.frz o (.own 0))→H' b=some (.frz o (.own 0))):GR H' q c:=by
 obtain⟨o,vs,t,e,r⟩:=x
 exact⟨o,vs,t,h _ _ e,r⟩
theorem DO.sm {H H':Hp}{P:Addr}{q:Str}(x:DO H P q)(h:AG H H'):DO H' P q:=by
 obtain⟨ps,e,t,k⟩:=x
 refine⟨ps,h _ _ e,t,fun pos cv z=>?_⟩
 obtain⟨c,e1,e2⟩:=k pos cv z
 exact⟨c,e1,e2.keep fun b o=>h b _⟩
theorem DO.nil {H:Hp}{P:Addr}{q:Str}(h:H P=some (.tbl #[])):DO H P q:=⟨#[],h,trivial,fun _ _ z=>by cases z⟩
theorem Gh {a b:Int}{ta tb:Tok}{c:Value}:∀ l:List Value,TriplesOk l→TriplesOk (l++[.int a ta,.int b tb,c]):=fun l=>by
 fun_induction TriplesOk l with
 | case1=>intro _;exact trivial
 | case2 a t b u x Eb ih=>intro h;exact ih h
 | case3=>intro h;exact h.elim
theorem IY {p:Pos}{a b:Int}{ta tb:Tok}{c cv:Value}:∀ l:List Value,TriplesOk l→codeAmong p (l++[.int a ta,.int b tb,c])=some cv→codeAmong p l=some cv∨cv=c:=fun l=>by
 fun_induction TriplesOk l with
 | case1=>
  intro _ h
  simp only[List.nil_append,codeAmong]at h
  split at h
  ·cases h;exact .inr rfl
  ·cases h
 | case2 a t b u x Eb ih=>
  intro ht h
  simp only[List.cons_append,codeAmong]at h ⊢
  split at h
  ·rename_i hc;rw[if_pos hc];exact .inl h
  ·rename_i hc;rw[if_neg hc];exact ih ht h
 | case3=>intro h;exact h.elim
def OF (H:Hp)(q:Str)(f:Addr)(params:Arguments)(body:Expr)(scope:Scope)(cl:List (Str×Addr))(pm:Value):Prop:=
 ∃ c ctv,H f=some (.frz (PySem.W.kla_obj "<lambda>" q params body scope cl pm c ctv) (.own 0))∧GR H q c
def Qb (P:Addr)(q:Str)(params:Arguments)(body:Expr)(scope:Scope)(cl:List (Str×Addr))(pm:Value):TE:=fun _ H Q=>DO H P q∧
 ∀ f H',H f=none→(∀ b o,b≠P→H b=some o→H' b=some o)→DO H' P q→OF H' q f params body scope cl pm→Q (.ref f) H'
section
variable {X:Cx}{pins:List (Addr×Obj)}{σ:St}{H:Hp}{s:Shared}
theorem Kf {P f c:Addr}{h1:Heap}{o oc:Obj}{ps:Array Value}{i j:Int}{ta tb:Tok}{tk:Nat}(I:AZ X pins σ H s)(hP:H P=some (.tbl ps))
 (hx:Heap.ExtBut P s.heap h1) (hge:s.heap.objs.size≤c) (hlt:c<h1.objs.size) (hf:f=h1.objs.size) (hc:h1.get? c=some oc) (htb:h1.get? P=some (PySem.W.tabObj (ps++#[.int i ta,.int j tb,.ref c])))
 (hof:o.isFreed=false):
 AZ X pins σ (upd (upd (upd H P (.tbl (ps++#[.int i ta,.int j tb,.ref c]))) c (.frz oc (.own 0))) f (.frz o (.own 0))) { s with heap:=h1.push o,toks:=tk }:=by
 subst hf
 have Plt:P<s.heap.objs.size:=I.hok.lt hP
 have hcP:c≠P:=fun z=>by rw[z]at hge;exact absurd Plt (Nat.not_lt.mpr hge)
 have hfP:h1.objs.size≠P:=fun z=>by rw[← z]at Plt;exact absurd (Nat.lt_trans Plt (Nat.lt_of_le_of_lt hge hlt)) (Nat.lt_irrefl _)
 have hfc:h1.objs.size≠c:=(Nat.ne_of_lt hlt).symm
 have other:∀ b,b<s.heap.objs.size→b≠P→(upd (upd (upd H P (.tbl (ps++#[.int i ta,.int j tb,.ref c]))) c (.frz oc (.own 0))) h1.objs.size (.frz o (.own 0))) b=H b:=fun b hb hne=>by
  rw[AT (Nat.ne_of_lt (Nat.lt_trans (Nat.lt_of_lt_of_le hb hge) hlt)),AT (Nat.ne_of_lt (Nat.lt_of_lt_of_le hb hge)),AT hne]
 have keep:∀ b u,b≠P→s.heap.get? b=some u→(h1.push o).get? b=some u:=fun b u hb e=>Heap.get?_push_of_some _ (hx b u hb e)
 have atP:(h1.push o).get? P=some (PySem.W.tabObj (ps++#[.int i ta,.int j tb,.ref c])):=Heap.get?_push_of_some _ htb
 have hPv:(upd (upd (upd H P (.tbl (ps++#[.int i ta,.int j tb,.ref c]))) c (.frz oc (.own 0))) h1.objs.size (.frz o (.own 0))) P=some (.tbl (ps++#[.int i ta,.int j tb,.ref c])):=by
  rw[AT hfP.symm,AT hcP.symm,AB]
 have nP:∀ b,H b=none→b≠P:=fun b n z=>by rw[z,hP]at n;cases n
 refine I.un (t':=tk) ⟨fun b u e n _ _=>keep b u (nP b n) e,fun b u e n _ _=>⟨u.slots,keep b u (nP b n) e⟩,fun b u e n _=>?_,fun b u e _=>?_,fun b xs e=>?_,fun b u xs e=>?_,fun b qs e=>?_⟩ fun b u e=>?_
 ·rw[other b (Heap.lt_size e) (nP b n)];exact n
 ·by_cases hb:b=P
  ·subst hb;exact⟨_,atP⟩
  ·exact⟨u,keep b u hb e⟩
 ·rw[other b (I.hok.lt e) fun z=>by rw[z,hP]at e;cases e];exact e
 ·rw[other b (I.hok.lt e) fun z=>by rw[z,hP]at e;cases e];exact e
 ·by_cases hb:b=P
  ·subst hb
   rw[hP]at e;cases e
   exact⟨_,hPv⟩
  ·exact⟨#[],by rw[other b (I.hok.lt e) hb,e];simp⟩
 ·by_cases hbf:b=h1.objs.size
  ·subst hbf
   rw[AB]at e;cases e
   exact⟨Heap.get?_push_size _ hof,_,Heap.get?_push_size _ hof⟩
  ·by_cases hbc:b=c
   ·subst hbc
    rw[AT hbf,AB]at e;cases e
    exact⟨Heap.get?_push_of_some _ hc,_,Heap.get?_push_of_some _ hc⟩
   ·by_cases hbP:b=P
    ·subst hbP
     rw[hPv]at e;cases e
     exact atP
    ·rw[AT hbf,AT hbc,AT hbP]at e
     refine(I.hok b u e).stay (fun d v hd q=>keep d v ?_ q) (fun d z=>?_) fun d xs z=>?_
     ·rcases hd with z | z
      ·rw[z];exact hbP
      ·intro y;rw[y,hP]at z;cases z
     ·rw[other d (I.hok.lt z) fun y=>by rw[y,hP]at z;cases z];exact z
     ·rw[other d (I.hok.lt z) fun y=>by rw[y,hP]at z;cases z];exact z
theorem M6 {params:Arguments}{body:Expr}{scope:Scope}{pos:Pos}{c P:Addr}{clos:List (Str×Addr)}(hdef:defaultsOf params X.env=([],[]))(hcl:closureFor scope X.env=pure clos)(hcode:X.env.code=.ref c)
 (C:PySem.W.CodeHd X.base c P) (B:BM X.mg X.base):PE X (.Lambda params body scope pos) (Qb P (X.env.qual++"<lambda>") params body scope clos ((X.mg "__name__").getD .none)):=by
 intro pins s σ H Q I h
 obtain⟨⟨ps,hP,ht,hall⟩,hq⟩:=h
 obtain⟨bm,ob,b1,⟨b2,b3⟩,b4,b5,b6,b7⟩:=B
 have hPh:s.heap.get? P=some (PySem.W.tabObj ps):=I.hok P _ hP
 have hgs:=I.mod.glob.keeps I.bk
 have hgP:mainGlobals≠P:=fun q=>by
  obtain⟨o,es,ep,e,hd,_⟩:=hgs
  rw[q,hPh]at e;cases e;cases hd
 have hbP:bm≠P:=fun q=>by
  have e:=I.bk _ _ b4
  rw[q,hPh]at e;cases e;cases b5
 have hb:s.heap.BuiltinsAt X.mg P:=⟨bm,ob,b1,b2,b3,hbP,I.bk _ _ b4,b5,b6,b7⟩
 refine PySem.W.kla_eval hdef ?_
 cases hf:codeAmong pos ps.toList with
 | none=>
  refine PySem.W.kla_makeFunction (mg:=X.mg) hcl I.ok.glob hgs hcode (C.keeps I.bk) hPh ht hf hgP hb fun c' ctv h' tk hx hge hlt hrec htb=>?_
  obtain⟨c₂,oc,vs,t,e2,hoc,hd,hv⟩:=hrec
  cases e2
  have Plt:P<s.heap.objs.size:=I.hok.lt hP
  have ltf:s.heap.objs.size<h'.objs.size:=Nat.lt_of_le_of_lt hge hlt
  have fnew:H h'.objs.size=none:=I.hok.fresh (Nat.le_of_lt ltf)
  have cnew:H c'=none:=I.hok.fresh hge
  have hcP:c'≠P:=fun z=>by rw[z]at hge;exact absurd Plt (Nat.not_lt.mpr hge)
  have hfP:h'.objs.size≠P:=fun z=>by rw[← z]at Plt;exact absurd (Nat.lt_trans Plt ltf) (Nat.lt_irrefl _)
  have I2:=Kf (tk:=tk) (o:=PySem.W.kla_obj "<lambda>" (X.env.qual++"<lambda>") params body scope clos ((X.mg "__name__").getD .none) c' ctv) I hP hx hge hlt rfl hoc htb rfl
  have hfc:c'≠h'.objs.size:=Nat.ne_of_lt hlt
  refine⟨.ref h'.objs.size,_,I2,rfl,hq _ _ fnew (fun b o hb e=>?_) ⟨ps++#[rawInt pos.line,rawInt pos.col,.ref c'],?_,?_,fun p cv z=>?_⟩ ⟨c',ctv,AB,oc,vs,t,?_,hd,hv⟩⟩
  ·rw[AT (AX e fnew),AT (AX e cnew),AT hb];exact e
  ·rw[AT hfP.symm,AT hcP.symm,AB];rfl
  ·rw[Array.toList_append];exact Gh _ ht
  ·rw[Array.toList_append]at z
   rcases IY _ ht z with z | z
   ·obtain⟨d,e1,o,vs',t',e3,r⟩:=hall p cv z
    have ndP:d≠P:=fun y=>by rw[y,hP]at e3;cases e3
    exact⟨d,e1,o,vs',t',by rw[AT (AX e3 fnew),AT (AX e3 cnew),AT ndP];exact e3,r⟩
   ·exact⟨c',z,oc,vs,t,by rw[AT hfc,AB],hd,hv⟩
  ·rw[AT hfc,AB]
 | some cv=>
  obtain⟨c',rfl,o,vs,t,ec,r⟩:=hall pos cv hf
  refine PySem.W.kla_makeFunctionHit (mg:=X.mg) hcl I.ok.glob hgs hcode (C.keeps I.bk) hPh ht hf hb fun ctv h' tk hk hsz=>?_
  have fnew:H h'.objs.size=none:=I.hok.fresh hsz
  have k2:∀ b u,s.heap.get? b=some u→(h'.push (PySem.W.kla_obj "<lambda>" (X.env.qual++"<lambda>") params body scope clos ((X.mg "__name__").getD .none) c' ctv)).get? b=some u:=fun b u e=>Heap.get?_push_of_some _ (hk b u e)
  have sm:AG H (upd H h'.objs.size (.frz (PySem.W.kla_obj "<lambda>" (X.env.qual++"<lambda>") params body scope clos ((X.mg "__name__").getD .none) c' ctv) (.own 0))):=fun b u e=>by rw[AT (AX e fnew)];exact e
  have I2:=I.laid (t':=tk) (a:=h'.objs.size) (o:=.frz (PySem.W.kla_obj "<lambda>" (X.env.qual++"<lambda>") params body scope clos ((X.mg "__name__").getD .none) c' ctv) (.own 0)) k2 hsz ⟨Heap.get?_push_size _ rfl,_,Heap.get?_push_size _ rfl⟩
  exact⟨.ref h'.objs.size,_,I2,rfl,hq _ _ fnew (fun b o _ e=>sm b o e) (DO.sm ⟨ps,hP,ht,hall⟩ sm) ⟨c',ctv,AB,o,vs,t,sm _ _ ec,r⟩⟩
end
def Lb (q:Str)(o:Obj):Bool:=match o.data with
 | .func fd=>fd.qualname==q
 | .fields vs=>(match (vs[1]?:Option Value)with
  | some (.str z _)=>z==q
  | _=>false)
 | _=>false
def kn (q:Str):Option HO→Option Obj
 | some (.frz o (.own 0))=>if Lb q o=true then some o else none
 | _=>none
section
variable {q:Str}
theorem Lc {x:Option HO}{o:Obj}(h:kn q x=some o):x=some (.frz o (.own 0)):=by
 unfold kn at h
 split at h
 ·split at h
  ·cases h;rfl
  ·cases h
 ·cases h
theorem ML {H:Hp}{b:Addr}{o:Obj}(h:H b=some (.frz o (.own 0)))(w:Lb q o=true):kn q (H b)=some o:=by rw[h];unfold kn;exact if_pos w
theorem Kg {o:Obj}{vs:Array Value}{t:Tok}{z:Str}(d:o.data=.fields vs)(h:vs[1]?=some (.str z t)):Lb q o=(z==q):=by
 unfold Lb
 rw[d]
 dsimp only
 rw[h]
def NT (q:Str)(H:Hp):Hp:=fun b=>if(kn q (H b)).isSome=true then none else H b
def put (q:Str)(H H':Hp):Hp:=fun b=>match kn q (H b)with
 | some o=>some (.frz o (.own 0))
 | none=>H' b
theorem M7 {H:Hp}{b:Addr}{o:Obj}(h:kn q (H b)=some o):NT q H b=none:=if_pos (by rw[h];rfl)
theorem HY {H:Hp}{b:Addr}(h:H b=none):NT q H b=none:=by
 unfold NT
 split
 ·rfl
 ·exact h
end
structure EI (X:Cx)(σ:St)(q:Str)(H:Hp)(base':Heap):Prop where
 sub:∀ b o,X.base.get? b=some o→base'.get? b=some o
 sz:X.base.objs.size≤base'.objs.size
 mod:Mod X.K X.mg base'
 old:Mod X.K X.mg X.base
 new:∀ b o,kn q (H b)=some o→base'.get? b=some o
 cel:∀ x c,X.env.cells.lookup x=some c→∃ v,base'.IsCell c v
 val:∀(i:Nat) (x:Str) (v:V) (c:Addr),X.N[i]?=some x→σ[i]?=some (some v)→X.env.scope.names.lookup x=some .cell→X.env.cells.lookup x=some c→∃ u,Aj v u∧base'.IsCell c (some u)
 inj:∀ x y c,X.env.cells.lookup x=some c→X.env.cells.lookup y=some c→x=y
theorem EI.kin {X:Cx}{σ:St}{q:Str}{H:Hp}{base':Heap}(W:EI X σ q H base'):X.K.In base':=W.mod.kin
theorem EI.ns {X:Cx}{σ:St}{q:Str}{H:Hp}{base':Heap}(W:EI X σ q H base'):base'.Ns mainGlobals X.mg:=W.mod.glob
theorem HZ {h base base':Heap}(sub:∀ b o,base.get? b=some o→base'.get? b=some o):∀{l:List Env},h.FunFrames base' l→h.FunFrames base l
 | [],_=>trivial
 | _::_,⟨a,⟨L,o,f,n,e,d⟩,r⟩=>⟨a,⟨L,o,f,(by
  cases q:base.get? L with
  | none=>rfl
  | some u=>rw[sub L u q]at n;cases n),e,d⟩,HZ sub r⟩
section
variable {P:Program}{w:World}{K:PySem.W.Frag}{mg:Str→Option Value}{base base':Heap}{k:Nat}{f:Addr}{fd:FuncData}{ps:List Str}{sp:Sp}
theorem Ap.wide (F:Ap P w K mg base Bj k f fd ps sp)(M:Mod K mg base)(sub:∀ b o,base.get? b=some o→base'.get? b=some o)(sz:base.objs.size≤base'.objs.size):Ap P w K mg base' Bj k f fd ps sp:=
 ⟨F.len,fun A outer s H args us vs Q E hr e hb hv hs=>F.run A outer s H args us vs Q E hr ⟨e.frames,M,fun b o z=>e.bs b o (sub b o z),Nat.le_trans sz e.bsz,HZ sub e.funs,e.frf,e.hok,e.bare⟩ hb hv hs⟩
def FV (P:Program)(w:World)(K:PySem.W.Frag)(mg:Str→Option Value)(base:Heap)(k:Nat)(f:Addr)(sp:Sp):Prop:=
 ∃ fd ps oc od sl,base.get? f=some ⟨oc,od,.func fd,sl⟩∧(∀(s:Shared) (us:List Value),K.In s.heap→us.length=ps.length→BindsTo s fd ⟨us,[]⟩ (ps.zip us))∧Ap P w K mg base Bj k f fd ps sp
theorem FV.wide (G:FV P w K mg base k f sp)(M:Mod K mg base)(sub:∀ b o,base.get? b=some o→base'.get? b=some o)(sz:base.objs.size≤base'.objs.size):FV P w K mg base' k f sp:=by
 obtain⟨fd,ps,oc,od,sl,e,b,F⟩:=G
 exact⟨fd,ps,oc,od,sl,sub _ _ e,b,F.wide M sub sz⟩
theorem FV.imp {sp':Sp}(G:FV P w K mg base k f sp)(h:∀ vs H Q E,sp' vs H Q E→sp vs H Q E):FV P w K mg base k f sp':=by
 obtain⟨fd,ps,oc,od,sl,e,b,F⟩:=G
 exact⟨fd,ps,oc,od,sl,e,b,F.imp h⟩
theorem FV.mono {j:Nat}(G:FV P w K mg base j f sp)(h:j≤k):FV P w K mg base k f sp:=by
 obtain⟨fd,ps,oc,od,sl,e,b,F⟩:=G
 exact⟨fd,ps,oc,od,sl,e,b,F.mono h⟩
theorem FV.of {x qual:Str}{st:Stmt}(F:Ap P w K mg base Bj k f fd ps sp)(u:Fun K x qual st f fd)(hb:Cu K fd ps [])(KX:K.In base):FV P w K mg base k f sp:=by
 obtain⟨oc,od,kV,doc,pm,an,cdv,ct,osl,e1,e2,e3⟩:=u.ex
 refine⟨fd,ps,oc,od,osl,KX _ _ e2,fun s us ks hl=>?_,F⟩
 have:=hb s us ks (by simpa using hl)
 simpa using this
end
theorem EI.fv {X:Cx}{σ:St}{q:Str}{H:Hp}{base':Heap}{k:Nat}{f:Addr}{sp:Sp}(W:EI X σ q H base')(G:FV X.prog X.w X.K X.mg X.base k f sp):FV X.prog X.w X.K X.mg base' k f sp:=G.wide W.old W.sub W.sz
section
variable {X:Cx}
def Qc (X:Cx)(k:Nat)(tf:TE)(t:TA):TE:=fun σ H Q=>tf σ H fun x H1=>∃ f sp,x=.ref f∧FV X.prog X.w X.K X.mg X.base k f sp∧t σ H1 fun vs H2=>sp vs H2 Q E0
end
section
variable {X:Cx}{pins:List (Addr×Obj)}{σ:St}{H:Hp}{s:Shared}{q:Str}
def OG (X:Cx)(q:Str)(H:Hp)(s:Shared):Heap:=PySem.W.hideAll (DT s.heap (NT q H)) (Fl X.stack)
theorem IZ {b:Addr}{o:Obj}(e:s.heap.get? b=some o)(n:NT q H b=none)(hb:b∉Fl X.stack):(OG X q H s).get? b=some o:=PySem.W.hideAll_get _ (Fk e n) hb
theorem Kh:(OG X q H s).objs.size=s.heap.objs.size:=(PySem.W.hideAll_size _ _).trans (Ew _ _)
theorem AZ.wider (I:AZ X pins σ H s)(hfn:∀ x,X.fn x=true):EI X σ q H (OG X q H s):=by
 have nst:∀ b,b≠X.env.locals→b∉X.fs→b∉Fl X.stack:=fun b h1 h2 z=>(List.mem_cons.mp (I.stkSub b z)).elim h1 h2
 have sub:∀ b o,X.base.get? b=some o→(OG X q H s).get? b=some o:=fun b o e=>by
  obtain⟨e1,n⟩:=I.bs b o e
  refine IZ e1 (HY n) (nst b (fun z=>?_) (I.ok.nofr e))
  have h1:=Heap.lt_size e
  rw[z]at h1
  exact absurd (Nat.lt_of_lt_of_le h1 (Nat.le_trans I.ok.bsz I.ok.above)) (Nat.lt_irrefl _)
 have cst:∀ x c,X.env.cells.lookup x=some c→c∉Fl X.stack:=fun x c e=>nst c (I.cne x c e) fun z=>by
  obtain⟨_,o,ho,_⟩:=I.ok.funs.mem z
  exact absurd (Nat.lt_of_lt_of_le (Heap.lt_size ho) (I.ok.cab x c (hfn x) e)) (Nat.lt_irrefl _)
 have cin:∀ x c v,X.env.cells.lookup x=some c→s.heap.IsCell c v→(OG X q H s).IsCell c v:=fun x c v e ⟨o,ho,hd⟩=>⟨o,IZ ho (HY (I.freeC x c e)) (cst x c e),hd⟩
 refine⟨sub,?_,⟨I.ok.mod.kin.keeps sub,I.ok.mod.glob.keeps sub,?_,I.ok.mod.nolimit.keeps sub⟩,I.ok.mod,fun b o e=>?_,fun x c e=>?_,fun i x v c e1 e2 e3 e4=>?_,I.ok.inj⟩
 ·rw[Kh];exact Nat.le_trans I.ok.bsz I.sz
 ·obtain⟨mb,h1,h2⟩:=I.ok.mod.blt
  exact⟨mb,h1.keeps sub,h2⟩
 ·have e1:=Lc e
  refine IZ (I.hok _ _ e1).1 (M7 e) fun z=>?_
  rw[I.stkFree b z]at e1;cases e1
 ·obtain⟨v,hv⟩:=I.cell x c e
  exact⟨v,cin x c v e hv⟩
 ·obtain⟨m,hn,hl⟩:=I.loc
  obtain⟨u,r,l⟩:=hl i x v e1 e2 (.inr (.inl e3))
  refine⟨u,r,?_⟩
  rcases l with⟨k,_⟩ | ⟨_,c',ec,z⟩
  ·have k':X.env.scope.names.lookup x=some .local:=k
   rw[e3]at k';cases k'
  ·rw[e4]at ec;cases ec
   exact cin x c _ e4 z
def Qd (X:Cx)(k:Nat)(f:Addr)(fd:FuncData)(ps:List Str)(t:TA):TE:=fun σ H Q=>t σ H fun vs H1=>∃(q:Str) (sp:Sp),(∀ base',EI X σ q H1 base'→Ap X.prog X.w X.K X.mg base' Bj k f fd ps sp)∧sp vs (NT q H1) (fun v H2=>(∀ b o,kn q (H1 b)=some o→H2 b=none)→Q v (put q H1 H2)) E0
end
def Ki (P:Program)(w:World)(K:PySem.W.Frag)(mg:Str→Option Value)(base:Heap)(N:List Str)(q:Str)(scope:Scope)(f:Addr)(cd:Value)(cl:List (Str×Addr))(A:Around)(outer:List Env)(s:Shared)(H:Hp):Cx where
 prog:=P
 w:=w
 K:=K
 mg:=mg
 base:=base
 A:=A.deeper (PySem.W.envX q scope s.heap.objs.size f cd cl)
 N:=N
 s₀:=s
 H₀:=H
 env:=PySem.W.envX q scope s.heap.objs.size f cd cl
 outer:=outer
 stack:=PySem.W.envX q scope s.heap.objs.size f cd cl::outer
 ex:=[]
 calm:=true
 fn:=fun _=>false
 pn:=[]
 xe:=fun _ _=>False
structure Kj (X:Cx)(scope:Scope)(cl:List (Str×Addr))(ps fv:List Str)(js:List Nat):Prop where
 kind:scope.kind=.function
 co:scope.isCoroutine=false
 gen:scope.isGenerator=false
 nc:∀ y∈scope.names,y.2≠.cell
 par:∀ y∈ps,scope.names.lookup y=some .local
 fr:∀ y∈scope.names,y.2=.free→y.1∈fv
 nd:(ps++fv).Nodup
 vis:∀ y∈fv,scope.names.lookup y=some .free∧X.env.scope.names.lookup y=some .cell∧(cl.lookup y).isSome=true
 cls:∀ p∈cl,X.env.cells.lookup p.1=some p.2
 sl:Paired (fun y j=>X.N[j]?=some y) fv js
theorem FP:∀(ps:List Str) (us:List Value),List.Sublist ((ps.zip us).map (·.1)) ps
 | [],_=>.slnil
 | _::_,[]=>List.nil_sublist _
 | p::ps,u::us=>.cons₂ p (FP ps us)
theorem Ha {x:Str}{u:Value}:∀{ps:List Str} {us:List Value} {i:Nat},ps.Nodup→ps[i]?=some x→us[i]?=some u→(ps.zip us).reverse.lookup x=some u:=fun {ps us i} nd h1 h2=>by
 have hm:(x,u)∈ps.zip us:=by
  refine List.mem_of_getElem? (i:=i) ?_
  rw[List.getElem?_zip_eq_some]
  exact⟨h1,h2⟩
 have nd2:((ps.zip us).reverse.map (·.1)).Nodup:=by
  rw[List.map_reverse]
  refine List.nodup_iff_pairwise_ne.mpr (List.pairwise_reverse.mpr (List.Pairwise.imp (fun h=>Ne.symm h) (List.nodup_iff_pairwise_ne.mp ?_)))
  exact List.Nodup.sublist (FP ps us) nd
 have go:∀ l:List (Str×Value),(l.map (·.1)).Nodup→(x,u)∈l→l.lookup x=some u:=by
  intro l
  induction l with
  | nil=>intro _ h;cases h
  | cons p r ih=>
   intro hn h
   obtain⟨y,v⟩:=p
   rw[List.map_cons,List.nodup_cons]at hn
   rcases List.mem_cons.mp h with e | e
   ·cases e;simp[List.lookup_cons]
   ·have ne:(x==y)=false:=by
     cases q:x==y with
     | false=>rfl
     | true=>exact absurd (eq_of_beq q▸List.mem_map_of_mem (f:=(·.1)) e) hn.1
    simp only[List.lookup_cons,ne]
    exact ih hn.2 e
 exact go _ nd2 (List.mem_reverse.mpr hm)
theorem EI.lam {X:Cx}{σ:St}{Hk:Hp}{base':Heap}{k:Nat}{f c:Addr}{q:Str}{params:Arguments}{body:Expr}{scope:Scope}{cl:List (Str×Addr)}{pm ctv:Value}{ps fv:List Str}{js:List Nat}{sp:Sp}(W:EI X σ q Hk base')
 (hf:Hk f=some (.frz (PySem.W.kla_obj "<lambda>" q params body scope cl pm c ctv) (.own 0))) (hc:GR Hk q c) (S:Kj X scope cl ps fv js)
 (hbind:∀ us:List Value,us.length=ps.length→bindArgs (PySem.W.kla_fn "<lambda>" q params body scope cl pm (.ref c) ctv) ⟨us,[]⟩=pure (ps.zip us)) (len:∀ vs H Q E,sp vs H Q E→vs.length=ps.length)
 (hbody:∀(A:Around) (outer:List Env) (s:Shared) (H:Hp) (vs:List V) (Q:VK) (E:XK),BQ k (A.deeper (PySem.W.envX q scope s.heap.objs.size f (.ref c) cl))→sp vs H Q E→
  ∃ te,PE (Ki X.prog X.w X.K X.mg base' (ps++fv) q scope f (.ref c) cl A outer s H) body te∧te (vs.map some++Ev js σ) H Q):FV X.prog X.w X.K X.mg base' (k+1) f sp:=by
 obtain⟨oc,vc,tc,ec,dc,qc⟩:=hc
 have bf:=W.new f _ (ML hf (show(q==q)=true from beq_self_eq_true q))
 have bc:=W.new c _ (ML ec ((Kg dc qc).trans (beq_self_eq_true q)))
 refine⟨_,ps,_,_,_,bf,fun s us _ hl=>.of_eq (hbind us hl),len,fun A outer s H args us vs Q E hr e0 hb r hsp=>?_⟩
 have hl:=len _ _ _ _ hsp
 have lim:s.heap.NoLimit:=e0.mod.nolimit.keeps fun b o e=>(e0.bs b o e).1
 have hps:us.length=ps.length:=by rw[← r.length];exact hl
 refine PySem.W.kla_callFunE hr.depth (e0.bs _ _ bf).1 rfl S.co S.gen rfl ⟨c,oc,vc,tc,rfl,(e0.bs _ _ bc).1,dc,qc⟩ (hb _ _ _ _ ?_)
 refine wpAny_newFunctionEnv S.nc (fun y hy=>S.par y.1 (List.of_mem_zip hy).1) (fun h₁ hns hsb=>⟨lim.fresh _ hsb,?_⟩) S.kind
 have hk₁:∀ b o,s.heap.get? b=some o→h₁.get? b=some o:=fun b o e=>hsb.extBut b o (Nat.ne_of_lt (Heap.lt_size e)) (Heap.get?_push_of_some _ e)
 obtain⟨te,hte,hq⟩:=hbody A outer s H vs Q E (hr.deeper _) hsp
 have cellOf:∀ y cc,cl.lookup y=some cc→X.env.cells.lookup y=some cc:=fun y cc e=>S.cls (y,cc) (PySem.mem_of_lookup e)
 have noA:∀ b:Addr,b∉(Ki X.prog X.w X.K X.mg base' (ps++fv) q scope f (.ref c) cl A outer s H).ex:=fun b z=>absurd (show b∈([]:List Addr)from z) (by simp)
 have I:AZ (Ki X.prog X.w X.K X.mg base' (ps++fv) q scope f (.ref c) cl A outer s H) [] (vs.map some++Ev js σ) H { s with heap:=h₁,toks:=s.toks+(ps.zip us).length }:=by
  refine⟨⟨e0.mod,S.kind,rfl,rfl,Nat.le_refl _,fun y z d h1 h2=>W.inj y z d (cellOf y d h1) (cellOf z d h2),fun y hy=>?_,fun y d h=>absurd (show false=true from h) Bool.false_ne_true,fun _=>hr.hd,Around.frames_deeper e0.frames,.inr ⟨rfl,rfl⟩,fun b z=>absurd z (noA b),e0.bs,e0.bsz,
   fun b _ _=>noA b,fun b z=>absurd z (noA b),e0.funs,e0.frf⟩,rfl,e0.bare,Un.kept hk₁,⟨_,hns,fun i y v h1 h2 h3=>?_⟩,fun y d h=>?_,e0.hok.fresh (Nat.le_refl _),fun y d h=>?_,fun p hp=>absurd (show p∈([]:List (Addr×Obj))from hp) (by simp),e0.hok.kept hk₁,?_⟩
  ·have hy':scope.names.lookup y=some .cell∨scope.names.lookup y=some .free:=hy
   rcases hy' with z | z
   ·exact absurd rfl (S.nc _ (PySem.mem_of_lookup z))
   ·exact Option.isSome_iff_exists.mp (S.vis y (S.fr _ (PySem.mem_of_lookup z) rfl)).2.2
  ·have h1':(ps++fv)[i]?=some y:=h1
   by_cases hi:i<ps.length
   ·rw[List.getElem?_append_left hi]at h1'
    rw[List.getElem?_append_left (by rw[List.length_map,hl];exact hi),List.getElem?_map]at h2
    have h2':vs[i]?=some v:=by
     cases z:vs[i]? with
     | none=>rw[z]at h2;cases h2
     | some a=>rw[z]at h2;cases h2;rfl
    obtain⟨u,hu,rv⟩:=r.get h2'
    have nd:ps.Nodup:=(List.nodup_append.mp S.nd).1
    exact⟨u,rv,.inl ⟨S.par y (List.mem_of_getElem? h1'),Ha nd h1' hu⟩⟩
   ·have hi':ps.length≤i:=Nat.not_lt.mp hi
    rw[List.getElem?_append_right hi']at h1'
    rw[List.getElem?_append_right (by rw[List.length_map,hl];exact hi'),List.length_map,hl]at h2
    obtain⟨j,hj,hN⟩:=EN S.sl h1'
    have hv:σ[j]?=some (some v):=by
     unfold Ev at h2
     rw[List.getElem?_map,hj]at h2
     have z':(σ[j]?).getD none=some v:=Option.some.inj h2
     cases z:σ[j]? with
     | none=>rw[z]at z';cases z'
     | some o=>rw[z]at z';exact congrArg some z'
    obtain⟨hfree,hcell,hsome⟩:=S.vis y (List.mem_of_getElem? h1')
    obtain⟨d,hd⟩:=Option.isSome_iff_exists.mp hsome
    obtain⟨u,ru,o,ho,hdt⟩:=W.val j y v d hN hv hcell (cellOf y d hd)
    exact⟨u,ru,.inr ⟨.inr hfree,d,hd,o,hk₁ _ _ (e0.bs _ _ ho).1,hdt⟩⟩
  ·obtain⟨v,o,ho,hd⟩:=W.cel y d (cellOf y d h)
   exact⟨v,o,hk₁ _ _ (e0.bs _ _ ho).1,hd⟩
  ·obtain⟨v,o,ho,hd⟩:=W.cel y d (cellOf y d h)
   exact(e0.bs _ _ ho).2
  ·show(vs.map some++Ev js σ).length=(ps++fv).length
   have:fv.length=js.length:=Paired.length S.sl
   simp[Ev,this,hl]
 refine PySem.W.kla_codeExpr (wpAny_mono (hte [] _ _ H Q I hq) (fun v s' hs=>?_) fun e s' hs=>False.elim hs)
 obtain⟨x,H',J,rv,qv⟩:=hs
 exact⟨x,H',J.os,J.bare,J.base,J.hok,rv,qv⟩
def Qe (m:Int)(n:Nat):It:=⟨fun i _=>i<n,fun i H x H'=>H'=H∧x=.int (i*m),fun i _=>n≤i⟩
def OH (j m:Int):Nat:=(if 0<j then(j-1) / m+1 else 0).toNat
section
variable {X:Cx}{tg:Expr}
def RX (ta:TA):TI:=fun σ H R=>ta σ H fun vs H1=>∃ j m:Int,vs=[.int 0,.int j,.int m]∧(0≤j∧j≤1000000∧1≤m∧m≤1000000)∧R (Qe m (OH j m)) H1
end
section
variable {P:Program}{w:World}{K:PySem.W.Frag}{mg:Str→Option Value}{base:Heap}
theorem Fun.okC {x qual:Str}{st:Stmt}{f:Addr}{fd:FuncData}{N ps:List Str}{k:Nat}{sp:Sp}(F:Fun K x qual st f fd)(S:Aa N ps (AL st))(len:∀ vs H Q E,sp vs H Q E→vs.length=ps.length)
 (hbody:∀(cdv:Value) (A:Around) (outer:List Env) (s:Shared) (H:Hp) (vs:List V) (Q:VK) (E:XK),fd.code=cdv→BQ k (A.deeper (envOfC qual (AL st) s.heap.objs.size f cdv))→sp vs H Q E→
  ∃ t,Hu (Ft Bj P w K mg base N qual (AL st) f cdv A outer s H E).nox (BY st) t∧t { nx:=fun _ H'=>Q .non H',rt:=Q } (DY N vs) H):Ap P w K mg base Bj (k+1) f fd ps sp:=by
 obtain⟨oc,od,kV,doc,pm,an,cdv,ct,osl,rfl,lk,hcd⟩:=F.ex
 refine MD lk hcd S len fun A outer s H vs Q E hr hsp=>?_
 obtain⟨t,h,q⟩:=hbody cdv A outer s H vs Q E rfl hr hsp
 exact⟨t,h.nox,q⟩
theorem Ld {x qual:Str}{st:Stmt}{f c T:Addr}{fd:FuncData}(F:Fun K x qual st f fd)(hn:PySem.W.nsIn K mainGlobals x=some (some (.ref f)))(ht:PySem.W.tabIn K x=some (c,T)):fd.code=.ref c:=by
 obtain⟨oc,od,kV,doc,pm,an,cdv,ct,osl,rfl,lk,hcd⟩:=F.ex
 unfold PySem.W.tabIn at ht
 rw[hn]at ht
 dsimp only at ht
 rw[lk]at ht
 dsimp only at ht
 split at ht
 ·rename_i c' e
  split at ht
  ·split at ht
   ·cases ht
    rfl
   ·cases ht
  ·cases ht
 ·cases ht
end
theorem M8 {p:Program}{x:Str}(h:(recsOf p).any (fun e=>e.name==x)=true):∃ d,(recsOf p).find? (fun e=>e.name==x)=some d:=by
 obtain⟨d,hd,e⟩:=List.any_eq_true.mp h
 cases q:(recsOf p).find? (fun e=>e.name==x)with
 | some u=>exact⟨u,rfl⟩
 | none=>exact absurd e (by simpa using List.find?_eq_none.mp q d hd)
section
variable {X:Cx}{scope:Scope}{cl:List (Str×Addr)}{C:Addr}{N:List Str}{s₀:Shared}{H₀:Hp}{ex:List Addr}{pn:List (Addr×Obj)}
end
theorem Ju {P:Program}{w:World}{K:PySem.W.Frag}{mg mb:Str→Option Value}{CX:HI}{k:Nat}{fa a:Addr}{fd:FuncData}{x:Str}{sp:Sp}{s₁:Shared}{vs:List Value}{ns:List Int}{tabs:List (Addr×Addr)}
 (KX:K.In s₁.heap) (hns:s₁.heap.Ns mainGlobals mg) (hb:s₁.heap.Ns builtinsNs mb) (hbb:∀ x:Str,x≠"__name__"→mb x=bootBuiltins x) (hlim:s₁.heap.NoLimit) (hg:s₁.gens=#[])
 (ha:s₁.heap.get? a=some { cls:=.type "list",data:=.seq vs.toArray }) (hi:IntsAre vs ns) (hl:ns.length≤sizeLine) (hr:BQ k callerA)
 (hBM:BM mg s₁.heap) (F:∀ base:Heap,K.In base→base.Ns mainGlobals mg→(∀ q∈tabs,PySem.W.CodeHd base q.1 q.2)→BM mg base→Ap P w K mg base CX k fa fd [x] sp) (hbind:∀(s:Shared) (u:Value),BindsTo s fd ⟨[u],[]⟩ [(x,u)])
 (hT:PySem.W.TabsAt tabs s₁.heap) (hKT:PySem.W.noTabs K=true)
 (hsp:∀ H:Hp,(∀ q∈tabs,H q.2=some (.tbl #[]))→Aq K H a (ns.map V.int)→sp [.ref a] H (fun v _=>v=.bl true) fun _ _ _=>False)
 (hCX:∀ H e s',CX [] H s₁ (fun _ _ _=>False) e s'→False):
 codeAny (model P w) callerA (.call (.ref fa) ⟨[.ref a],[]⟩) (fun r s'=>r=.ok (.ret (.bool true))∧OldK s₁.heap s'.heap∧s'.os=s₁.os∧AllBare s'.gens) s₁:=by
 have rv:=E4 hi
 have lenV:=hi.length
 have noKT:∀ b,b∈tabs.map (·.2)→K.lookup b=none:=fun b hb=>by
  obtain⟨q,hq,rfl⟩:=List.mem_map.mp hb
  cases e:K.lookup q.2 with
  | none=>rfl
  | some o=>
   have h1:=KX _ _ e
   rw[(hT q hq).2]at h1
   cases h1
   have h2:=List.all_eq_true.mp hKT _ (PySem.W.mem_of_lookupK e)
   cases h2
 have core:∀ H:Hp,(∀ q∈tabs,H q.2=some (.tbl #[]))→(∀ b,b∉tabs.map (·.2)→H b=none∨∃ o xs,H b=some (.frz o (.lst xs)))→Aq K H a (ns.map V.int)→EG P w H s₁.heap→(∀ b,H b≠none→b=a∨b∈tabs.map (·.2))→(H a≠none→K.lookup a=none)→
  codeAny (model P w) callerA (.call (.ref fa) ⟨[.ref a],[]⟩) (fun r s'=>r=.ok (.ret (.bool true))∧OldK s₁.heap s'.heap∧s'.os=s₁.os∧AllBare s'.gens) s₁:=by
  intro H hTb hO hS hok hA hK
  have base_of:∀{b:Addr} {o:Obj},s₁.heap.get? b=some o→H b=none→(DT s₁.heap H).get? b=some o:=fun e n=>Fk e n
  have noA:∀{b:Addr} {o:Obj} {es:Array DictEntry} {ep:Nat},s₁.heap.get? b=some o→o.data=.dict es ep→H b=none:=fun {b o es ep} e d=>by
   cases q:H b with
   | none=>rfl
   | some u=>
    rcases hA b (by rw[q];simp)with e' | e'
    ·subst e'
     rw[ha]at e;cases e
     have d':Data.seq vs.toArray _=Data.dict es ep:=d
     cases d'
    ·obtain⟨r,hr',rfl⟩:=List.mem_map.mp e'
     rw[(hT r hr').2]at e
     cases e
     cases d
  have nsK:∀{b:Addr} {m:Str→Option Value},s₁.heap.Ns b m→(DT s₁.heap H).Ns b m:=fun {b m} ⟨o,es,ep,e,d,r⟩=>⟨o,es,ep,base_of e (noA e d),d,r⟩
  have hKb:K.In (DT s₁.heap H):=fun b o e=>base_of (KX b o e) (by
   cases q:H b with
   | none=>rfl
   | some u=>
    rcases hA b (by rw[q];simp)with e' | e'
    ·subst e'
     rw[hK (by rw[q];simp)]at e;cases e
    ·rw[noKT b e']at e;cases e)
  have hM:Mod K mg (DT s₁.heap H):=⟨hKb,nsK hns,⟨mb,nsK hb,hbb⟩,let ⟨mc,h1,h2⟩:=hlim;⟨mc,nsK h1,h2⟩⟩
  have e0:Fq P w K mg (DT s₁.heap H) callerA [] s₁ H:=⟨rfl,hM,fun b o e=>Iw e,Nat.le_of_eq (Ew _ _),trivial,fun b hb=>absurd (show b∈([]:List Addr)from hb) (by simp),hok,.of_eq hg⟩
  have noB:∀{b:Addr} {o:Obj} {n:String},s₁.heap.get? b=some o→o.cls=.type n→n≠"list"→H b=none:=fun {b o n} e d dn=>by
   cases q:H b with
   | none=>rfl
   | some u=>
    rcases hA b (by rw[q];simp)with e' | e'
    ·subst e'
     rw[ha]at e;cases e
     have d':Value.type "list"=Value.type n:=d
     cases d'
     exact absurd rfl dn
    ·obtain⟨r,hr',rfl⟩:=List.mem_map.mp e'
     rw[(hT r hr').2]at e
     cases e
     cases d
  have hCd:∀ q∈tabs,PySem.W.CodeHd (DT s₁.heap H) q.1 q.2:=fun q hq=>by
   obtain⟨o,vs,file,tf,flags,tg,inF,text,tt,e,ec,r⟩:=(hT q hq).1
   exact⟨o,vs,file,tf,flags,tg,inF,text,tt,base_of e (noB e ec (by decide)),ec,r⟩
  have hBd:BM mg (DT s₁.heap H):=by
   obtain⟨bm,o,b1,b2,b3,b4,b5⟩:=hBM
   exact⟨bm,o,b1,b2,base_of b3 (noB b3 b4 (by decide)),b4,b5⟩
  refine codeAny_mono ((F _ hKb (nsK hns) hCd hBd).run callerA [] s₁ H ⟨[.ref a],[]⟩ [.ref a] [.ref a] _ _ hr e0 (hbind s₁ (.ref a)) (.cons rfl .nil) (hsp H hTb hS)) fun r s' h=>?_
  cases r with
  | error e=>exact(hCX H e s' h).elim
  | ok fl=>
   cases fl with
   | next=>exact False.elim h
   | brk=>exact False.elim h
   | cont=>exact False.elim h
   | ret u=>
    obtain⟨v,H',os,bare,un,hok',r',q⟩:=h
    have q':v=.bl true:=q
    subst q'
    obtain rfl:u=Value.bool true:=r'
    refine⟨rfl,⟨fun b o e=>?_,fun b o e=>un.there b o e (by simp)⟩,os,bare⟩
    by_cases hb:b∈tabs.map (·.2)
    ·obtain⟨q,hq,rfl⟩:=List.mem_map.mp hb
     obtain⟨more,e2⟩:=un.tbls _ _ (hTb q hq)
     have e3:s'.heap.get? q.2=some { cls:=.none,data:=.fields (#[]++more) }:=hok' _ _ e2
     rw[(hT q hq).2]at e
     cases e
     obtain⟨oc,vc,file,tf,flags,tg,inF,text,tt,g1,g2,g3,g4,_⟩:=(hT q hq).1
     exact .inr (.inl ⟨⟨_,_,_,g1,g2,g3,g4⟩,rfl,_,_,rfl,e3⟩)
    ·refine .inl ?_
     rcases hO b hb with q | ⟨ob,xs,z⟩
     ·exact un.keep b o e q (fun z=>absurd (show b∈([]:List Addr)from z) (by simp)) (by simp)
     ·obtain⟨e1,_⟩:=hok b _ z
      obtain⟨e2,_⟩:=hok' b _ (un.frzs b ob _ z)
      rw[e]at e1;cases e1
      exact e2
 have nTa:a∉tabs.map (·.2):=fun hm=>by
  obtain⟨q,hq,e⟩:=List.mem_map.mp hm
  have h1:=(hT q hq).2
  rw[e,ha]at h1
  cases h1
 have tok:∀ q∈tabs,s₁.heap.get? q.2=some { cls:=.none,data:=.fields #[] }:=fun q hq=>(hT q hq).2
 cases hk:K.lookup a with
 | some o=>
  have e:=KX a o hk
  rw[ha]at e
  cases e
  refine core (fun b=>if b∈tabs.map (·.2)then some (.tbl #[])else none) (fun q hq=>if_pos (List.mem_map_of_mem hq)) (fun b hb=>.inl (if_neg hb)) (.inr ⟨_,vs.toArray,_,hk,rfl,rfl,rfl,by rw[List.size_toArray,lenV];exact hl,by simpa using rv⟩) (fun b u z=>?_) (fun b z=>?_) (fun z=>absurd (if_neg nTa) z)
  ·by_cases hb:b∈tabs.map (·.2)
   ·have z':=(if_pos hb).symm.trans z
    cases z'
    obtain⟨q,hq,rfl⟩:=List.mem_map.mp hb
    exact tok q hq
   ·have z':=(if_neg hb).symm.trans z
    cases z'
  ·by_cases hb:b∈tabs.map (·.2)
   ·exact .inr hb
   ·exact absurd (if_neg hb) z
 | none=>
  refine core (fun b=>if b∈tabs.map (·.2)then some (.tbl #[])else if b=a then some (.frz { cls:=.type "list",data:=.seq vs.toArray } (.lst (ns.map V.int)))else none) (fun q hq=>if_pos (List.mem_map_of_mem hq)) (fun b hb=>?_) (.inl (.inr ⟨{ cls:=.type "list",data:=.seq vs.toArray },(if_neg nTa).trans (if_pos rfl)⟩)) (fun b u z=>?_) (fun b z=>?_) (fun _=>hk)
  ·by_cases hba:b=a
   ·exact .inr ⟨_,_,(if_neg hb).trans (if_pos hba)⟩
   ·exact .inl ((if_neg hb).trans (if_neg hba))
  ·by_cases hb:b∈tabs.map (·.2)
   ·have z':=(if_pos hb).symm.trans z
    cases z'
    obtain⟨q,hq,rfl⟩:=List.mem_map.mp hb
    exact tok q hq
   ·by_cases hba:b=a
    ·have z':=((if_neg hb).trans (if_pos hba)).symm.trans z
     cases z'
     subst hba
     exact⟨ha,by rw[List.length_map];exact hl,vs,_,rv,ha⟩
    ·have z':=((if_neg hb).trans (if_neg hba)).symm.trans z
     cases z'
  ·by_cases hb:b∈tabs.map (·.2)
   ·exact .inr hb
   ·by_cases hba:b=a
    ·exact .inl hba
    ·exact absurd ((if_neg hb).trans (if_neg hba)) z
theorem OI {p:Program}{loose:List Str}{mean:ExcName→Option Value}{mg mb:Str→Option Value}{h:Heap}(T:Top p loose mean mg mb h):BM mg h:=by
 obtain⟨bm,ob,b1,b2,b3,b4,b5,b6⟩:=T.bmain
 refine⟨bm,ob,b1,⟨b2,fun q=>?_⟩,b3,b4,b5,b6⟩
 obtain⟨o,es,ep,e,hd,_⟩:=T.g
 rw[q,e]at b3
 cases b3
 rw[hd]at b6
 cases b6
theorem Kk {l:PySem.W.OpenLaw}{n k:Nat}{q:Program}{loose:List Str}{XP:(Str→Option Value)→Heap→Prop}{YP:World→Heap→Prop}{d:DefRec}{K:Params→PySem.W.Frag}{x:Str}
 (hn:l.most=some n) (hn2:n≤sizeLine) (hdf:d.params.defaults=[]) (hr:BQ k callerA) (hY:∀(w:World) (h:Heap),YP w h→(K w.params).In h) (hKT:∀ w:World,PySem.W.noTabs (K w.params)=true)
 (F:∀(w:World) (mean:ExcName→Option Value) (mg mb:Str→Option Value) (fa:Addr) (h:Heap),(K w.params).In h→Top q (PySem.W.looseW q loose) mean mg mb h→mg d.name=some (.ref fa)→
  ∃(fd:FuncData) (tabs:List (Addr×Addr)) (sp:Sp),(∀(s:Shared) (u:Value),BindsTo s fd ⟨[u],[]⟩ [(x,u)])∧PySem.W.TabsAt tabs h∧
   (∀(H:Hp) (a:Addr) (ns:List Int),ns.length≤n→(∀ q∈tabs,H q.2=some (.tbl #[]))→Aq (K w.params) H a (ns.map V.int)→sp [.ref a] H (fun v _=>v=.bl true) E0)∧
   ∀ base:Heap,(K w.params).In base→base.Ns mainGlobals mg→(∀ q∈tabs,PySem.W.CodeHd base q.1 q.2)→BM mg base→Ap l.prog w (K w.params) mg base Bj k fa fd [x] sp):
 PySem.W.WalkO q loose XP YP l.row.toRowW d [] (fun f vs=>PySem.call f vs):=by
 refine Att.FL hn hdf fun w s₀ s₁ mg mb fa o pm cd doc a vs ns G Y ho hd hcd hmg hobj hints hlen hg=>?_
 have KX:=hY w _ Y
 obtain⟨fd,tabs,sp,hb,hT,hS,hF⟩:=F w _ mg mb fa _ KX G.T hmg
 exact Ju KX G.T.g G.T.b G.T.builtins G.T.nolimit hg hobj hints (Nat.le_trans hlen hn2) hr (OI G.T) hF hb hT (hKT w) (fun H hO hS'=>hS H a ns hlen hO hS') fun H e s' h=>h.elim
structure B7 (X:Cx)(scope:Scope)(cl:List (Str×Addr))(x:Str)(fv:List Str)(js:List Nat):Prop where
 kind:scope.kind=.function
 nc:∀ y∈scope.names,y.2=.cell→y.1=x
 nm:∀ y∈scope.names,y.2=.local→scope.names.lookup y.1=some .local
 hx:scope.names.lookup x=some .cell
 fr:∀ y∈scope.names,y.2=.free→y.1∈fv
 nd:(x::fv).Nodup
 vis:∀ y∈fv,scope.names.lookup y=some .free∧X.env.scope.names.lookup y=some .cell∧(cl.lookup y).isSome=true
 cls:∀ p∈cl,X.env.cells.lookup p.1=some p.2
 sl:Paired (fun y j=>X.N[j]?=some y) fv js
 cf:∀ n l,cellsFrom n scope.names l=(x,n)::l
 pc:∀ h:Heap,pushCells h scope.names=h.push { cls:=.type "cell",data:=.cell none }
section
variable {M:Model}{A:Around}{E:Value→Shared→Prop}{s:Shared}
end
section
variable {X:Cx}{scope:Scope}{cl:List (Str×Addr)}{x:Str}{fv:List Str}{js:List Nat}
theorem B7.cell_of (S:B7 X scope cl x fv js){y:Str}{c:Addr}(h:cl.lookup y=some c):X.env.cells.lookup y=some c:=S.cls (y,c) (PySem.mem_of_lookup h)
theorem B7.ne (S:B7 X scope cl x fv js){y:Str}(h:y∈fv):y≠x:=fun e=>(List.nodup_cons.mp S.nd).1 (e▸h)
theorem B7.own (S:B7 X scope cl x fv js){C:Addr}{cl':List (Str×Addr)}{y:Str}{k:NameKind}(h:(compEnvC scope cl' C X.env).kindOf y=some k)(hk:k=.cell∨k=.free):y=x∨y∈fv:=by
 have h':(scope.names.map fun(n,k)=>if(k==NameKind.free&&X.env.scope.kind==.function&&X.env.kindOf n==some .cell)then(n,NameKind.cell)else(n,k)).lookup y=some k:=h
 rcases Bf h' with q | ⟨q,_⟩
 ·rcases hk with rfl | rfl
  ·exact .inl (S.nc _ (PySem.mem_of_lookup q) rfl)
  ·exact .inr (S.fr _ (PySem.mem_of_lookup q) rfl)
 ·exact .inr (S.fr _ (PySem.mem_of_lookup q) rfl)
end
section
variable {X:Cx}{tg:Expr}{pins:List (Addr×Obj)}{σ:St}{H:Hp}{s:Shared}
def Sr (a:Addr)(o:Obj):It:=
 ⟨fun i H=>∃ kvs,H a=some (.frz o (.dK kvs))∧i<kvs.length,
  fun i H x H'=>H'=H∧∀ kvs,H a=some (.frz o (.dK kvs))→∃ k v,kvs[i]?=some (k,v)∧x=kV k,
  fun i H=>∃ kvs,H a=some (.frz o (.dK kvs))∧kvs.length≤i⟩
def Tc (tl:TE):TI:=fun σ H R=>tl σ H fun x H1=>∃ a kvs,x=.ref a∧H1 a=some (.dK kvs)∧∀ o,R (Sr a o) (upd H1 a (.frz o (.dK kvs)))
end
def PZ (H:Hp):V→LX
 | .ref q=>match H q with
  | some (.tup xs)=>.tp xs
  | _=>.fl (.ref q)
 | v=>.fl v
theorem M9 {H:Hp}{v:V}{i:LX}(h:Ca H v i):PZ H v=i:=by
 cases i with
 | fl y=>
  obtain⟨rfl,f⟩:=h
  cases v <;> first | rfl | exact absurd (show false=true from f) Bool.false_ne_true
 | tp xs=>
  obtain⟨q,rfl,hq,_⟩:=h
  show(match H q with | some (.tup xs)=>LX.tp xs | _=>.fl (.ref q))=_
  rw[hq]
theorem Di {H:Hp}:∀{xs:List V} {is:List LX},Paired (Ca H) xs is→xs.map (PZ H)=is:=by
 intro A B h
 induction h with
 | nil=>rfl
 | cons h t ih=>rw[List.map_cons,M9 h,ih]
def OJ (H:Hp)(is:List LX):V→Bool
 | .ref q=>match H q with
  | some (.tup ys)=>N5 JH (ys.map (PZ H)) is
  | _=>false
 | _=>false
def Ss (H:Hp)(is:List LX):Value→Bool
 | .ref q=>match H q with
  | some (.tup ys)=>N5 JH (ys.map (PZ H)) is
  | _=>false
 | _=>false
section
variable {X:Cx}{pins:List (Addr×Obj)}{σ:St}{H:Hp}{s:Shared}
def OK (H:Hp)(us:List V):Prop:=∀ u∈us,∃ q ys js,u=.ref q∧H q=some (.tup ys)∧Paired (Ca H) ys js
def Su (neg:Bool):R2:=fun x y H Q=>∃ a p us xs is,x=.ref a∧y=.ref p∧H p=some (.lst us)∧H a=some (.tup xs)∧Paired (Ca H) xs is∧OK H us∧Q (.bl (if neg then !us.any (OJ H is)else us.any (OJ H is))) H
end
section
variable {prog:Program}{w:World}{A:Around}{E:Value→Shared→Prop}{s:Shared}
theorem Jv {z TI TO i1 i2 l1 l2:Addr}{k1 k2:Nat}{xs ys:Array Value}{x y a b:Value}{Q:Value→Shared→Prop}(D:ZipApart z TI TO i1 i2 l1 l2)
 (hz:IsZip s.heap z TI TO .none) (hTI:IsPair s.heap TI (.ref i1) (.ref i2)) (hTO:IsPair s.heap TO a b)
 (h1:s.heap.IsTupleIter i1 l1 k1) (h2:s.heap.IsTupleIter i2 l2 k2) (hl1:s.heap.IsTuple l1 xs) (hl2:s.heap.IsTuple l2 ys) (hx:xs[k1]?=some x) (hy:ys[k2]?=some y)
 (hQ:∀ h',IsZip h' z TI TO (rawInt s.heap.objs.size)→IsPair h' TO x y→h'.IsTupleIter i1 l1 (k1+1)→h'.IsTupleIter i2 l2 (k2+1)→IsPair h' s.heap.objs.size x y→h'.objs.size=s.heap.objs.size+1→
  (∀ c o,c≠z→c≠TO→c≠i1→c≠i2→s.heap.get? c=some o→h'.get? c=some o)→Q (.ref s.heap.objs.size) { s with heap:=h' }):
 wpAny (model prog w) A (Builtin.«zip.__next__» ⟨[.ref z],[]⟩) (fun fin s'=>∃ v,fin=.done (.ret v)∧Q v s') E s:=by
 show wpAny _ _ (field (.ref z) 2 >>= _) _ _ _
 refine wpAny_bind (wpAny_field hz rfl (x:=.bool false) rfl ?_)
 show wpAny _ _ (field (.ref z) 3 >>= _) _ _ _
 refine wpAny_bind (wpAny_field hz rfl (x:=.ref TI) rfl ?_)
 refine wpAny_bind (wpAny_seqItems hTI rfl ?_)
 show wpAny _ _ (Builtin.SmallTypes.ownedTupleIsFree (.ref z) >>= _) _ _ _
 refine wpAny_bind ?_
 unfold Builtin.SmallTypes.ownedTupleIsFree
 refine wpAny_bind (wpAny_field hz rfl (x:=.none) rfl (wpAny_pure ?_))
 simp only[if_true]
 refine wpAny_bind (wpAny_rule ?_)
 refine wpAny_bind (wpAny_field hz rfl (x:=.ref TO) rfl ?_)
 refine wpAny_bind (wpAny_setField_rec hz (by simp) fun h₁ hz₁ hs₁=>?_)
 replace hz₁:IsZip h₁ z TI TO .ellipsis:=hz₁
 refine wpAny_bind ?_
 simp only[List.zipIdx_cons,List.zipIdx_nil,List.forIn_cons,List.forIn_nil]
 refine wpAny_bind (wpAny_bind (wpAny_onRaise ?_))
 show wpAny _ _ (Builtin.SmallTypes.nextOf (.ref i1) >>= _) _ _ _
 refine wpAny_bind (Cb (h1.extBut hs₁.extBut D.i1z) (hl1.extBut hs₁.extBut D.l1z) hx fun h₂ h1₂ hs₂=>wpAny_pure ?_)
 have hTO₂:IsPair h₂ TO a b:=hs₂.extBut _ _ D.TOi1 (hs₁.extBut _ _ D.TOz hTO)
 refine wpAny_bind (wpAny_seqItems hTO₂ rfl ?_)
 refine wpAny_bind (wpAny_updateSeq_pair hTO₂ fun h₃ hTO₃ hs₃=>?_)
 replace hTO₃:IsPair h₃ TO x b:=hTO₃
 refine wpAny_bind (wpAny_letGo (wpAny_pure ?_))
 refine wpAny_bind (wpAny_bind (wpAny_onRaise ?_))
 show wpAny _ _ (Builtin.SmallTypes.nextOf (.ref i2) >>= _) _ _ _
 refine wpAny_bind (Cb (((h2.extBut hs₁.extBut D.i2z).extBut hs₂.extBut D.i12.symm).extBut hs₃.extBut D.TOi2.symm)
  (((hl2.extBut hs₁.extBut D.l2z).extBut hs₂.extBut D.l2i1).extBut hs₃.extBut D.l2TO) hy fun h₄ h2₄ hs₄=>wpAny_pure ?_)
 have hTO₄:IsPair h₄ TO x b:=hs₄.extBut _ _ D.TOi2 hTO₃
 refine wpAny_bind (wpAny_seqItems hTO₄ rfl ?_)
 refine wpAny_bind (wpAny_updateSeq_pair hTO₄ fun h₅ hTO₅ hs₅=>?_)
 replace hTO₅:IsPair h₅ TO x y:=hTO₅
 refine wpAny_bind (wpAny_letGo (wpAny_pure (wpAny_pure ?_)))
 refine wpAny_bind (wpAny_seqItems hTO₅ rfl ?_)
 refine wpAny_bind (wpAny_newTuple ?_)
 have hsz:h₅.objs.size=s.heap.objs.size:=by rw[hs₅.1,hs₄.1,hs₃.1,hs₂.1,hs₁.1]
 have hz₅:IsZip h₅ z TI TO .ellipsis:=hs₅.extBut _ _ D.TOz.symm (hs₄.extBut _ _ D.i2z.symm (hs₃.extBut _ _ D.TOz.symm (hs₂.extBut _ _ D.i1z.symm hz₁)))
 have hk₅:∀ c o,c≠z→c≠TO→c≠i1→c≠i2→s.heap.get? c=some o→h₅.get? c=some o:=fun c o c1 c2 c3 c4 e=>
  hs₅.extBut _ _ c2 (hs₄.extBut _ _ c4 (hs₃.extBut _ _ c2 (hs₂.extBut _ _ c3 (hs₁.extBut _ _ c1 e))))
 have h1₅:h₅.IsTupleIter i1 l1 (k1+1):=((h1₂.extBut hs₃.extBut D.TOi1.symm).extBut hs₄.extBut D.i12).extBut hs₅.extBut D.TOi1.symm
 have h2₅:h₅.IsTupleIter i2 l2 (k2+1):=h2₄.extBut hs₅.extBut D.TOi2.symm
 have hzlt:z<h₅.objs.size:=Heap.lt_size hz₅
 show wpAny _ _ (Builtin.SmallTypes.ownedTupleHandOut (.ref z) (.ref h₅.objs.size) >>= _) _ _ _
 refine wpAny_bind ?_
 unfold Builtin.SmallTypes.ownedTupleHandOut
 have hz₆:IsZip (h₅.push { cls:=.type "tuple",data:=.seq #[x,y] }) z TI TO .ellipsis:=Heap.get?_push_of_some _ hz₅
 refine wpAny_bind (wpAny_setField_rec hz₆ (by simp) fun h₇ hz₇ hs₇=>?_)
 replace hz₇:IsZip h₇ z TI TO (rawInt h₅.objs.size):=hz₇
 refine wpAny_setField_rec hz₇ (by simp) fun h₈ hz₈ hs₈=>?_
 replace hz₈:IsZip h₈ z TI TO (rawInt h₅.objs.size):=hz₈
 have up:∀ c o,c≠z→h₅.get? c=some o→h₈.get? c=some o:=fun c o c1 e=>hs₈.extBut _ _ c1 (hs₇.extBut _ _ c1 (Heap.get?_push_of_some _ e))
 have hT₈:IsPair h₈ h₅.objs.size x y:=hs₈.extBut _ _ (Nat.ne_of_gt hzlt) (hs₇.extBut _ _ (Nat.ne_of_gt hzlt) (Heap.get?_push_size _ rfl))
 have hz8:h₈.objs.size=h₅.objs.size+1:=by rw[hs₈.1,hs₇.1,Heap.size_push]
 rw[hsz]at hz₈ hT₈ hz8
 refine wpAny_pure ⟨_,rfl,?_⟩
 show Q (.ref h₅.objs.size) _
 rw[hsz]
 exact hQ h₈ hz₈ (up _ _ D.TOz hTO₅) (h1₅.at fun o e=>up _ o D.i1z e) (h2₅.at fun o e=>up _ o D.i2z e) hT₈ hz8 fun c o c1 c2 c3 c4 e=>up c o c1 (hk₅ c o c1 c2 c3 c4 e)
theorem Kl {z TI TO i1 i2 l1 l2:Addr}{k1 k2:Nat}{xs ys:Array Value}{a b:Value}{Q:Fin→Shared→Prop}(hh:A.handled=none)(D:ZipApart z TI TO i1 i2 l1 l2)
 (hz:IsZip s.heap z TI TO .none) (hTI:IsPair s.heap TI (.ref i1) (.ref i2)) (hTO:IsPair s.heap TO a b)
 (h1:s.heap.IsTupleIter i1 l1 k1) (h2:s.heap.IsTupleIter i2 l2 k2) (hl1:s.heap.IsTuple l1 xs) (hl2:s.heap.IsTuple l2 ys) (hend:xs[k1]?=none∨ys[k2]?=none)
 (hE:∀ h' e,(∀ c o,c≠z→c≠TO→c≠i1→c≠i2→s.heap.get? c=some o→h'.get? c=some o)→(∃ o,h'.get? e=some o∧o.cls=.type "StopIteration")→E (.ref e) { s with heap:=h' }):
 wpAny (model prog w) A (Builtin.«zip.__next__» ⟨[.ref z],[]⟩) Q E s:=by
 show wpAny _ _ (field (.ref z) 2 >>= _) _ _ _
 refine wpAny_bind (wpAny_field hz rfl (x:=.bool false) rfl ?_)
 show wpAny _ _ (field (.ref z) 3 >>= _) _ _ _
 refine wpAny_bind (wpAny_field hz rfl (x:=.ref TI) rfl ?_)
 refine wpAny_bind (wpAny_seqItems hTI rfl ?_)
 show wpAny _ _ (Builtin.SmallTypes.ownedTupleIsFree (.ref z) >>= _) _ _ _
 refine wpAny_bind ?_
 unfold Builtin.SmallTypes.ownedTupleIsFree
 refine wpAny_bind (wpAny_field hz rfl (x:=.none) rfl (wpAny_pure ?_))
 simp only[if_true]
 refine wpAny_bind (wpAny_rule ?_)
 refine wpAny_bind (wpAny_field hz rfl (x:=.ref TO) rfl ?_)
 refine wpAny_bind (wpAny_setField_rec hz (by simp) fun h₁ hz₁ hs₁=>?_)
 replace hz₁:IsZip h₁ z TI TO .ellipsis:=hz₁
 refine wpAny_bind ?_
 simp only[List.zipIdx_cons,List.zipIdx_nil,List.forIn_cons,List.forIn_nil]
 refine wpAny_bind (wpAny_bind (wpAny_onRaise ?_))
 show wpAny _ _ (Builtin.SmallTypes.nextOf (.ref i1) >>= _) _ _ _
 cases hx:xs[k1]? with
 | none=>
  refine wpAny_bind (E7 hh (h1.extBut hs₁.extBut D.i1z) (hl1.extBut hs₁.extBut D.l1z) hx fun h₂ e hs₂ he=>?_)
  obtain⟨oe,hoe,hce⟩:=he
  have hz₂:IsZip h₂ z TI TO .ellipsis:=hs₂ _ _ D.i1z.symm hz₁
  have hez:e≠z:=fun x=>by subst x;rw[hz₂]at hoe;cases hoe;simp at hce
  refine wpAny_setField_rec hz₂ (by simp) fun h₃ _ hs₃=>hE h₃ e (fun c o c1 _ c3 _ x=>hs₃.extBut _ _ c1 (hs₂ _ _ c3 (hs₁.extBut _ _ c1 x))) ⟨oe,hs₃.extBut _ _ hez hoe,hce⟩
 | some x=>
  have hy:ys[k2]?=none:=by rcases hend with h | h;rw[hx]at h;cases h;exact h
  refine wpAny_bind (Cb (h1.extBut hs₁.extBut D.i1z) (hl1.extBut hs₁.extBut D.l1z) hx fun h₂ h1₂ hs₂=>wpAny_pure ?_)
  have hTO₂:IsPair h₂ TO a b:=hs₂.extBut _ _ D.TOi1 (hs₁.extBut _ _ D.TOz hTO)
  refine wpAny_bind (wpAny_seqItems hTO₂ rfl ?_)
  refine wpAny_bind (wpAny_updateSeq_pair hTO₂ fun h₃ hTO₃ hs₃=>?_)
  refine wpAny_bind (wpAny_letGo (wpAny_pure ?_))
  refine wpAny_bind (wpAny_bind (wpAny_onRaise ?_))
  show wpAny _ _ (Builtin.SmallTypes.nextOf (.ref i2) >>= _) _ _ _
  refine wpAny_bind (E7 hh (((h2.extBut hs₁.extBut D.i2z).extBut hs₂.extBut D.i12.symm).extBut hs₃.extBut D.TOi2.symm)
   (((hl2.extBut hs₁.extBut D.l2z).extBut hs₂.extBut D.l2i1).extBut hs₃.extBut D.l2TO) hy fun h₄ e hs₄ he=>?_)
  obtain⟨oe,hoe,hce⟩:=he
  have hz₄:IsZip h₄ z TI TO .ellipsis:=hs₄ _ _ D.i2z.symm (hs₃.extBut _ _ D.TOz.symm (hs₂.extBut _ _ D.i1z.symm hz₁))
  have hez:e≠z:=fun x=>by subst x;rw[hz₄]at hoe;cases hoe;simp at hce
  refine wpAny_setField_rec hz₄ (by simp) fun h₅ _ hs₅=>hE h₅ e (fun c o c1 c2 c3 c4 x=>hs₅.extBut _ _ c1 (hs₄ _ _ c4 (hs₃.extBut _ _ c2 (hs₂.extBut _ _ c3 (hs₁.extBut _ _ c1 x))))) ⟨oe,hs₅.extBut _ _ hez hoe,hce⟩
theorem Gi {z TI TO i1 i2 l1 l2:Addr}{k1 k2:Nat}{xs ys:Array Value}{x y a b:Value}{Q:Option Value→Shared→Prop}(D:ZipApart z TI TO i1 i2 l1 l2)
 (hz:IsZip s.heap z TI TO .none) (hTI:IsPair s.heap TI (.ref i1) (.ref i2)) (hTO:IsPair s.heap TO a b)
 (h1:s.heap.IsTupleIter i1 l1 k1) (h2:s.heap.IsTupleIter i2 l2 k2) (hl1:s.heap.IsTuple l1 xs) (hl2:s.heap.IsTuple l2 ys) (hx:xs[k1]?=some x) (hy:ys[k2]?=some y)
 (hQ:∀ h',IsZip h' z TI TO (rawInt s.heap.objs.size)→IsPair h' TO x y→h'.IsTupleIter i1 l1 (k1+1)→h'.IsTupleIter i2 l2 (k2+1)→IsPair h' s.heap.objs.size x y→h'.objs.size=s.heap.objs.size+1→
  (∀ c o,c≠z→c≠TO→c≠i1→c≠i2→s.heap.get? c=some o→h'.get? c=some o)→Q (some (.ref s.heap.objs.size)) { s with heap:=h' }):
 wpAny (model prog w) A (pyNext (.ref z)) Q E s:=by
 have hT:s.TypeIs (.ref z) "zip":=⟨_,hz,rfl⟩
 unfold pyNext
 exact wpAny_bind (wpAny_attempt (wpAny_callSpecial?_slot (name:=Str.ofString "__next__") hT F.slot_zip_next
  (wpAny_call_entry F.slot_zip_next hT F.entry_zip_next (Jv D hz hTI hTO h1 h2 hl1 hl2 hx hy fun h' a1 a2 a3 a4 a5 a6 a7=>wpAny_pure (hQ h' a1 a2 a3 a4 a5 a6 a7)) (F.args_zip_next_1 _))))
theorem Hb {z TI TO i1 i2 l1 l2:Addr}{k1 k2:Nat}{xs ys:Array Value}{a b:Value}{Q:Option Value→Shared→Prop}(hh:A.handled=none)(D:ZipApart z TI TO i1 i2 l1 l2)
 (hz:IsZip s.heap z TI TO .none) (hTI:IsPair s.heap TI (.ref i1) (.ref i2)) (hTO:IsPair s.heap TO a b)
 (h1:s.heap.IsTupleIter i1 l1 k1) (h2:s.heap.IsTupleIter i2 l2 k2) (hl1:s.heap.IsTuple l1 xs) (hl2:s.heap.IsTuple l2 ys) (hend:xs[k1]?=none∨ys[k2]?=none)
 (hQ:∀ h',(∀ c o,c≠z→c≠TO→c≠i1→c≠i2→s.heap.get? c=some o→h'.get? c=some o)→Q none { s with heap:=h' }):wpAny (model prog w) A (pyNext (.ref z)) Q E s:=by
 have hT:s.TypeIs (.ref z) "zip":=⟨_,hz,rfl⟩
 unfold pyNext
 refine wpAny_bind (wpAny_attempt (wpAny_callSpecial?_slot (name:=Str.ofString "__next__") hT F.slot_zip_next
  (wpAny_call_entry F.slot_zip_next hT F.entry_zip_next (Kl hh D hz hTI hTO h1 h2 hl1 hl2 hend fun h' e hk he=>?_) (F.args_zip_next_1 _))))
 obtain⟨o,ho,hc⟩:=he
 refine wpAny_bind (wpAny_isInstance (T:="StopIteration") (b:=true) ⟨o,ho,hc⟩ isSubtype_stop ?_)
 exact wpAny_pure (hQ _ hk)
end
abbrev Pa (h:Heap)(l1:Addr):Heap:=h.push { cls:=.type "tuple_iterator",data:=.fields #[.ref l1,.int 0 0] }
abbrev Pb (h:Heap)(l1 l2:Addr):Heap:=(Pa h l1).push { cls:=.type "tuple_iterator",data:=.fields #[.ref l2,.int 0 0] }
abbrev Pc (h:Heap)(l1 l2:Addr):Heap:=(Pb h l1 l2).push { cls:=.type "tuple",data:=.seq #[.ref h.objs.size,.ref (Pa h l1).objs.size] }
abbrev Pd (h:Heap)(l1 l2:Addr):Heap:=(Pc h l1 l2).push { cls:=.type "tuple",data:=.seq #[.none,.none] }
abbrev NA (h:Heap)(l1 l2:Addr):Heap:=(Pd h l1 l2).push { cls:=.type "zip",data:=.fields #[.none,.bool false,.bool false,.ref (Pb h l1 l2).objs.size,.ref (Pc h l1 l2).objs.size] }
theorem Ia (l1 l2:Addr)(xs ys:Array Value):
 Meets (Builtin.«zip.__new__» ⟨[.type "zip",.ref l1,.ref l2],[]⟩) (fun _ R s=>s.heap.IsTuple l1 xs∧s.heap.IsTuple l2 ys∧R (.ok (.ret (.ref (Pd s.heap l1 l2).objs.size))) { s with heap:=NA s.heap l1 l2 }):=
 .of_wp fun prog w A R s h=>by
  obtain⟨hp,g,d,tk,os⟩:=s;obtain⟨hl1,hl2,h⟩:=h
  have hsub:=sub_zip
  have hL1:Heap.IsTuple (Shared.heap ⟨hp,g,d,tk,os⟩) l1 xs:=hl1
  have hL2:Heap.IsTuple (Shared.heap ⟨hp.push { cls:=.type "tuple_iterator",data:=.fields #[.ref l1,.int 0 0] },g,d,tk,os⟩) l2 ys:=hl2.at fun o e=>Heap.get?_push_of_some _ e
  wp_walk using wpAny_pyIter_tuple hL1,wpAny_pyIter_tuple hL2
  exact⟨_,rfl,h⟩
section
variable {prog:Program}{w:World}{A:Around}{E:Value→Shared→Prop}{s:Shared}
theorem Jw {l1 l2:Addr}{xs ys:Array Value}{Q:Value→Shared→Prop}(hl1:s.heap.IsTuple l1 xs)(hl2:s.heap.IsTuple l2 ys)
 (h:∀ h',IsZip h' (s.heap.objs.size+4) (s.heap.objs.size+2) (s.heap.objs.size+3) .none→IsPair h' (s.heap.objs.size+2) (.ref s.heap.objs.size) (.ref (s.heap.objs.size+1))→
  IsPair h' (s.heap.objs.size+3) .none .none→h'.IsTupleIter s.heap.objs.size l1 0→h'.IsTupleIter (s.heap.objs.size+1) l2 0→h'.objs.size=s.heap.objs.size+5→
  (∀ c o,s.heap.get? c=some o→h'.get? c=some o)→Q (.ref (s.heap.objs.size+4)) { s with heap:=h' }):
 wpAny (model prog w) A (call (.type "zip") [.ref l1,.ref l2]) Q E s:=by
 refine callType_new F.called_zip (by decide) (F.typeCall_zip_2 _ _) (F.newCall_zip_2 _ _) (fun obj=>F.args_object_init_3 obj _ _) F.entry_zip_new (Ia l1 l2 xs ys) ⟨hl1,hl2,?_⟩
 have z1:(Pa s.heap l1).objs.size=s.heap.objs.size+1:=Heap.size_push ..
 have z2:(Pb s.heap l1 l2).objs.size=s.heap.objs.size+2:=by rw[Heap.size_push,z1]
 have z3:(Pc s.heap l1 l2).objs.size=s.heap.objs.size+3:=by rw[Heap.size_push,z2]
 have z4:(Pd s.heap l1 l2).objs.size=s.heap.objs.size+4:=by rw[Heap.size_push,z3]
 have z5:(NA s.heap l1 l2).objs.size=s.heap.objs.size+5:=by rw[Heap.size_push,z4]
 have g5:(NA s.heap l1 l2).get? (Pd s.heap l1 l2).objs.size=some _:=Heap.get?_push_size _ rfl
 have g4:(NA s.heap l1 l2).get? (Pc s.heap l1 l2).objs.size=some _:=Heap.get?_push_of_some _ (Heap.get?_push_size _ rfl)
 have g3:(NA s.heap l1 l2).get? (Pb s.heap l1 l2).objs.size=some _:=Heap.get?_push_of_some _ (Heap.get?_push_of_some _ (Heap.get?_push_size _ rfl))
 have g2:(NA s.heap l1 l2).get? (Pa s.heap l1).objs.size=some _:=Heap.get?_push_of_some _ (Heap.get?_push_of_some _ (Heap.get?_push_of_some _ (Heap.get?_push_size _ rfl)))
 have g1:(NA s.heap l1 l2).get? s.heap.objs.size=some _:=Heap.get?_push_of_some _ (Heap.get?_push_of_some _ (Heap.get?_push_of_some _ (Heap.get?_push_of_some _ (Heap.get?_push_size _ rfl))))
 show _∧_
 rw[z2,z3,z4]at g5
 rw[z1,z2]at g3
 rw[z3]at g4
 rw[z1]at g2
 rw[z4]
 exact⟨⟨_,g5,rfl⟩,h _ g5 g3 g4 ⟨_,g1,rfl,rfl⟩ ⟨_,g2,rfl,rfl⟩ z5 fun c o x=>
  Heap.get?_push_of_some _ (Heap.get?_push_of_some _ (Heap.get?_push_of_some _ (Heap.get?_push_of_some _ (Heap.get?_push_of_some _ x))))⟩
end
def OL (K:PySem.W.Frag)(t l:Addr):It:=
 ⟨fun i H=>∃ xs ys x y,Am K H t xs∧Am K H l ys∧xs[i]?=some x∧ys[i]?=some y,
  fun i H v H'=>∃ x y b,(∀ xs,Am K H t xs→xs[i]?=some x)∧(∀ ys,Am K H l ys→ys[i]?=some y)∧H b=none∧v=.ref b∧H'=upd H b (.tup [x,y]),
  fun i H=>∃ xs ys,Am K H t xs∧Am K H l ys∧(xs.length≤i∨ys.length≤i)⟩
theorem Jx {P:Program}{w:World}{K:PySem.W.Frag}{els:List Expr}{x1}{pt:Pos}(t l z TI TO i1 i2:Addr)(D:ZipApart z TI TO i1 i2 t l):
 IA P w K (.Tuple els x1 pt) (OL K t l) [z,TI,TO,i1,i2] z (fun i h=>IsZip h z TI TO .none∧IsPair h TI (.ref i1) (.ref i2)∧(∃ a b,IsPair h TO a b)∧h.IsTupleIter i1 t i∧h.IsTupleIter i2 l i) where
 mem:=by simp
 obj:=fun i h st b hb=>by
  obtain⟨h1,h2,⟨_,_,h3⟩,⟨o4,h4,_,d4⟩,⟨o5,h5,_,d5⟩⟩:=st
  have hb':b=z∨b=TI∨b=TO∨b=i1∨b=i2:=by simpa using hb
  rcases hb' with rfl | rfl | rfl | rfl | rfl
  ·exact⟨_,h1,fun v z=>by cases z⟩
  ·exact⟨_,h2,fun v z=>by cases z⟩
  ·exact⟨_,h3,fun v z=>by cases z⟩
  ·exact⟨_,h4,fun v z=>by rw[d4]at z;cases z⟩
  ·exact⟨_,h5,fun v z=>by rw[d5]at z;cases z⟩
 keep:=fun i h h' st k=>by
  obtain⟨h1,h2,⟨a,b,h3⟩,h4,h5⟩:=st
  exact⟨k z (by simp) _ h1,k TI (by simp) _ h2,⟨a,b,k TO (by simp) _ h3⟩,h4.at fun o q=>k i1 (by simp) o q,h5.at fun o q=>k i2 (by simp) o q⟩
 item:=by
  intro X hP hw hK hc i pins s σ H E I hf st hg
  subst hP hw hK
  obtain⟨xs,ys,x,y,hqx,hqy,hx,hy⟩:=hg
  obtain⟨hz,hTI,⟨a,b,hTO⟩,h1,h2⟩:=st
  obtain⟨its,rv,p,_⟩:=I.tuple hqx
  obtain⟨its2,rv2,p2,_⟩:=I.tuple hqy
  obtain⟨u,hu,ru⟩:=rv.get hx
  obtain⟨v,hv,rv'⟩:=rv2.get hy
  refine Gi D hz hTI hTO h1 h2 (show s.heap.IsTuple t its.toArray from p) (show s.heap.IsTuple l its2.toArray from p2) (x:=u) (y:=v) (by simpa using hu) (by simpa using hv) fun h1' hz1 hTO1 hi1 hi2 hT1 hsz1 hk1=>⟨_,rfl,?_⟩
  refine wpAny_letOwnedTupleGo_zip (s:={ s with heap:=h1' }) hz1 fun h2' hz2 hs2=>?_
  replace hs2:Heap.SameBut z h1' h2':=hs2
  have zH:z<s.heap.objs.size:=Heap.lt_size hz
  have TOH:TO<s.heap.objs.size:=Heap.lt_size hTO
  have TIH:TI<s.heap.objs.size:=Heap.lt_size hTI
  have i1H:i1<s.heap.objs.size:=by obtain⟨_,q,_⟩:=id h1;exact Heap.lt_size q
  have i2H:i2<s.heap.objs.size:=by obtain⟨_,q,_⟩:=id h2;exact Heap.lt_size q
  have hTI2:IsPair h2' TI (.ref i1) (.ref i2):=hs2.extBut _ _ D.TIz (hk1 _ _ D.TIz D.TITO D.TIi1 D.TIi2 hTI)
  have hTO2:IsPair h2' TO u v:=hs2.extBut _ _ D.TOz hTO1
  have hi12:h2'.IsTupleIter i1 t (i+1):=hi1.extBut hs2.extBut D.i1z
  have hi22:h2'.IsTupleIter i2 l (i+1):=hi2.extBut hs2.extBut D.i2z
  have hT2:IsPair h2' s.heap.objs.size u v:=hs2.extBut _ _ (Nat.ne_of_gt zH) hT1
  obtain⟨o1,ho1,_,hd1⟩:=id hi12
  obtain⟨o2,ho2,_,hd2⟩:=id hi22
  obtain⟨mid,hm1,hm2,hm3⟩:=M4 (h:=s.heap) (h2:=h2') [z,TI,TO,i1,i2] (fun b hb=>by
   have hb':b=z∨b=TI∨b=TO∨b=i1∨b=i2:=by simpa using hb
   rcases hb' with rfl | rfl | rfl | rfl | rfl
   ·exact⟨_,hz⟩
   ·exact⟨_,hTI⟩
   ·exact⟨_,hTO⟩
   ·obtain⟨o,q,_⟩:=id h1;exact⟨o,q⟩
   ·obtain⟨o,q,_⟩:=id h2;exact⟨o,q⟩) (fun b hb=>by
   have hb':b=z∨b=TI∨b=TO∨b=i1∨b=i2:=by simpa using hb
   rcases hb' with rfl | rfl | rfl | rfl | rfl
   ·exact⟨_,hz2,rfl⟩
   ·exact⟨_,hTI2,rfl⟩
   ·exact⟨_,hTO2,rfl⟩
   ·exact⟨_,ho1,Obj.isFreed_of_fields hd1⟩
   ·exact⟨_,ho2,Obj.isFreed_of_fields hd2⟩)
  have I1:AZ X pins σ H { s with heap:=mid }:=I.turnedL (t':=s.toks) (fs:=[z,TI,TO,i1,i2]) (fun b o hb q=>(hm3 b hb).trans q) hf
  have k2:∀ b o,mid.get? b=some o→h2'.get? b=some o:=fun b o q=>by
   by_cases c:b∈[z,TI,TO,i1,i2]
   ·exact(hm2 b c).symm.trans q
   ·rw[hm3 b c]at q
    have c':b≠z∧b≠TI∧b≠TO∧b≠i1∧b≠i2:=by simpa using c
    exact hs2.extBut _ _ c'.1 (hk1 _ _ c'.1 c'.2.2.1 c'.2.2.2.1 c'.2.2.2.2 q)
  have fz:mid.objs.size≤s.heap.objs.size:=by rw[hm1];exact Nat.le_refl _
  have I3:AZ X pins σ (upd H s.heap.objs.size (.tup [x,y])) { s with heap:=h2' }:=
   I1.laid (t':=s.toks) k2 fz (show A7 X.prog X.w _ h2' _ (.tup [x,y])from⟨by show 2≤sizeLine;rw[sizeLine_eq];decide,[u,v],.cons ru (.cons rv' .nil),⟨_,hT2,rfl,_,rfl⟩⟩)
  refine⟨.ref s.heap.objs.size,_,I3,rfl,⟨x,y,s.heap.objs.size,(fun zs hz=>by rw[I.tuple_inj hz hqx];exact hx),(fun zs hz=>by rw[I.tuple_inj hz hqy];exact hy),I.hok.fresh (Nat.le_refl _),rfl,rfl⟩,⟨hz2,hTI2,⟨_,_,hTO2⟩,hi12,hi22⟩,fun b hb=>?_⟩
  have lt:b<s.heap.objs.size:=by
   have hb':b=z∨b=TI∨b=TO∨b=i1∨b=i2:=by simpa using hb
   rcases hb' with rfl | rfl | rfl | rfl | rfl <;> assumption
  rw[AT (Nat.ne_of_lt lt)]
  exact(hf b hb).1
 done:=by
  intro X hP hw hK hc i pins s σ H E I hf st hg
  subst hP hw hK
  obtain⟨xs,ys,hqx,hqy,hx⟩:=hg
  obtain⟨hz,hTI,⟨a,b,hTO⟩,h1,h2⟩:=st
  obtain⟨its,rv,p,_⟩:=I.tuple hqx
  obtain⟨its2,rv2,p2,_⟩:=I.tuple hqy
  have l1:=rv.length
  have l2:=rv2.length
  refine Hb (I.ok.hd hc) D hz hTI hTO h1 h2 (show s.heap.IsTuple t its.toArray from p) (show s.heap.IsTuple l its2.toArray from p2) (hx.imp (fun q=>by simp;omega) (fun q=>by simp;omega)) fun h' hk=>⟨rfl,?_⟩
  refine I.turnedL (t':=s.toks) (fs:=[z,TI,TO,i1,i2]) (fun b o hb q=>?_) hf
  have c':b≠z∧b≠TI∧b≠TO∧b≠i1∧b≠i2:=by simpa using hb
  exact hk _ _ c'.1 c'.2.2.1 c'.2.2.2.1 c'.2.2.2.2 q
 self:=fun _ _ _ _ _ st h=>wpAny_pyIter_zip st.1 h
section
variable {X:Cx}
def OM (K:PySem.W.Frag)(ta:TA):TI:=fun σ H R=>ta σ H fun vs H1=>∃ t l,vs=[V.ref t,V.ref l]∧(∃ xs,Am K H1 t xs)∧(∃ ys,Am K H1 l ys)∧R (OL K t l) H1
theorem JP {a c:Expr}{ta:TA}{p pos pt:Pos}{els:List Expr}{x1}(hg:Gl X "zip")(hm:X.mg "zip"=none)(hv:bootBuiltins "zip"=some (.type "zip"))(ha:PA X [a,c] ta)(hs:starEach [a,c] X.env=(false,eval a X.env)::starEach [c] X.env:=by rfl)(hs2:(backTo pos (starEach [c] X.env)).any (·.1)=false:=by rfl):
 PI X (.Tuple els x1 pt) (.Call (.Name "zip" p) [a,c] [] pos) (OM X.K ta):=by
 intro pins s σ H R I h
 refine Call_ (DA I hg hm hv (PyProof.Rows.callWith_type1 (BJ (ha pos pins s σ H _ I h) fun us s1 zq=>?_) hs hs2))
 obtain⟨vs,H1,I1,r1,q1⟩:=zq
 obtain⟨t,l,e,⟨xs,hqx⟩,⟨ys,hqy⟩,q⟩:=q1
 subst e
 obtain⟨u,v,rfl,ru,rv⟩:=Ag.two r1
 cases ru
 cases rv
 obtain⟨its,rv,pt',_⟩:=I1.tuple hqx
 obtain⟨its2,rv2,pl,_⟩:=I1.tuple hqy
 have tl:t<s1.heap.objs.size:=by obtain⟨o,q,_⟩:=(show s1.heap.IsTuple t its.toArray from pt');exact Heap.lt_size q
 have ll:l<s1.heap.objs.size:=by obtain⟨o,q,_⟩:=(show s1.heap.IsTuple l its2.toArray from pl);exact Heap.lt_size q
 refine Jw (show s1.heap.IsTuple t its.toArray from pt') (show s1.heap.IsTuple l its2.toArray from pl) fun h' hz hTI hTO hi1 hi2 hsz kp=>wpAny_pyIter_zip (s:={ s1 with heap:=h' }) hz ?_
 have I2:AZ X pins σ H1 { s1 with heap:=h' }:=I1.kept (t':=s1.toks) kp
 generalize hn:s1.heap.objs.size=n at *
 have ge:∀ b∈[n+4,n+2,n+3,n,n+1],n≤b:=fun b hb=>by
  have hb':b=n+4∨b=n+2∨b=n+3∨b=n∨b=n+1:=by simpa using hb
  rcases hb' with rfl | rfl | rfl | rfl | rfl
  ·exact Nat.le_add_right _ _
  ·exact Nat.le_add_right _ _
  ·exact Nat.le_add_right _ _
  ·exact Nat.le_refl _
  ·exact Nat.le_add_right _ _
 have D:ZipApart (n+4) (n+2) (n+3) n (n+1) t l:=by
  have a1:t<n+4:=Nat.lt_of_lt_of_le tl (Nat.le_add_right _ _)
  have a2:l<n+4:=Nat.lt_of_lt_of_le ll (Nat.le_add_right _ _)
  have b1:t<n+3:=Nat.lt_of_lt_of_le tl (Nat.le_add_right _ _)
  have b2:l<n+3:=Nat.lt_of_lt_of_le ll (Nat.le_add_right _ _)
  have c1:t<n+1:=Nat.lt_of_lt_of_le tl (Nat.le_add_right _ _)
  have c2:l<n+1:=Nat.lt_of_lt_of_le ll (Nat.le_add_right _ _)
  have nn:∀{i j:Nat},i≠j→(n+i:Nat)≠n+j:=fun h z=>h (Nat.add_left_cancel z)
  exact⟨nn (by decide),nn (by decide),nn (i:=0) (by decide),nn (by decide),nn (by decide),nn (j:=0) (by decide),nn (by decide),nn (j:=0) (by decide),nn (by decide),nn (i:=0) (by decide),
   Nat.ne_of_lt a1,Nat.ne_of_lt b1,Nat.ne_of_lt tl,Nat.ne_of_lt c1,Nat.ne_of_lt a2,Nat.ne_of_lt b2,Nat.ne_of_lt ll,Nat.ne_of_lt c2⟩
 exact⟨n+4,_,_,_,H1,rfl,I2,Jx t l _ _ _ _ _ D,⟨hz,hTI,⟨_,_,hTO⟩,hi1,hi2⟩,fun b hb=>I1.fpOk (by rw[hn];exact ge b hb) (I1.hok.fresh (by rw[hn];exact ge b hb)),q⟩
end
end L2
namespace L2
open PySem PySem.Spec PyProof.Rows PySem.W
section
variable {prog:Program}{w:World}{A:Around}{E:Value→Shared→Prop}{s:Shared}
def seen (val:Nat→Str)(i:Nat):Str→Bool:=fun z=>(List.range i).any fun j=>decide (z=val j)
theorem Jy (val:Nat→Str)(i:Nat):(fun k'=>seen val i k'||decide (k'=val i))=seen val (i+1):=by
 funext z
 unfold seen
 rw[List.range_succ,List.any_append]
 simp
theorem Le {val:Nat→Str}{i:Nat}(h:∀ j,j<i→val j≠val i):seen val i (val i)=false:=by
 unfold seen
 rw[List.any_eq_false]
 intro j hj
 have:=h j (List.mem_range.mp hj)
 simp only[decide_eq_true_eq]
 exact fun e=>this e.symm
theorem FQ {wr:List Addr}{S:Addr}{G:Array GenState→Array GenState→Prop}(gt:∀ a b c,G a b→G b c→G a c){s s' s'':Shared}(a:Moved (S::wr) G s s')(b:Moved (S::wr) G s' s''):Moved (S::wr) G s s'':=
 ⟨fun c o h e=>b.heap c o h (a.heap c o h e),gt _ _ _ a.gens b.gens,b.drawn.trans a.drawn,b.os.trans a.os,Nat.le_trans a.toks b.toks⟩
theorem MM {wr:List Addr}{S:Addr}{G:Array GenState→Array GenState→Prop}{s s':Shared}(a:Moved wr G s s'):Moved (S::wr) G s s':=⟨fun b o h e=>a.heap b o (fun q=>h (List.mem_cons_of_mem _ q)) e,a.gens,a.drawn,a.os,a.toks⟩
theorem Hc {K:Type}[DecidableEq K]{knd:KeyKind prog w K}{h h':Heap}{a:Addr}{S:K→Bool}{n:Nat}(x:Heap.SetOf knd h a S n)(k:∀ o,h.get? a=some o→h'.get? a=some o):Heap.SetOf knd h' a S n:=by
 obtain⟨o,es,ep,t,e,r⟩:=x
 exact⟨o,es,ep,t,k o e,r⟩
theorem Ib (z:Str)(t:Tok):(strKind prog w).is z (.str z t)=true:=by
 show Value.isStrOf z (.str z t)=true
 simp[Value.isStrOf]
theorem Km {R:Result→Shared→Prop}{I:Addr}{fp wr:List Addr}{G:Array GenState→Array GenState→Prop}{n:Nat}{P:Nat→Value→Prop}{St:Nat→Shared→Prop}
 (W:WalksS prog w A.in1 I fp wr G n P St) (S:Addr) (hS:S∉fp) (val:Nat→Str) (hv:∀ i v,P i v→∃ t,v=.str (val i) t) (hn:n+1<scanBound) (hd:∀ i j,i<j→j<n→val i≠val j):
 ∀(k i:Nat) (s:Shared),n-i=k→i≤n→St i s→Heap.SetOf (strKind prog w) s.heap S (seen val i) i→(∀ s',Moved (S::wr) G s s'→Heap.SetOf (strKind prog w) s'.heap S (seen val n) n→R (.ok (.ret .none)) s')→
 codeAny (model prog w) A (.builtin "set.update.loop" ⟨[.ref S,.ref I],[]⟩) R s:=by
 intro k
 induction k with
 | zero=>
  intro i s hk hi hst hso hR
  have e:i=n:=by omega
  subst e
  refine codeAny_builtin F.entry_set_update_loop ?_
  refine wpAny_bind (W.done s _ _ hst fun s' hm=>?_)
  exact wpAny_pure (hR s' (MM hm) (Hc hso fun o e=>hm.heap S o (fun h=>hS (W.sub S h)) e))
 | succ k ih=>
  intro i s hk hi hst hso hR
  have hlt:i<n:=by omega
  refine codeAny_builtin F.entry_set_update_loop ?_
  refine wpAny_bind (W.item i s _ _ hlt hst fun v s' hp hst' hm=>?_)
  obtain⟨t,rfl⟩:=hv i v hp
  have hso':=Hc hso fun o e=>hm.heap S o (fun h=>hS (W.sub S h)) e
  have is:(strKind prog w).is (val i) (.str (val i) t)=true:=Ib _ _
  refine wpAny_bind (wpAny_holding ?_)
  unfold setAdd
  refine wpAny_holding (wpAny_bind ((strKind prog w).pyHash is ?_))
  refine wpAny_setAddHashed_of is rfl hso' (by omega) fun h' hsb hso2=>?_
  rw[Jy,Le (fun j hj=>hd j i hj hlt),if_neg (by decide)]at hso2
  have mv:Moved (S::wr) G s' { s' with heap:=h',toks:=s'.toks+1 }:=⟨fun b o hb e=>by rw[hsb.2 b (fun q=>hb (by rw[q];simp))];exact e,W.grefl _,rfl,rfl,Nat.le_succ _⟩
  refine wpAny_pure ⟨plainId_quiet F.plain_set_update_loop _,ih (i+1) _ (by omega) (by omega) ?_ hso2 fun s2 hm2 hso3=>hR s2 (FQ W.gtrans (MM hm) (FQ W.gtrans mv hm2)) hso3⟩
  exact W.frame (i+1) s' h' _ hst' (Nat.le_succ _) fun b hb o e=>by rw[hsb.2 b (fun q=>hS (q▸hb))];exact e
theorem F8 {R:Result→Shared→Prop}{l S:Addr}{items:Array Value}{led:Bool}(hh:A.handled=none)(hl:s.heap.IsList l items)(hS:s.heap.get? S=some { cls:=.type "set",data:=.set #[] 0 (SetTable.fresh 0 0 led) })(hSl:S≠l)
 (val:Nat→Str) (hv:∀(i:Nat) (v:Value),items[i]?=some v→∃ t,v=Value.str (val i) t) (hn:items.size+1<scanBound) (hd:∀ i j,i<j→j<items.size→val i≠val j)
 (hR:∀ h' tk,(∀ b o,b≠S→s.heap.get? b=some o→h'.get? b=some o)→Heap.SetOf (strKind prog w) h' S (seen val items.size) items.size→R (.ok (.ret .none)) { s with heap:=h',toks:=tk }):
 wpAny (model prog w) A.in1 (Builtin.«set.__init__» ⟨[.ref S,.ref l],[]⟩)
  (fun fin s'=>match fin with | .done f=>R (.ok f) s' | .again c'=>c'.quiet=true∧codeAny (model prog w) A c' R s') (fun e s'=>R (.error e) s') s:=by
 have ty:s.TypeIs (.ref S) "set":=⟨_,hS,rfl⟩
 have tl:s.TypeIs (.ref l) "list":=hl.typeIs
 unfold Builtin.«set.__init__»
 refine wpAny_bind (show wpAny _ _ (pure ()) _ _ s from wpAny_pure ?_)
 dsimp only
 refine wpAny_bind ?_
 unfold typeNameOfCut shownTypeOf
 refine wpAny_bind (wpAny_bind (wpAny_typeOf ty ?_))
 rw[if_neg (by decide)]
 refine wpAny_pure (show wpAny _ _ (pure _) _ _ s from wpAny_pure ?_)
 refine wpAny_bind (show wpAny _ _ (pure ()) _ _ s from wpAny_pure ?_)
 refine wpAny_bind (show wpAny _ _ (pure S) _ _ s from wpAny_pure ?_)
 unfold setUsed
 refine wpAny_bind (wpAny_bind (wpAny_setState_of hS rfl rfl (wpAny_pure ?_)))
 rw[if_neg (show ¬ ((#[],0,SetTable.fresh 0 0 led).snd.snd.fill != 0)=true from(by intro h;cases h))]
 refine wpAny_bind ?_
 unfold Builtin.Frozenset.updateFrom Builtin.Frozenset.isAnySet
 refine wpAny_bind ?_
 refine wpAny_bind (wpAny_isInstance (b:=false) tl (by rw[isSubtype_type];kernel_rfl) ?_)
 refine(show wpAny _ _ (isInstance (.ref l) (.type "frozenset")) _ _ s from ?_)
 refine wpAny_isInstance (b:=false) tl (by rw[isSubtype_type];kernel_rfl) ?_
 rw[if_neg (by decide)]
 refine wpAny_bind (wpAny_typeOf tl ?_)
 rw[if_neg (by decide)]
 have hne:l≠s.heap.objs.size:=by obtain⟨o,q,_⟩:=hl;exact Nat.ne_of_lt (Heap.lt_size q)
 have hSn:S≠s.heap.objs.size:=Nat.ne_of_lt (Heap.lt_size hS)
 have W:=(Walks.list (prog:=prog) (w:=w) (A:=A.in1.in1) hh s.heap.objs.size l hne items).toS
 have hSf:S∉[s.heap.objs.size,l]:=fun hm=>by
  rcases List.mem_cons.mp hm with e | hm
  ·exact hSn e
  ·exact hSl (List.mem_singleton.mp hm)
 refine wpAny_bind (wpAny_pyIter_list hl ?_)
 refine wpAny_bind (wpAny_runValue ?_)
 refine Km W S hSf val hv hn hd items.size 0 _ rfl (Nat.zero_le _) ⟨⟨_,Heap.get?_push_size _ rfl,rfl,rfl⟩,hl.at fun o e=>Heap.get?_push_of_some _ e⟩ ⟨_,_,_,_,Heap.get?_push_of_some _ hS,⟨rfl,rfl,rfl⟩,rfl,(fun e he=>by cases he),(fun k=>⟨fun z=>(by cases z),fun⟨e,he,_⟩=>(by cases he)⟩),(by show 0<4096;decide),rfl,rfl⟩ fun s' hm hso=>?_
 refine wpAny_pure (show wpAny _ _ (pure _) _ _ _ from wpAny_pure ?_)
 rw[Moved.eq_with hm]
 refine hR s'.heap s'.toks (fun b o hb e=>hm.heap b o (fun hmem=>?_) (Heap.get?_push_of_some _ e)) hso
 rcases List.mem_cons.mp hmem with e' | hmem
 ·exact hb e'
 ·have:=List.mem_singleton.mp hmem
  rw[this]at e
  exact absurd (Heap.lt_size e) (Nat.lt_irrefl _)
theorem F9 {R:Result→Shared→Prop}{l S:Addr}{items:Array Value}{led:Bool}(hh:A.handled=none)(hl:s.heap.IsList l items)(hS:s.heap.get? S=some { cls:=.type "set",data:=.set #[] 0 (SetTable.fresh 0 0 led) })(hSl:S≠l)
 (val:Nat→Str) (hv:∀(i:Nat) (v:Value),items[i]?=some v→∃ t,v=Value.str (val i) t) (hn:items.size+1<scanBound) (hd:∀ i j,i<j→j<items.size→val i≠val j)
 (hR:∀ h' tk,(∀ b o,b≠S→s.heap.get? b=some o→h'.get? b=some o)→Heap.SetOf (strKind prog w) h' S (seen val items.size) items.size→R (.ok (.ret .none)) { s with heap:=h',toks:=tk }):
 codeAny (model prog w) A (.call (.builtin "set.__init__") ⟨[.ref S,.ref l],[]⟩) R s:=
 codeAny_call_builtin F.called_set.init.plain F.entry_set_init (check_set_init_1 ⟨_,hS,rfl⟩ (F8 hh hl hS hSl val hv hn hd hR))
theorem GA {Q:Value→Shared→Prop}{l:Addr}{items:Array Value}(hh:A.handled=none)(hl:s.heap.IsList l items)(val:Nat→Str)(hv:∀(i:Nat) (v:Value),items[i]?=some v→∃ t,v=Value.str (val i) t)(hn:items.size+1<scanBound)(hd:∀ i j,i<j→j<items.size→val i≠val j)
 (hQ:∀ h' tk,(∀ b o,s.heap.get? b=some o→h'.get? b=some o)→Heap.SetOf (strKind prog w) h' s.heap.objs.size (seen val items.size) items.size→Q (.ref s.heap.objs.size) { s with heap:=h',toks:=tk }):
 wpAny (model prog w) A (call (.type "set") [.ref l]) Q E s:=by
 obtain⟨c,tl,hmro⟩:=F.called_set.mro
 refine wpAny_call (codeAny_of_tree (wpAny_pure ⟨Code.quiet_builtin _ (by nofun),codeAny_builtin F.entry_type_call ?_⟩))
 rw[Around.under_plain (weight_type_call_type "set" [.ref l] []) rfl]
 unfold Builtin.«type.__call__»
 dsimp only
 refine wpAny_ite_split (fun h=>absurd h (by decide)) fun _=>?_
 refine wpAny_ite_split (fun h=>absurd h (by nofun)) fun _=>?_
 refine wpAny_bind (wpAny_of_eq (F.typeCall_set_1 _) ?_)
 refine wpAny_bind (wpAny_of_eq hmro ?_)
 refine wpAny_ite_split (fun h=>absurd h (by simp)) fun _=>?_
 refine wpAny_bind (wpAny_of_eq F.called_set.made ?_)
 refine wpAny_bind (wpAny_pure ?_)
 refine wpAny_bind (wpAny_holding (wpAny_call ?_))
 refine codeAny_mono (code_set_new_1 (E:=E) (.ref l) (Q₁:=fun obj s₁=>∃ led,obj=.ref s.heap.objs.size∧s₁={ s with heap:=s.heap.push { cls:=.type "set",data:=.set #[] 0 (SetTable.fresh 0 0 led) } }) fun led=>⟨led,rfl,rfl⟩) fun r s₁ h=>?_
 cases r with
 | error e=>exact h
 | ok fl=>
  cases fl with
  | ret v=>
   obtain⟨led,rfl,rfl⟩:=h
   have hS:(s.heap.push { cls:=.type "set",data:=.set #[] 0 (SetTable.fresh 0 0 led) }).get? s.heap.objs.size=some { cls:=.type "set",data:=.set #[] 0 (SetTable.fresh 0 0 led) }:=Heap.get?_push_size _ rfl
   have ty:Shared.TypeIs { s with heap:=s.heap.push { cls:=.type "set",data:=.set #[] 0 (SetTable.fresh 0 0 led) } } (.ref s.heap.objs.size) "set":=⟨_,hS,rfl⟩
   have i2:s.heap.objs.size≠l:=by obtain⟨o,q,_⟩:=hl;exact Nat.ne_of_gt (Heap.lt_size q)
   show wpAny _ _ _ _ _ _
   refine wpAny_bind (wpAny_isInstance ty F.called_set.sub ?_)
   refine wpAny_ite_split (fun h=>absurd h (by decide)) fun _=>?_
   refine wpAny_bind (wpAny_holding ?_)
   unfold callSpecial?
   refine wpAny_bind (wpAny_specialOf ty F.called_set.init.lookup ?_)
   refine wpAny_holding (wpAny_bind (wpAny_of_eq (F.called_set.init.bind _) ?_))
   refine wpAny_bind (wpAny_call (F9 (A:=A.in1) (s:={ s with heap:=s.heap.push { cls:=.type "set",data:=.set #[] 0 (SetTable.fresh 0 0 led) } }) hh (hl.at fun o e=>Heap.get?_push_of_some _ e) hS i2 val hv hn hd fun h' tk hk hso=>?_))
   refine wpAny_pure (wpAny_ite_split (fun h=>absurd h (by decide)) fun _=>?_)
   exact wpAny_pure (hQ h' tk (fun b o e=>hk b o (Nat.ne_of_lt (Heap.lt_size e)) (Heap.get?_push_of_some _ e)) hso)
  | next=>cases h
  | brk=>cases h
  | cont=>cases h
end
theorem GS:∀{zs:List Str} {its:List Value},Ag (zs.map V.str) its→∀(i:Nat) (v:Value),its[i]?=some v→∃ t,v=Value.str (zs.getD i (Str.ofString "")) t
 | [],_,.nil,i,v,h=>by cases h
 | z::zs,_,.cons r t,0,v,h=>by
  cases h
  exact r
 | z::zs,_,.cons r t,i+1,v,h=>GS t i v h
section
variable {X:Cx}
def Lg (K:PySem.W.Frag)(te:TE):TE:=fun σ H Q=>te σ H fun x H1=>∃(a:Addr) (zs:List Str),x=.ref a∧Aq K H1 a (zs.map V.str)∧zs.length≤1000∧zs.Nodup∧Q (.int zs.length) H1
theorem NB:bootBuiltins "set"=some (.type "set"):=by nofun
theorem GT {e:Expr}{te:TE}{p p2 pos Ll:Pos}(hc:X.calm=true)(hg:Gl X "len")(hm:X.mg "len"=none)(hv:bootBuiltins "len"=some (.builtin "len"))(hg2:Gl X "set")(hm2:X.mg "set"=none)(he:PE X e te)
 (hs:starEach [e] X.env=(false,eval e X.env)::starEach [] X.env:=by rfl):
 PE X (.Call (.Name "len" p) [.Call (.Name "set" p2) [e] [] Ll] [] pos) (Lg X.K te):=by
 intro pins s σ H Q I h
 refine wpAny_Call_Name_kw (DA I hg hm hv ?_)
 refine PyProof.Rows.callWith_builtin1 ?_ rfl rfl
 show wpAny _ _ (spliced ((false,eval (.Call (.Name "set" p2) [e] [] Ll) X.env)::backTo pos (starEach [] X.env))) _ _ s
 refine Calls.spliced_cons ?_
 refine wpAny_Call_Name_kw (DA I hg2 hm2 NB ?_)
 refine PyProof.Rows.callWith_type1 ?_ hs rfl
 rw[hs]
 show wpAny _ _ (spliced ((false,eval e X.env)::backTo Ll (starEach [] X.env))) _ _ s
 refine Calls.spliced_cons (BJ (he pins s σ H _ I h) fun u s1 ⟨x,H1,I1,r1,q1⟩=>Calls.spliced_nil ?_)
 obtain⟨a,zs,rfl,hq,hz,nd,q⟩:=q1
 cases r1
 obtain⟨its,rv,pl,_⟩:=I1.list hq
 have hlen:=rv.length
 rw[List.length_map]at hlen
 refine GA (items:=its.toArray) (I.ok.hd hc) pl.isList (fun i=>zs.getD i (Str.ofString "")) (fun i v hv=>?_) (by rw[List.size_toArray,← hlen];show zs.length+1<4096;omega) (fun i j hij hj=>?_) fun h' tk hk hso=>?_
 ·exact GS rv i v (by rw[← List.getElem?_toArray];exact hv)
 ·rw[List.size_toArray,← hlen]at hj
  have hi:=Nat.lt_trans hij hj
  rw[List.getD_eq_getElem?_getD,List.getD_eq_getElem?_getD,List.getElem?_eq_getElem hi,List.getElem?_eq_getElem hj]
  exact List.pairwise_iff_getElem.mp nd i j hi hj hij
 obtain⟨o,es,ep,t,e1,e2,e3,_,_,e6,e7,e8⟩:=hso
 have e8:es.size=zs.length:=e8.trans (by rw[List.size_toArray,← hlen])
 refine Calls.spliced_nil (call_len_set e1 e2 e3 e7 (by rw[e8];omega) ?_)
 have I2:AZ X pins σ H1 { s1 with heap:=h',toks:=tk }:=I1.kept (t':=tk) fun b o e=>hk b o e
 exact⟨.int zs.length,H1,I2.tok _,⟨_,by rw[e8]⟩,q⟩
def ON:List V→Hp→VK→Prop:=fun xs H Q=>∃(a p:Addr) (ys:List V),xs=[.ref a,.ref p]∧H a=some (.lst ys)∧H p=some (.tup [.ty "list",.ty "tuple"])∧Q (.bl true) H
theorem GB:CU X (.builtin "isinstance") ON:=by
 intro pins s σ H xs us Q I r h
 obtain⟨a,p,ys,rfl,ha,hp,q⟩:=h
 obtain⟨u,w',rfl,r1,r2⟩:=KE r
 cases r1
 cases r2
 obtain⟨_,_,n,_,h1⟩:=(show A7 X.prog X.w H s.heap a (.lst ys)from I.hok a _ ha)
 obtain⟨_,its,rv',ob,ho,hcl,n,hd⟩:=I.hok p _ hp
 have e:its=[.type "list",.type "tuple"]:=by
  cases rv' with
  | cons r t=>
   cases r
   cases t with
   | cons r t=>
    cases r
    cases t
    rfl
 subst e
 obtain⟨oc,od,oda,osl⟩:=ob
 dsimp only at hcl hd
 subst hcl hd
 exact PySem.W.kia_tup PySem.W.kitx_list I.kIn ⟨_,h1,rfl⟩ ho (by unfold PySem.W.kitAny;simp[PySem.W.kitOne]) (fun z=>nomatch z) fun tk=>⟨.bl true,H,I.tok tk,rfl,q⟩
end
section
variable {P:Program}{w:World}{A:Around}{E:Value→Shared→Prop}{s:Shared}
theorem Ic {D f:Addr}{n:Nat}{R:PySem.Fin→Shared→Prop}(ho:s.heap.get? D=some (seqObj "list" #[] n))(h:∀ h',(∀ b o,b≠D→s.heap.get? b=some o→h'.get? b=some o)→(∃ c,h'.get? D=some (seqObj "list" #[] c))→R (.done (.ret .none)) { s with heap:=h' }):
 wpAny (model P w) A (Builtin.«list.sort» ⟨[.ref D],[("key",.ref f)]⟩) R E s:=by
 rw[show Builtin.«list.sort» ⟨[.ref D],[("key",.ref f)]⟩=ksk_tree D (.ref f) false from by ksk_a3]
 unfold ksk_tree
 refine wpAny_bind (listItems_at ho rfl (wpAny_bind (listUpdate_at ho rfl ?_ (Nat.zero_le _) (Nat.zero_le _))))
 obtain⟨e1,ho1⟩:∃ e1,(s.heap.update D (Obj.mapSeq fun _=>#[])).get? D=some (seqObj "list" #[] e1):=⟨_,get?_update_seq ho _⟩
 refine wpAny_bind (seqEpoch_at ho1 rfl (wpAny_bind (wpAny_newTuple (wpAny_bind (wpAny_newList (wpAny_holding ?_) (Nat.zero_le _))) (Nat.zero_le _))))
 show wpAny (model P w) A (ksk_rest D (.ref f) false #[] e1 (.ref ((s.heap.update D (Obj.mapSeq fun _=>#[])).push (seqObj "tuple" #[] 0)).objs.size)) R E { s with heap:=((s.heap.update D (Obj.mapSeq fun _=>#[])).push (seqObj "tuple" #[] 0)).push (seqObj "list" #[] 0) }
 have hk:∀ b o,b≠D→s.heap.get? b=some o→(((s.heap.update D (Obj.mapSeq fun _=>#[])).push (seqObj "tuple" #[] 0)).push (seqObj "list" #[] 0)).get? b=some o:=fun b o hb e=>
  Heap.get?_push_of_some _ (Heap.get?_push_of_some _ ((Heap.get?_update_ne _ _ _ _ hb).trans e))
 have ho6:(((s.heap.update D (Obj.mapSeq fun _=>#[])).push (seqObj "tuple" #[] 0)).push (seqObj "list" #[] 0)).get? D=some (seqObj "list" #[] e1):=Heap.get?_push_of_some _ (Heap.get?_push_of_some _ ho1)
 have hks:(((s.heap.update D (Obj.mapSeq fun _=>#[])).push (seqObj "tuple" #[] 0)).push (seqObj "list" #[] 0)).get? ((s.heap.update D (Obj.mapSeq fun _=>#[])).push (seqObj "tuple" #[] 0)).objs.size=some (seqObj "list" #[] 0):=Heap.get?_push_size _ rfl
 have hDk:D<((s.heap.update D (Obj.mapSeq fun _=>#[])).push (seqObj "tuple" #[] 0)).objs.size:=by rw[size_push',Heap.size_update];exact Nat.lt_succ_of_lt (Heap.lt_size ho)
 have hsz:s.heap.objs.size<((s.heap.update D (Obj.mapSeq fun _=>#[])).push (seqObj "tuple" #[] 0)).objs.size:=by rw[size_push',Heap.size_update];exact Nat.lt_succ_self _
 generalize ((s.heap.update D (Obj.mapSeq fun _=>#[])).push (seqObj "tuple" #[] 0)).objs.size=kS at *
 generalize ((s.heap.update D (Obj.mapSeq fun _=>#[])).push (seqObj "tuple" #[] 0)).push (seqObj "list" #[] 0)=hh at *
 unfold ksk_rest
 refine wpAny_bind (wpAny_rule ?_)
 refine wpAny_bind (show wpAny _ _ (pure PUnit.unit) _ _ _ from wpAny_pure ?_)
 refine wpAny_bind (listItems_at (s:={ s with heap:=hh }) hks rfl ?_)
 unfold ksk_end
 dsimp only
 rw[if_neg (by decide),if_pos (by decide)]
 refine wpAny_bind (wpAny_pure ?_)
 rw[if_pos (by decide),StateT.run_pure]
 refine wpAny_bind (wpAny_pure ?_)
 dsimp only
 unfold ksk_tail
 have ea:(arrOf (SortSt.mk' general' ((#[]:Array Value).zip (#[]:Array Value)) #[] 7 none)).map (fun x=>x.snd)=#[]:=by
  show((#[]:Array Value).zip #[]).map (·.2)=#[]
  simp
 simp only[Bool.false_eq_true,if_false,ea]
 have hne:D≠kS:=Nat.ne_of_lt hDk
 refine wpAny_bind (listUpdate_at (s:={ s with heap:=hh }) hks rfl ?_ (Nat.zero_le _) (Nat.zero_le _))
 have ho7:(hh.update kS (Obj.mapSeq fun _=>#[])).get? D=some (seqObj "list" #[] e1):=(Heap.get?_update_ne _ _ _ _ hne).trans ho6
 refine wpAny_bind (wpAny_letGo ?_)
 refine wpAny_bind (seqEpoch_at (s:={ s with heap:=hh.update kS (Obj.mapSeq fun _=>#[]) }) ho7 rfl ?_)
 refine wpAny_bind (listUpdate_at (s:={ s with heap:=hh.update kS (Obj.mapSeq fun _=>#[]) }) ho7 rfl ?_ (Nat.zero_le _) (Nat.zero_le _))
 show wpAny _ _ (if(e1 != e1)=true then _ else ret .none) _ _ _
 rw[if_neg (by simp)]
 refine wpAny_pure (h _ (fun b o hb e=>?_) ⟨_,get?_update_seq ho7 _⟩)
 have hb2:b≠kS:=Nat.ne_of_lt (Nat.lt_trans (Heap.lt_size e) hsz)
 exact(Heap.get?_update_ne _ _ _ _ hb).trans ((Heap.get?_update_ne _ _ _ _ hb2).trans (hk b o hb e))
theorem Gj {l f:Addr}{Q:Value→Shared→Prop}(hl:s.heap.IsList l #[])(h:∀ h' c,(∀ b o,s.heap.get? b=some o→h'.get? b=some o)→h'.get? (s.heap.objs.size+1)=some (seqObj "list" #[] c)→Q (.ref (s.heap.objs.size+1)) { s with heap:=h' }):
 wpAny (model P w) A (call (.builtin "sorted") [.ref l] [("key",.ref f)]) Q E s:=by
 refine call_function_entry_kw kind_sorted plain_sorted entry_sorted (by ksk_a1) ?_
 unfold Builtin.«sorted»
 refine wpAny_bind (m:=checkCount "sorted" 1 1 _) (wpAny_pure (wpAny_bind (collect_list (vs:=[]) hl (wpAny_bind (wpAny_newList ?_ (Nat.zero_le _))) (Nat.zero_le _))))
 have hz:((s.heap.push (seqObj "list" #[] 0)).update s.heap.objs.size (Obj.mapSeq (·++([]:List Value).toArray))).objs.size=s.heap.objs.size+1:=by rw[Heap.size_update,size_push']
 show wpAny (model P w) _ _ _ _ { s with heap:=((s.heap.push (seqObj "list" #[] 0)).update s.heap.objs.size (Obj.mapSeq (·++([]:List Value).toArray))).push (seqObj "list" #[] 0) }
 rw[hz]
 have hn:(((s.heap.push (seqObj "list" #[] 0)).update s.heap.objs.size (Obj.mapSeq (·++([]:List Value).toArray))).push (seqObj "list" #[] 0)).get? (s.heap.objs.size+1)=some (seqObj "list" #[] 0):=by
  rw[← hz];exact Heap.get?_push_size _ rfl
 have kp:∀ b o,s.heap.get? b=some o→(((s.heap.push (seqObj "list" #[] 0)).update s.heap.objs.size (Obj.mapSeq (·++([]:List Value).toArray))).push (seqObj "list" #[] 0)).get? b=some o:=fun b o e=>
  Heap.get?_push_of_some _ ((Heap.get?_update_ne _ _ _ _ (Nat.ne_of_lt (Heap.lt_size e))).trans (Heap.get?_push_of_some _ e))
 generalize ((s.heap.push (seqObj "list" #[] 0)).update s.heap.objs.size (Obj.mapSeq (·++([]:List Value).toArray))).push (seqObj "list" #[] 0)=hh at *
 refine wpAny_bind (wpAny_holding (wpAny_call_entry_kw (s:={ s with heap:=hh }) slot_list_sort ⟨_,hn,rfl⟩ entry_list_sort (Ic (s:={ s with heap:=hh }) hn fun h' hk ⟨c,hc⟩=>⟨_,rfl,wpAny_pure ⟨_,rfl,h h' c (fun b o e=>hk b o (Nat.ne_of_lt (Nat.lt_succ_of_lt (Heap.lt_size e))) (kp b o e)) hc⟩⟩) (by ksk_a2)))
end
section
variable {X:Cx}
def NC (te tl:TE):TE:=fun σ H Q=>te σ H fun x H1=>tl σ H1 fun f H2=>∃ a fa,x=.ref a∧f=.ref fa∧H2 a=some (.lst [])∧∀ l,H2 l=none→Q (.ref l) (upd H2 l (.lst []))
theorem Kn {e lam:Expr}{te tl:TE}{p pos kp:Pos}(hg:Gl X "sorted")(hm:X.mg "sorted"=none)(he:PE X e te)(hl:PE X lam tl)
 (hs:starEach [e] X.env=(false,eval e X.env)::starEach [] X.env:=by rfl) (hk:keywordEach [⟨some "key",lam,kp⟩] X.env=[(some (Str.ofString "key"),eval lam X.env)]:=by rfl):
 PE X (.Call (.Name "sorted" p) [e] [⟨some "key",lam,kp⟩] pos) (NC te tl):=by
 intro pins s σ H Q I h
 refine wpAny_Call_Name_kw (DA I hg hm Jq ?_)
 refine callWith_kw ?_ (by rw[hs];rfl) (by rw[hs];rfl) (by rw[hk];rfl) (by rw[hk];rfl)
 rw[hs,hk]
 show wpAny _ _ (spliced ((false,eval e X.env)::backTo pos (starEach [] X.env))) _ _ s
 refine Calls.spliced_cons (BJ (he pins s σ H _ I h) fun u s1 ⟨x,H1,I1,r1,q1⟩=>Calls.spliced_nil ?_)
 refine wpAny_evalAll_cons (wpAny_bind (BJ (hl pins s1 σ H1 _ I1 q1) fun v s2 ⟨y,H2,I2,r2,q2⟩=>wpAny_bind (wpAny_standAt (wpAny_pure (wpAny_evalAll_nil ?_)))))
 obtain⟨a,fa,rfl,rfl,ha,q⟩:=q2
 cases r1
 cases r2
 obtain⟨its,rv,pl,_⟩:=I2.list (Aq.of (K:=X.K) ha)
 cases rv
 refine Gj pl.isList fun h' c hk2 hD=>?_
 refine⟨.ref _,_,I2.laid (t':=s2.toks) (o:=.lst []) (fun b o z=>hk2 b o z) (Nat.le_succ _) ?_,rfl,q _ (I2.hok.fresh (Nat.le_succ _))⟩
 exact⟨Nat.zero_le _,[],c,.nil,hD⟩
theorem Lh:EM X (compareOp .In) (fun x y H Q=>∃ p,y=.ref p∧Am X.K H p []∧Q (.bl false) H):=by
 intro pins s σ H x y v u Q I rx ry h
 obtain⟨p,rfl,hq,q⟩:=h
 cases ry
 obtain⟨its,r,pl,hz⟩:=I.tuple hq
 cases r
 exact SeqAt.in_tupleAt (fun _=>false) pl (fun w hw=>by simp at hw) ⟨.bl _,H,I,rfl,by simpa using q⟩
theorem Li (hu:X.A.units+1<cLine):EM X (compareOp .NotIn) (fun y x H Q=>∃ a o,x=.ref a∧EO H a y o∧Q (.bl (!o.isSome)) H):=by
 intro pins s σ H x y v u Q I rx ry h
 obtain⟨a,o,rfl,g,q⟩:=h
 cases ry
 exact LY hu I g rx fun s' I'=>⟨.bl _,H,I',rfl,q⟩
end
end L2
namespace Mx
def dv (t b:Int):Int:=if b<0 then -(Nat.gcd t.natAbs b.natAbs:Int)else(Nat.gcd t.natAbs b.natAbs:Int)
def Lj (t b:Int):Int:=t.fdiv (dv t b)
def Lk (t b:Int):Int:=b.fdiv (dv t b)
theorem Ko (t b:Int):dv t b ∣ t:=by
 have h:((Nat.gcd t.natAbs b.natAbs:Nat):Int) ∣ t:=Int.natAbs_dvd_natAbs.mp (by simpa using Nat.gcd_dvd_left t.natAbs b.natAbs)
 unfold dv;split
 ·exact Int.neg_dvd.mpr h
 ·exact h
theorem Kq (t b:Int):dv t b ∣ b:=by
 have h:((Nat.gcd t.natAbs b.natAbs:Nat):Int) ∣ b:=Int.natAbs_dvd_natAbs.mp (by simpa using Nat.gcd_dvd_right t.natAbs b.natAbs)
 unfold dv;split
 ·exact Int.neg_dvd.mpr h
 ·exact h
theorem Hd {t d:Int}(h:d ∣ t):t.fdiv d*d=t:=by
 obtain⟨c,rfl⟩:=h
 by_cases hd:d=0
 ·subst hd;simp
 ·rw[Int.mul_comm d c,Int.mul_fdiv_cancel _ hd]
theorem OO (t b:Int):Lj t b*dv t b=t:=Hd (Ko t b)
theorem OP (t b:Int):Lk t b*dv t b=b:=Hd (Kq t b)
structure Jz (x y:Int):Prop where
 pos:0<y
 cop:Nat.gcd x.natAbs y.natAbs=1
theorem Jz.dv {x y:Int}(h:Jz x y):Mx.dv x y=1:=by
 have h1:=h.pos;have h2:=h.cop
 unfold Mx.dv;rw[if_neg (by omega),h2];rfl
theorem Jz.t {x y:Int}(h:Jz x y):Lj x y=x:=by have e:=OO x y;rw[h.dv]at e;omega
theorem Jz.b {x y:Int}(h:Jz x y):Lk x y=y:=by have e:=OP x y;rw[h.dv]at e;omega
end Mx
namespace Mx
section
variable {a b c d e f:Int}
theorem Ll {x y:Int}(h:0<x)(g:0<y):0<x*y:=Int.mul_pos h g
end
end Mx
namespace Fs
open PySem L2 Mx
structure Df (K:PySem.W.Frag)(mg:Str→Option Value)(x:Str)(st:Stmt)(ps:List Str)(f:Addr)(fd:FuncData):Prop where
 fn:Fun K x x st f fd
 gl:mg x=some (.ref f)
 b:Cu K fd ps []
theorem AW {X:Cx}{k:Nat}{f:Addr}{fd:FuncData}{ps:List Str}{sp:Sp}{x:Str}{st:Stmt}{e:Expr}{es:List Expr}{t:TA}{p pos:Pos}(D:Df X.K X.mg x st ps f fd)(F:Ap X.prog X.w X.K X.mg X.base Bj k f fd ps sp)(hr:BQ k X.A)
 (ha:PA X (e::es) t) (hg:Gl X x:=by rfl) (hdb:(x==("__debug__":Str))=false:=by decide) (he:starEach (e::es) X.env=(false,eval e X.env)::starEach es X.env:=by rfl) (hpl:(backTo pos (starEach es X.env)).any (·.1)=false:=by rfl):
 PE X (.Call (.Name x p) (e::es) [] pos) (MC sp [] E0 t):=LO F hr hg D.gl D.fn.kp D.b .nil Db ha hdb he hpl
def Ac (p:Addr)(H H':Hp):Prop:=∀ b o,b≠p→H b=some o→H' b=some o
theorem Ac.refl (p:Addr)(H:Hp):Ac p H H:=fun _ _ _ e=>e
theorem Ac.trans {p:Addr}{H H1 H2:Hp}(a:Ac p H H1)(b:Ac p H1 H2):Ac p H H2:=fun c o hc e=>b c o hc (a c o hc e)
theorem Ac.upd {p:Addr}{H:Hp}{o:HO}:Ac p H (upd H p o):=fun b u hb e=>by rw[AT hb];exact e
theorem AG.keep {p:Addr}{H H':Hp}(h:AG H H'):Ac p H H':=fun b o _ e=>h b o e
theorem AG.new {H:Hp}{p:Addr}{o:HO}(h:H p=none):AG H (upd H p o):=fun b u e=>by rw[AT (AX e h)];exact e
def BZ (H:Hp)(p:Addr)(k:Nat):Prop:=∃ a b c:Int,H p=some (.lst [.int a,.int b,.int c])∧0≤c∧c≤k
theorem BZ.same {H H':Hp}{p:Addr}{k:Nat}(h:BZ H p k)(s:AG H H'):BZ H' p k:=by
 obtain⟨a,b,c,e,r⟩:=h
 exact⟨a,b,c,s _ _ e,r⟩
theorem BZ.mono {H:Hp}{p:Addr}{k m:Nat}(h:BZ H p k)(s:k≤m):BZ H p m:=by
 obtain⟨a,b,c,e,r,q⟩:=h
 exact⟨a,b,c,e,r,by omega⟩
def RY:St→Nat
 | [_,_,_,some (V.int n)]=>n.toNat
 | [_,_,_,some (V.int n),_]=>n.toNat
 | _=>0
theorem Qf {x:Int}(h1:-18446744073709551616<x)(h2:x<18446744073709551616):Sz 64 x:=by unfold Sz;omega
theorem Al {x:Int}(h1:-18446744073709551616<x)(h2:x<18446744073709551616):Sz 4000 x:=(Qf h1 h2).mono (by decide)
theorem Ar:2≤sizeLine:=by decide
theorem A2:3≤sizeLine:=by decide
structure Cc (H:Hp)(p:Addr)(x y:Int)(n:Nat):Prop where
 ob:H p=some (.tup [.int x,.int y])
 low:Jz x y
 sx:Sz n x
 sy:Sz n y
theorem Cc.same {H H':Hp}{p:Addr}{x y:Int}{n:Nat}(h:Cc H p x y n)(s:AG H H'):Cc H' p x y n:=⟨s _ _ h.ob,h.low,h.sx,h.sy⟩
theorem Cc.mono {H:Hp}{p:Addr}{x y:Int}{n m:Nat}(h:Cc H p x y n)(s:n≤m):Cc H p x y m:=⟨h.ob,h.low,h.sx.mono s,h.sy.mono s⟩
theorem Cc.keep {H H':Hp}{p q:Addr}{x y:Int}{n:Nat}(h:Cc H p x y n)(s:Ac q H H')(hq:p≠q):Cc H' p x y n:=⟨s _ _ hq h.ob,h.low,h.sx,h.sy⟩
def Sv:Sp:=fun vs H Q _=>∃ a b:Int,vs=[.int a,.int b]∧Q (.int (Nat.gcd a.natAbs b.natAbs:Nat)) H
def RZ:Sp:=fun vs H Q _=>∃ t b:Int,vs=[.int t,.int b]∧b≠0∧Sz 4000 b∧∀ p,H p=none→Q (.ref p) (upd H p (.tup [.int (Lj t b),.int (Lk t b)]))
def Qg:Sp:=fun vs H Q _=>∃(p:Addr) (m:Int) (k:Nat),vs=[.ref p,.int m]∧0<m∧Sz 4000 m∧BZ H p k∧k≤100000∧∀(r:Int) (H':Hp),0≤r→r<m→BZ H' p (k+1)→Ac p H H'→Q (.int r) H'
def Ra (K:PySem.W.Frag):Sp:=fun vs H Q _=>∃(a:Addr) (ns:List Int) (k:Int),vs=[.ref a,.int k]∧Aq K H a (ns.map V.int)∧0≤k∧k≤1000∧∀(p:Addr) (H':Hp),H p=none→BZ H' p 0→AG H H'→Q (.ref p) H'
def Pe (f g:Int→Int→Int→Int→Int)(e:Nat→Nat→Nat)(C:Int→Int→Int→Int→Prop):Sp:=fun vs H Q _=>∃(p q:Addr) (a b c d:Int) (m n:Nat),vs=[.ref p,.ref q]∧Cc H p a b m∧Cc H q c d n∧m+n≤3000∧C a b c d∧
 ∀(r:Addr) (H':Hp),AG H H'→Cc H' r (Lj (f a b c d) (g a b c d)) (Lk (f a b c d) (g a b c d)) (e m n)→Q (.ref r) H'
abbrev Pf (m n:Nat):Nat:=m+n+1
abbrev Rb:Sp:=Pe (fun a b c d=>a*d+c*b) (fun _ b _ d=>b*d) Pf (fun _ _ _ _=>True)
abbrev Rc:Sp:=Pe (fun a b c d=>a*d-c*b) (fun _ b _ d=>b*d) Pf (fun _ _ _ _=>True)
abbrev Re:Sp:=Pe (fun a _ c _=>a*c) (fun _ b _ d=>b*d) Pf (fun _ _ _ _=>True)
abbrev Rf:Sp:=Pe (fun a _ _ d=>a*d) (fun _ b c _=>b*c) Pf (fun _ _ c _=>c≠0)
def Qh:Sp:=fun vs H Q _=>∃(p q:Addr) (a b c d:Int) (m n:Nat),vs=[.ref p,.ref q]∧Cc H p a b m∧Cc H q c d n∧m+n≤3000∧Q (.bl (decide (a*d<c*b))) H
def Pg (K:PySem.W.Frag)(C:Addr):Sp:=fun vs H Q _=>∃ a:Addr,vs=[.ref a]∧H a=some (Mr a (.ref C))∧∀ H',AG H H'→Q (.bl true) H'
def Lm:Sp:=fun vs H Q _=>∃ i:Int,vs=[.int i]∧Q (.bl true) H
def Ph:Sp:=fun vs H Q _=>∃(p:Addr) (x y:Int) (n:Nat),vs=[.ref p]∧Cc H p x y n∧n≤4000∧∀ H',AG H H'→Q (.bl true) H'
def Rg:Sp:=fun vs H Q _=>∃(p:Addr) (k:Nat),vs=[.ref p]∧BZ H p k∧k≤90000∧∀(r:Int) (H':Hp),Sz 250 r→BZ H' p (k+5)→Ac p H H'→Q (.int r) H'
def Rh (K:PySem.W.Frag):Sp:=fun vs H Q _=>∃(a:Addr) (ns:List Int),vs=[.ref a]∧Aq K H a (ns.map V.int)∧ns.length≤63∧∀ H',Q (.bl true) H'
theorem J8 {Q:VK}{v w:V}{H:Hp}(e:v=w)(q:Q w H):Q v H:=by rw[e];exact q
theorem AS:bootBuiltins "isinstance"=some (.builtin "isinstance"):=by nofun
theorem He:bootBuiltins "min"=some (.builtin "min"):=by nofun
theorem Fx:bootBuiltins "int"=some (.type "int"):=by nofun
theorem B8:bootBuiltins "bool"=some (.type "bool"):=by nofun
theorem Dj:bootBuiltins "str"=some (.type "str"):=by nofun
theorem EA:bootBuiltins "list"=some (.type "list"):=by nofun
theorem A8:bootBuiltins "tuple"=some (.type "tuple"):=by nofun
theorem ND {X:Cx}{x:Str}{C:Addr}{pos:Pos}(hm:X.mg x=some (.ref C))(hg:Gl X x:=by rfl)(hd:(x==("__debug__":Str))=false:=by decide):PE X (.Name x pos) (tC (.ref C)):=GW hg hm rfl hd
theorem BC {X:Cx}{x:Str}{T:String}{pos:Pos}(hm:X.mg x=none)(hv:bootBuiltins x=some (.type T))(hg:Gl X x:=by rfl)(hn:x≠"__name__":=by decide)(hd:(x==("__debug__":Str))=false:=by decide):PE X (.Name x pos) (tC (.ty T)):=LI hg hm hv rfl hn hd
theorem Bm (K:PySem.W.Frag)(t:Value):PySem.W.kitOne K t t=some true:=by unfold PySem.W.kitOne;simp
def OQ (mg:Str→Option Value)(x z:Str):Prop:=∃ u,mg x=some u∧Aj (.str z) u
def Gk (mg:Str→Option Value)(x:Str)(i:Int):Prop:=∃ u,mg x=some u∧Aj (.int i) u
theorem Ln {X:Cx}{x z:Str}{pos:Pos}(hm:OQ X.mg x z)(hg:Gl X x:=by rfl)(hd:(x==("__debug__":Str))=false:=by decide):PE X (.Name x pos) (tC (.str z)):=by
 obtain⟨u,h,r⟩:=hm
 exact GW hg h r hd
theorem Cl {X:Cx}{x:Str}{i:Int}{pos:Pos}(hm:Gk X.mg x i)(hg:Gl X x:=by rfl)(hd:(x==("__debug__":Str))=false:=by decide):PE X (.Name x pos) (tC (.int i)):=by
 obtain⟨u,h,r⟩:=hm
 exact GW hg h r hd
def OR:R2:=fun x y H Q=>∃ i j,x=.str i∧y=.str j∧Q (.bl (!(Builtin.Str.occurrences j i 0 j.length 1).isEmpty)) H
theorem NE {X:Cx}:EM X (compareOp .In) OR:=Jh
theorem Ek {n:Nat}(h:n≤1000):n<sizeLine:=GP h
theorem MN {n:Nat}(h:n≤1000):n≤sizeLine:=Nat.le_of_lt (GP h)
theorem Id {z:Str}(L:Str){H:Hp}{D:Addr}(hz:z.length≤1000)(hD:H D=none):
 ∃ W:Nat→Nat→Hp→Prop,(∃ m,W 0 m (upd H D (.lst [])))∧∀ i m H',W i m H'→
  ((N4 z).stop i H'∧H'=upd H D (.lst ((z.cps.toList.map fun c=>decide (c∈L.cps.toList)).map V.bl)))∨((N4 z).go i H'∧∀(js:List Nat) (σ:St) (x:V) (H2:Hp),(N4 z).yld i H' x H2→Mq (some x::Ev js σ) H2 fun b H3=>
    if b=true then Nl OR (Mb 0) (tC (.str L)) (some x::Ev js σ) H3 fun v H4=>∃ xs,H4 D=some (.lst xs)∧xs.length<sizeLine∧∃ m',m'<m∧W (i+1) m' (upd H4 D (.lst (xs++[v])))
    else ∃ m',m'<m∧W (i+1) m' H3):=by
 have hs:z.cps.toList.length=z.cps.size:=by simp
 have hl:z.length=z.cps.size:=rfl
 refine⟨fun i m H'=>m=z.cps.size-i∧i≤z.cps.size∧H'=upd H D (.lst (((z.cps.toList.take i).map fun c=>decide (c∈L.cps.toList)).map V.bl)),⟨z.cps.size,by simp,Nat.zero_le _,by simp⟩,?_⟩
 rintro i m H' ⟨rfl,hi,rfl⟩
 by_cases hlt:i<z.cps.size
 ·refine .inr ⟨hlt,fun js σ x H2 y=>?_⟩
  obtain⟨e,c,hc,e2⟩:=y
  subst e e2
  unfold Mq
  dsimp only
  rw[if_pos rfl]
  refine⟨_,rfl,_,_,rfl,rfl,_,AB,?_,_,?_,rfl,hlt,?_⟩
  ·rw[List.length_map,List.length_map,List.length_take];exact Ek (by omega)
  ·show z.cps.size-(i+1)<z.cps.size-i
   omega
  ·rw[Iv]
   congr 2
   have ht:z.cps.toList.take (i+1)=z.cps.toList.take i++[c]:=by
    rw[List.take_succ,show z.cps.toList[i]?=some c by simpa using hc]
    rfl
   rw[ht,List.map_append,List.map_append,StrLaws.found_one]
   rfl
 ·have e:i=z.cps.size:=by omega
  subst e
  refine .inl ⟨rfl,?_⟩
  have ht:z.cps.toList.take z.cps.size=z.cps.toList:=List.take_of_length_le (by omega)
  rw[ht]
theorem J0 {z L:Str}(h:∀ c∈z.cps.toList,c∈L.cps.toList):(z.cps.toList.map fun c=>decide (c∈L.cps.toList)).all id=true:=by
 rw[List.all_map,List.all_eq_true]
 intro c hc
 simpa using h c hc
structure Nm (z:Str):Prop where
 lo:1≤z.length
 hi:z.length≤6
 az:∀ c∈z.cps.toList,97≤c∧c≤122
def Qi (c:Int):Str:=⟨#[64+c.toNat]⟩
def num (r:Int):Str:=Str.ofString (toString r)
def Gm (z:Str)(r c:Int):Str:=((z++Str.ofString "!")++Qi c)++num r
structure Dg (z:Str)(n:Int):Prop where
 lo:1≤z.length
 hi:z.length≤640
 fig:∀ c∈z.cps.toList,c∈(Str.ofString "0123456789").cps.toList
 rd:PySem.intText? z=some n
 c0:∃ c,z.cps.toList[0]?=some c∧(c≠48∨z=Str.ofString "0")
theorem NF {z:Str}(h:Nm z):∀ c∈z.cps.toList,c∈(Str.ofString "abcdefghijklmnopqrstuvwxyz").cps.toList:=by
 intro c hc
 have ⟨a,b⟩:=h.az c hc
 have tab:∀ i,i<26→97+i∈(Str.ofString "abcdefghijklmnopqrstuvwxyz").cps.toList:=by nofun
 have:=tab (c-97) (by omega)
 rwa [show 97+(c-97)=c by omega]at this
structure Ie (H:Hp)(p:Addr)(z:Str)(r c:Int):Prop where
 ob:H p=some (.tup [.str z,.int r,.int c])
 nm:Nm z
 r0:1≤r
 r1:r≤16
 c0:1≤c
 c1:c≤8
theorem Ie.same {H H':Hp}{p:Addr}{z:Str}{r c:Int}(h:Ie H p z r c)(s:AG H H'):Ie H' p z r c:=⟨s _ _ h.ob,h.nm,h.r0,h.r1,h.c0,h.c1⟩
structure Ig (H:Hp)(p:Addr)(z:Str)(r c r2 c2:Int):Prop where
 ob:H p=some (.tup [.str z,.int r,.int c,.int r2,.int c2])
 nm:Nm z
 r0:1≤r
 r1:r≤r2
 r16:r2≤16
 c0:1≤c
 c1:c≤c2
 c8:c2≤8
theorem Ig.same {H H':Hp}{p:Addr}{z:Str}{r c r2 c2:Int}(h:Ig H p z r c r2 c2)(s:AG H H'):Ig H' p z r c r2 c2:=⟨s _ _ h.ob,h.nm,h.r0,h.r1,h.r16,h.c0,h.c1,h.c8⟩
def J1 (H:Hp)(l:Addr)(z:Str)(r c:Int)(w n:Nat):Prop:=∃ vs:List V,H l=some (.lst vs)∧vs.length=n∧∀(k:Nat) (v:V),vs[k]?=some v→∃ a:Addr,v=.ref a∧H a=some (.tup [.str z,.int (r+((k / w:Nat):Int)),.int (c+((k%w:Nat):Int))])
theorem J1.same {H H':Hp}{l:Addr}{z:Str}{r c:Int}{w n:Nat}(h:J1 H l z r c w n)(s:AG H H'):J1 H' l z r c w n:=by
 obtain⟨vs,a,b,d⟩:=h
 exact⟨vs,s _ _ a,b,fun k v e=>let ⟨p,q,u⟩:=d k v e;⟨p,q,s _ _ u⟩⟩
def Ri:Sp:=fun vs H Q _=>∃(z:Str) (m n:Int),vs=[.str z,.int m]∧Dg z n∧(z.length:Int)≤m∧∀ H',AG H H'→Q (.int n) H'
def OS:Sp:=fun vs H Q _=>∃ z:Str,vs=[.str z]∧Nm z∧∀ H',AG H H'→Q (.bl true) H'
def Qj:Sp:=fun vs H Q _=>∃ i l:Int,vs=[.int i,.int l]∧1≤i∧i≤l∧Q (.bl true) H
def Rj:Sp:=fun vs H Q _=>∃(p:Addr) (z:Str) (r c:Int),vs=[.ref p]∧Ie H p z r c∧∀ H',AG H H'→Q (.bl true) H'
def Rk:Sp:=fun vs H Q _=>∃(p:Addr) (z:Str) (r c r2 c2:Int),vs=[.ref p]∧Ig H p z r c r2 c2∧∀ H',AG H H'→Q (.bl true) H'
def Sw:Sp:=fun vs H Q _=>∃(p:Addr) (z:Str) (r c:Int),vs=[.ref p]∧Ie H p z r c∧Q (.str (Gm z r c)) H
def Sx:Sp:=fun vs H Q _=>∃(z:Str) (r c:Int),vs=[.str (Gm z r c)]∧Nm z∧1≤r∧r≤16∧1≤c∧c≤8∧∀(p:Addr) (H':Hp),AG H H'→Ie H' p z r c→Q (.ref p) H'
def Sy:Sp:=fun vs H Q _=>∃(p:Addr) (z:Str) (r c r2 c2:Int),vs=[.ref p]∧Ig H p z r c r2 c2∧∀(l:Addr) (H':Hp),H l=none→AG H H'→J1 H' l z r c (c2-c+1).toNat ((r2-r+1).toNat*(c2-c+1).toNat)→Q (.ref l) H'
def Pi:Sp:=fun vs H Q _=>∃(p:Addr) (k:Nat),vs=[.ref p]∧BZ H p k∧k≤90000∧∀(z:Str) (H':Hp),Nm z→BZ H' p (k+8)→Ac p H H'→Q (.str z) H'
def Pj:Sp:=fun vs H Q _=>∃(p:Addr) (k:Nat),vs=[.ref p]∧BZ H p k∧k≤80000∧∀(q:Addr) (z:Str) (r c:Int) (H':Hp),Ie H' q z r c→BZ H' p (k+10)→Ac p H H'→Q (.ref q) H'
def Pk:Sp:=fun vs H Q _=>∃(p:Addr) (k:Nat),vs=[.ref p]∧BZ H p k∧k≤70000∧∀(q:Addr) (z:Str) (r c r2 c2:Int) (H':Hp),Ig H' q z r c r2 c2→BZ H' p (k+12)→Ac p H H'→Q (.ref q) H'
def Rl:Sp:=fun vs H Q _=>∃(p q:Addr) (z:Str) (r c:Int),vs=[.ref p,.ref q]∧H p=some (.tup [.str z,.int r,.int c])∧H q=some (.tup [.str z,.int r,.int c])∧Q (.bl true) H
def Rm:Sp:=fun vs H Q _=>∃(p:Addr) (z:Str) (r c r2 c2:Int),vs=[.ref p]∧Ig H p z r c r2 c2∧∀ H',AG H H'→Q (.bl true) H'
theorem J1.push {H:Hp}{l q:Addr}{z:Str}{r c r' c':Int}{w n:Nat}{vs:List V}(h1:H l=some (.lst vs))(h2:vs.length=n)
 (h3:∀(k:Nat) (v:V),vs[k]?=some v→∃ a:Addr,v=.ref a∧H a=some (.tup [.str z,.int (r+((k / w:Nat):Int)),.int (c+((k%w:Nat):Int))]))
 (hq:H q=none) (er:r'=r+((n / w:Nat):Int)) (ec:c'=c+((n%w:Nat):Int)):J1 (upd (upd H q (.tup [.str z,.int r',.int c'])) l (.lst (vs++[.ref q]))) l z r c w (n+1):=by
 have nql:q≠l:=fun e=>by subst e;rw[hq]at h1;cases h1
 refine⟨_,AB,by rw[List.length_append,h2];rfl,fun k v e=>?_⟩
 by_cases hk:k<n
 ·rw[List.getElem?_append_left (by omega)]at e
  obtain⟨a,ea,ha⟩:=h3 k v e
  have n1:a≠l:=CL ha h1 (by intro z;cases z)
  have n2:a≠q:=AX ha hq
  exact⟨a,ea,by rw[AT n1,AT n2];exact ha⟩
 ·rw[List.getElem?_append_right (by omega)]at e
  have hk2:k-vs.length=0:=by
   obtain⟨hlt,_⟩:=List.getElem?_eq_some_iff.mp e
   simp at hlt
   omega
  rw[hk2]at e
  have e':V.ref q=v:=by simpa using e
  have hkn:k=n:=by omega
  subst hkn
  exact⟨q,e'.symm,by rw[AT nql,AB,er,ec]⟩
theorem AG.step {H H3:Hp}{l q:Addr}{o o':HO}(s:AG H H3)(hl:H l=none)(hq:H3 q=none):AG H (upd (upd H3 q o) l o'):=fun b u e=>by
 rw[AT (AX e hl),AT (AX (s _ _ e) hq)]
 exact s _ _ e
theorem Cd {z:Str}(h:(decide (1≤z.length)&&decide (z.length≤6)&&z.cps.toList.all fun c=>decide (97≤c)&&decide (c≤122))=true):Nm z:=by
 simp only[Bool.and_eq_true,decide_eq_true_eq,List.all_eq_true]at h
 exact⟨h.1.1,h.1.2,fun c hc=>h.2 c hc⟩
inductive Vl where
 | none | num (t b:Int) | txt (z:Str) | tru (b:Bool) | flt (w z:Str) (r c:Int)
 deriving DecidableEq
def Kr:List Str:=[Str.ofString "kind",Str.ofString "nought",Str.ofString "gone",Str.ofString "name",Str.ofString "shape",Str.ofString "blocked",Str.ofString "miss",Str.ofString "ring",Str.ofString "great"]
def GC:Vl→Prop
 | .num t b=>Jz t b∧t.natAbs<10 ^ 30∧b.natAbs<10 ^ 30
 | .txt z=>z.length≤20∧∀ c∈z.cps.toList,c∈(Str.ofString "abcdefghijklmnopqrstuvwxyz0123456789 ").cps.toList
 | .flt w z r c=>w∈Kr∧Nm z∧1≤r∧r≤16∧1≤c∧c≤8
 | _=>True
def Ks (t b:Int):Str:=if b=1 then num t else num t++Str.ofString "/"++num b
def MO:Vl→Str
 | .none=>Str.ofString ""
 | .num t b=>Ks t b
 | .txt z=>Str.ofString "'"++z
 | .tru b=>if b=true then Str.ofString "yes" else Str.ofString "no"
 | .flt w z r c=>((Str.ofString "!"++w)++Str.ofString " ")++Gm z r c
def S0 (K:PySem.W.Frag)(mg:Str→Option Value)(x:Str)(xs:List V):Prop:=∃(a:Addr) (o:Obj),mg x=some (.ref a)∧K.lookup a=some o∧o.cls=.type "tuple"∧∃ its n,o.data=.seq its n∧its.size≤sizeLine∧Ag xs its.toList
def Td (K:PySem.W.Frag)(xs:List V):TE:=fun _ H Q=>∀ a,(∀ H',Am K H' a xs)→Q (.ref a) H
def CQ (H:Hp)(p:Addr):Vl→Prop
 | .none=>H p=some (.tup [.str (Str.ofString "none")])
 | .num t b=>H p=some (.tup [.str (Str.ofString "number"),.int t,.int b])
 | .txt z=>H p=some (.tup [.str (Str.ofString "text"),.str z])
 | .tru b=>H p=some (.tup [.str (Str.ofString "truth"),.bl b])
 | .flt w z r c=>∃ q,H p=some (.tup [.str (Str.ofString "fault"),.str w,.ref q])∧H q=some (.tup [.str z,.int r,.int c])
theorem CQ.same {H H':Hp}{p:Addr}{v:Vl}(h:CQ H p v)(s:AG H H'):CQ H' p v:=by
 cases v with
 | none=>exact s _ _ h
 | num t b=>exact s _ _ h
 | txt z=>exact s _ _ h
 | tru b=>exact s _ _ h
 | flt w z r c=>obtain⟨q,a,b⟩:=h;exact⟨q,s _ _ a,s _ _ b⟩
def Rn:Sp:=fun vs H Q _=>∃ t b:Int,vs=[.int t,.int b]∧Jz t b∧Q (.bl true) H
def Ro:Sp:=fun vs H Q _=>∃ i:Int,vs=[.int i]∧i.natAbs<10 ^ 30∧Q (.bl true) H
def Pl:Sp:=fun vs H Q _=>∃ t b:Int,vs=[.int t,.int b]∧Jz t b∧t.natAbs<10 ^ 30∧b.natAbs<10 ^ 30∧Q (.bl true) H
def Rp:Sp:=fun vs H Q _=>∃ z:Str,vs=[.str z]∧GC (.txt z)∧∀ H',AG H H'→Q (.bl true) H'
def S1:Sp:=fun vs H Q _=>∃ w:Str,vs=[.str w]∧w∈Kr∧Q (.bl true) H
def Rq:Sp:=fun vs H Q _=>∃(p:Addr) (v:Vl),vs=[.ref p]∧GC v∧CQ H p v∧∀ H',AG H H'→Q (.bl true) H'
def S3:Sp:=fun vs H Q _=>∃ t b:Int,vs=[.int t,.int b]∧t.natAbs<10 ^ 30∧b.natAbs<10 ^ 30∧Q (.str (Ks t b)) H
def S4:Sp:=fun vs H Q _=>∃(p:Addr) (v:Vl),vs=[.ref p]∧GC v∧CQ H p v∧∀ H',AG H H'→Q (.str (MO v)) H'
def S5:Sp:=fun vs H Q _=>∃ t b:Int,vs=[.str (Ks t b)]∧Jz t b∧t.natAbs<10 ^ 30∧b.natAbs<10 ^ 30∧∀(p:Addr) (H':Hp),AG H H'→CQ H' p (.num t b)→Q (.ref p) H'
def S6:Sp:=fun vs H Q _=>∃(w z:Str) (r c:Int),vs=[.str ((w++Str.ofString " ")++Gm z r c)]∧GC (.flt w z r c)∧∀(p:Addr) (H':Hp),AG H H'→CQ H' p (.flt w z r c)→Q (.ref p) H'
def S7:Sp:=fun vs H Q _=>∃ v:Vl,vs=[.str (MO v)]∧GC v∧∀(p:Addr) (H':Hp),AG H H'→CQ H' p v→Q (.ref p) H'
def Qk:Sp:=fun vs H Q _=>∃(p:Addr) (k:Nat),vs=[.ref p]∧BZ H p k∧k≤90000∧∀(r:Int) (H':Hp),r.natAbs<10 ^ 30-3→BZ H' p (k+5)→Ac p H H'→Q (.int r) H'
def Ql:Sp:=fun vs H Q _=>∃(p:Addr) (k:Nat),vs=[.ref p]∧BZ H p k∧k≤80000∧∀(q:Addr) (x y:Int) (H':Hp),H' q=some (.tup [.int x,.int y])→Jz x y→x.natAbs<10 ^ 30→y.natAbs<10 ^ 30→BZ H' p (k+12)→Ac p H H'→Q (.ref q) H'
def Rr:Sp:=fun vs H Q _=>∃(p:Addr) (k:Nat),vs=[.ref p]∧BZ H p k∧k≤60000∧∀(q:Addr) (v:Vl) (H':Hp),GC v→CQ H' q v→BZ H' p (k+40)→Ac p H H'→Q (.ref q) H'
def Qm:Sp:=fun vs H Q _=>∃(p q:Addr) (v:Vl),vs=[.ref p,.ref q]∧CQ H p v∧CQ H q v∧∀ H',AG H H'→Q (.bl true) H'
theorem CQ.keep {H H':Hp}{p q:Addr}{v:Vl}{xs:List V}(h:CQ H q v)(hp:H p=some (.lst xs))(s:Ac p H H'):CQ H' q v:=by
 have ne:∀{b:Addr} {ys:List V},H b=some (.tup ys)→b≠p:=fun e=>CL e hp (by intro z;cases z)
 cases v with
 | none=>exact s _ _ (ne h) h
 | num t b=>exact s _ _ (ne h) h
 | txt z=>exact s _ _ (ne h) h
 | tru b=>exact s _ _ (ne h) h
 | flt w z r c=>obtain⟨u,a,b⟩:=h;exact⟨u,s _ _ (ne a) a,s _ _ (ne b) b⟩
def S8:R2:=fun x y H Q=>∃ a b v,x=.ref a∧y=.ref b∧CQ H a v∧CQ H b v∧Q (.bl false) H
theorem OT {α:Type}{us:List α}(h:us.length=1):∃ a,us=[a]:=match us,h with | [a],_=>⟨a,rfl⟩
theorem Lo {α:Type}{us:List α}(h:us.length=2):∃ a b,us=[a,b]:=match us,h with | [a,b],_=>⟨a,b,rfl⟩
theorem Kt {α:Type}{us:List α}(h:us.length=3):∃ a b c,us=[a,b,c]:=match us,h with | [a,b,c],_=>⟨a,b,c,rfl⟩
abbrev kS (z:String):BI:=.inr (Str.ofString z)
def Qn (a:Addr)(t r m u:Int):List (BI×V):=[(kS "cells",.ref a),(kS "at",.int t),(kS "rest",.int r),(kS "mode",.int m),(kS "used",.int u)]
section
variable {H:Hp}{p a:Addr}{t r m u:Int}
end
theorem Aq.kx {K:PySem.W.Frag}{H H':Hp}{a p:Addr}{xs:List V}{kvs:List (BI×V)}(h:Aq K H a xs)(hp:H p=some (.dK kvs))(s:Ac p H H'):Aq K H' a xs:=by
 rcases h with(h | ⟨o,h⟩) | h
 ·exact .inl (.inl (s _ _ (CL h hp (by intro z;cases z)) h))
 ·exact .inl (.inr ⟨o,s _ _ (CL h hp (by intro z;cases z)) h⟩)
 ·exact .inr h
def Ba (K:PySem.W.Frag)(S:Addr×List Int)(H:Hp)(p:Addr)(k:Nat):Prop:=∃ t r m u:Int,H p=some (.dK (Qn S.1 t r m u))∧Aq K H S.1 (S.2.map V.int)∧0≤t∧0≤u∧u≤k∧(m=0∨(m=1∧0<S.2.length))∧S.2.length≤63
section
variable {K:PySem.W.Frag}{S:Addr×List Int}{H H':Hp}{p D:Addr}{k n:Nat}
theorem Ba.same (h:Ba K S H p k)(s:AG H H'):Ba K S H' p k:=by
 obtain⟨t,r,m,u,e,q,z⟩:=h
 exact⟨t,r,m,u,s _ _ e,s.seq q,z⟩
theorem Ba.mono (h:Ba K S H p k)(s:k≤n):Ba K S H p n:=by
 obtain⟨t,r,m,u,e,q,x,y,v,w⟩:=h
 exact⟨t,r,m,u,e,q,x,y,by omega,w⟩
theorem Ba.ob (h:Ba K S H p k):∃ kvs,H p=some (.dK kvs):=by
 obtain⟨_,_,_,_,e,_⟩:=h
 exact⟨_,e⟩
theorem Ba.ne (h:Ba K S H p k)(hD:H D=none):D≠p:=fun z=>by
 obtain⟨kvs,e⟩:=h.ob
 rw[← z,hD]at e;cases e
theorem Ba.put {o:HO}(h0:Ba K S H p k)(hD:H D=none)(h:Ba K S H' p n):Ba K S (upd H' D o) p n:=by
 have ne:=h0.ne hD
 obtain⟨_,_,_,_,_,q0,_⟩:=h0
 obtain⟨t,r,m,u,e,q,z⟩:=h
 refine⟨t,r,m,u,by rw[AT (Ne.symm ne)];exact e,?_,z⟩
 rcases q0 with(q0 | ⟨o0,q0⟩) | q0
 ·have na:=AX q0 hD
  rcases q with(q | ⟨o1,q⟩) | q
  ·exact .inl (.inl (by rw[AT na];exact q))
  ·exact .inl (.inr ⟨o1,by rw[AT na];exact q⟩)
  ·exact .inr q
 ·have na:=AX q0 hD
  rcases q with(q | ⟨o1,q⟩) | q
  ·exact .inl (.inl (by rw[AT na];exact q))
  ·exact .inl (.inr ⟨o1,by rw[AT na];exact q⟩)
  ·exact .inr q
 ·exact .inr q0
end
def Qo (K:PySem.W.Frag):Sp:=fun vs H Q _=>∃(a:Addr) (ns:List Int),vs=[.ref a]∧Aq K H a (ns.map V.int)∧ns.length≤63∧∀(p:Addr) (H':Hp),H p=none→Ba K (a,ns) H' p 0→AG H H'→Q (.ref p) H'
def Qp (K:PySem.W.Frag):Sp:=fun vs H Q _=>∃(p:Addr) (m:Int) (k:Nat) (S:Addr×List Int),vs=[.ref p,.int m]∧0<m∧Sz 4000 m∧Ba K S H p k∧k≤10000000∧∀(r:Int) (H':Hp),0≤r→r<m→Ba K S H' p (k+1)→Ac p H H'→Q (.int r) H'
theorem Fy {ns:List Int}{r:Int}(h0:0≤r)(h1:r<(ns.length:Int)):∃ v,Gc (ns.map V.int) r=some (V.int v):=by
 obtain⟨j,rfl⟩:∃ j:Nat,r=(j:Int):=⟨r.toNat,by omega⟩
 have hj:j<ns.length:=by omega
 exact⟨ns[j],CA (by rw[List.getElem?_map,List.getElem?_eq_getElem hj];rfl)⟩
abbrev vS (z:String):V:=.str (Str.ofString z)
def Qq:List V:=[vS "sum",vS "yes",vS "if",vS "grid",vS "outer",vS "no",vS "su",vS "sums",vS "iff",vS "yess",vS "neg",vS "own",vS "abcdef",vS "z"]
def S9:List V:=[vS "yes",vS "no",vS "if",vS "sum",vS "count",vS "least",vS "most",vS "sumif",vS "find",vS "turn",vS "stack"]
def TB:List V:=[vS "grid",vS "outer"]
def NU (z:Str):Bool:=Hv (.str z) S9||Hv (.str z) TB
def Te (j:Nat):Bool:=match Qq[j]? with
 | some (.str z)=>(decide (1≤z.length)&&decide (z.length≤6)&&z.cps.toList.all fun c=>decide (97≤c)&&decide (c≤122))&&(decide (j<6)||!NU z)
 | _=>false
def Rs (K:PySem.W.Frag):Sp:=fun vs H Q _=>∃(p:Addr) (fr:Bool) (n:Nat) (S:Addr×List Int),vs=[.ref p,.bl fr]∧Ba K S H p n∧n≤9500000∧∀(z:Str) (H':Hp),Nm z→(fr=true→NU z=false)→Ba K S H' p (n+8)→Ac p H H'→Q (.str z) H'
def JQ:Option Str→V
 | none=>.non
 | some z=>.str z
def Ku:Option Str→Prop
 | none=>True
 | some z=>Nm z
def Rt (K:PySem.W.Frag):Sp:=fun vs H Q _=>∃(p:Addr) (n:Nat) (S:Addr×List Int),vs=[.ref p]∧Ba K S H p n∧n≤9000000∧∀(s:Option Str) (H':Hp),Ku s→Ba K S H' p (n+9)→Ac p H H'→Q (JQ s) H'
def Kp (H H':Hp):Prop:=∀ a xs,H a=some (.tup xs)→H' a=some (.tup xs)
theorem Kp.same {H H':Hp}(s:AG H H'):Kp H H':=fun a xs e=>s _ _ e
theorem Kp.keepD {H H':Hp}{p:Addr}{kvs:List (BI×V)}(hp:H p=some (.dK kvs))(s:Ac p H H'):Kp H H':=fun a xs e=>s _ _ (CL e hp (by intro z;cases z)) e
theorem Kp.pen {K:PySem.W.Frag}{S:Addr×List Int}{H H':Hp}{p:Addr}{n:Nat}(h:Ba K S H p n)(s:Ac p H H'):Kp H H':=by
 obtain⟨_,e⟩:=h.ob
 exact Kp.keepD e s
theorem Kp.lst {H H':Hp}{p:Addr}{ys:List V}(hp:H p=some (.lst ys))(s:Ac p H H'):Kp H H':=fun a xs e=>s _ _ (CL e hp (by intro z;cases z)) e
theorem Kp.trans {H H1 H2:Hp}(a:Kp H H1)(b:Kp H1 H2):Kp H H2:=fun c xs e=>b c xs (a c xs e)
structure OU where
 r:Int
 c:Int
 x:Bool
 y:Bool
abbrev Kv (c:OU):List V:=[.int c.r,.int c.c,.bl c.x,.bl c.y]
structure JR (c:OU):Prop where
 r0:1≤c.r
 r1:c.r≤16
 c0:1≤c.c
 c1:c.c≤8
inductive Lf where
 | val (v:Vl) | cell (s:Option Str) (c:OU) | rng (s:Option Str) (c d:OU) | cols (s:Option Str) (a:Int) (x:Bool) (b:Int) (y:Bool) | gone | nam (z:Str) | par (i:Int) | flt (z:Str)
def CD (H:Hp)(a:Addr):Lf→Prop
 | .val v=>∃ q,H a=some (.tup [vS "value",.ref q])∧CQ H q v
 | .cell s c=>∃ q,H a=some (.tup [vS "cell",JQ s,.ref q])∧H q=some (.tup (Kv c))
 | .rng s c d=>∃ q u,H a=some (.tup [vS "range",JQ s,.ref q,.ref u])∧H q=some (.tup (Kv c))∧H u=some (.tup (Kv d))
 | .cols s i x j y=>∃ q u,H a=some (.tup [vS "columns",JQ s,.ref q,.ref u])∧H q=some (.tup [.int i,.bl x])∧H u=some (.tup [.int j,.bl y])
 | .gone=>H a=some (.tup [vS "gone"])
 | .nam z=>H a=some (.tup [vS "name",.str z])
 | .par i=>H a=some (.tup [vS "param",.int i])
 | .flt z=>H a=some (.tup [vS "fault",.str z])
def Qr:Vl→Prop
 | .num t b=>b=1∧0≤t∧t≤999999999
 | .txt _=>True
 | .tru _=>True
 | _=>False
def E8 (pr:Nat):Lf→Prop
 | .val v=>GC v∧Qr v
 | .cell s c=>Ku s∧JR c
 | .rng s c d=>Ku s∧JR c∧JR d∧c.r≤d.r∧c.c≤d.c
 | .cols s i _ j _=>Ku s∧1≤i∧i≤j∧j≤8
 | .gone=>True
 | .nam z=>Nm z∧NU z=false
 | .par i=>0≤i∧i<pr
 | .flt _=>True
theorem CQ.kp {H H':Hp}{p:Addr}{v:Vl}(h:CQ H p v)(s:Kp H H'):CQ H' p v:=by
 cases v with
 | none=>exact s _ _ h
 | num t b=>exact s _ _ h
 | txt z=>exact s _ _ h
 | tru b=>exact s _ _ h
 | flt w z r c=>obtain⟨q,a,b⟩:=h;exact⟨q,s _ _ a,s _ _ b⟩
theorem CD.kp {H H':Hp}{a:Addr}{l:Lf}(h:CD H a l)(s:Kp H H'):CD H' a l:=by
 cases l with
 | val v=>obtain⟨q,h1,h2⟩:=h;exact⟨q,s _ _ h1,CQ.kp h2 s⟩
 | cell z c=>obtain⟨q,h1,h2⟩:=h;exact⟨q,s _ _ h1,s _ _ h2⟩
 | rng z c d=>obtain⟨q,u,h1,h2,h3⟩:=h;exact⟨q,u,s _ _ h1,s _ _ h2,s _ _ h3⟩
 | cols z i x j y=>obtain⟨q,u,h1,h2,h3⟩:=h;exact⟨q,u,s _ _ h1,s _ _ h2,s _ _ h3⟩
 | gone=>exact s _ _ h
 | nam z=>exact s _ _ h
 | par i=>exact s _ _ h
 | flt z=>exact s _ _ h
def Qs (K:PySem.W.Frag):Sp:=fun vs H Q _=>∃(p:Addr) (r c:Int) (n:Nat) (S:Addr×List Int),vs=[.ref p,.int r,.int c]∧Ba K S H p n∧n≤9000000∧∀(q:Addr) (x y:Bool) (H':Hp),H' q=some (.tup (Kv ⟨r,c,x,y⟩))→Ba K S H' p (n+2)→Ac p H H'→Q (.ref q) H'
def Qt (K:PySem.W.Frag):Sp:=fun vs H Q _=>∃(p:Addr) (w:Int) (n:Nat) (S:Addr×List Int),vs=[.ref p,.int w]∧Ba K S H p n∧n≤8000000∧∀(a:Addr) (l:Lf) (H':Hp),CD H' a l→(∀ pr,E8 pr l)→Ba K S H' p (n+30)→Ac p H H'→Q (.ref a) H'
def Qu (K:PySem.W.Frag):Sp:=fun vs H Q _=>∃(p:Addr) (w:Int) (n:Nat) (S:Addr×List Int),vs=[.ref p,.int w]∧Ba K S H p n∧n≤8000000∧∀(q:Addr) (v:Vl) (H':Hp),CQ H' q v→GC v→Qr v→Ba K S H' p (n+30)→Ac p H H'→Q (.ref q) H'
def Pm (K:PySem.W.Frag):Sp:=fun vs H Q _=>∃(p:Addr) (pr:Nat) (n:Nat) (S:Addr×List Int),vs=[.ref p,.int pr]∧pr≤3∧Ba K S H p n∧n≤7000000∧∀(a:Addr) (l:Lf) (H':Hp),CD H' a l→E8 pr l→Ba K S H' p (n+40)→Ac p H H'→Q (.ref a) H'
theorem Lp {n:Int}:Jz n 1:=⟨by decide,by simp⟩
inductive Kd where
 | op (z:Str) | neg | own (z:Str) | sumif (z:Str) | grid (i j:Int) | wd (z:Str)
def Ru:Kd→List V
 | .op z=>[vS "op",.str z]
 | .neg=>[vS "neg"]
 | .own z=>[vS "own",.str z]
 | .sumif z=>[vS "sumif",.str z]
 | .grid i j=>[vS "grid",.int i,.int j]
 | .wd z=>[.str z]
def Ce (t:Addr):Kd→List V→List V
 | .op z,us=>vS "op"::.str z::us
 | .neg,us=>vS "neg"::us
 | .own z,_=>[vS "own",.str z,.ref t]
 | .sumif z,us=>vS "sumif"::(us.take 1++.str z::us.drop 1)
 | .grid i j,us=>vS "grid"::.int i::.int j::us
 | .wd z,us=>.str z::us
def BN:Kd→Bool
 | .own _=>true
 | _=>false
def Rv:List Str:=["+","-","*","/","&","=","<"].map Str.ofString
def G7:List (Str×Nat):=[("if",3),("sum",1),("count",1),("least",1),("most",1),("find",3),("turn",1),("stack",2),("outer",1)].map fun x=>(Str.ofString x.1,x.2)
def EQ:Kd→Nat→Prop
 | .op z,m=>z∈Rv∧m=2
 | .neg,m=>m=1
 | .own z,m=>Nm z∧NU z=false∧m≤3
 | .sumif z,m=>(z=Str.ofString "="∨z=Str.ofString "<")∧m=3
 | .grid i j,m=>1≤i∧i≤16∧1≤j∧j≤8∧m=2
 | .wd z,m=>(z,m)∈G7
theorem EQ.le {k:Kd}{m:Nat}(h:EQ k m):m≤3:=by
 cases k with
 | op z=>have:=h.2;omega
 | neg=>have:m=1:=h;omega
 | own z=>exact h.2.2
 | sumif z=>have:=h.2;omega
 | grid i j=>have:=h.2.2.2.2;omega
 | wd z=>
  have h:(z,m)∈G7:=h
  have:∀ x∈G7,x.2≤3:=by nofun
  exact this _ h
def Qv (K:PySem.W.Frag):Sp:=fun vs H Q _=>∃(p:Addr) (n:Nat) (S:Addr×List Int),vs=[.ref p]∧Ba K S H p n∧n≤8000000∧∀(a f:Addr) (k:Kd) (m:Nat) (H':Hp),H' a=some (.tup [.ref f,.int m])→H' f=some (.tup (Ru k))→EQ k m→Ba K S H' p (n+12)→Ac p H H'→Q (.ref a) H'
def Qw:Sp:=fun vs H Q _=>∃(f l:Addr) (k:Kd) (us:List V),vs=[.ref f,.ref l]∧H f=some (.tup (Ru k))∧H l=some (.lst us)∧EQ k us.length∧∀(a t:Addr) (H':Hp),H' a=some (.tup (Ce t k us))→(BN k=true→H' t=some (.tup us))→AG H H'→Q (.ref a) H'
theorem TC {r:Int}(h0:0≤r)(h1:r<7):∃ c,Gc (Str.ofString "+-*/&=<").cps.toList r=some c∧(⟨#[c]⟩:Str)∈Rv:=by
 have:r=0∨r=1∨r=2∨r=3∨r=4∨r=5∨r=6:=by omega
 rcases this with rfl | rfl | rfl | rfl | rfl | rfl | rfl
 all_goals exact⟨_,rfl,by nofun⟩
def Tf:List Str:=["if","sum","count","least","most","find","turn","stack","outer"].map Str.ofString
inductive Fm where
 | lf (l:Lf) | nd (k:Kd) (ps:List Fm)
inductive Az (H:Hp):V→Fm→Prop where
 | lf {a:Addr} {l:Lf} (h:CD H a l):Az H (.ref a) (.lf l)
 | nd {a t:Addr} {k:Kd} {us:List V} {ps:List Fm} (h:H a=some (.tup (Ce t k us))) (ht:BN k=true→H t=some (.tup us)) (hl:us.length=ps.length)
  (hh:∀(j:Nat) (u:V) (f:Fm),us[j]?=some u→ps[j]?=some f→Az H u f):Az H (.ref a) (.nd k ps)
theorem Az.kp {H H':Hp}{v:V}{f:Fm}(h:Az H v f)(s:Kp H H'):Az H' v f:=by
 induction h with
 | lf h=>exact .lf (CD.kp h s)
 | nd h ht hl _ ih=>exact .nd (s _ _ h) (fun z=>s _ _ (ht z)) hl ih
abbrev A3 (H:Hp)(us:List V)(fs:List Fm):Prop:=Paired (Az H) us fs
theorem A3.kp {H H':Hp}{us:List V}{fs:List Fm}(h:A3 H us fs)(s:Kp H H'):A3 H' us fs:=Paired.imp' (fun _ _ x=>Az.kp x s) h
inductive FO (pr:Nat):Nat→Fm→Prop where
 | lf {n:Nat} {l:Lf} (h:E8 pr l):FO pr (n+1) (.lf l)
 | nd {n:Nat} {k:Kd} {ps:List Fm} (h:EQ k ps.length) (hp:∀ f∈ps,FO pr n f):FO pr (n+1) (.nd k ps)
theorem FO.mono {pr:Nat}{n:Nat}{f:Fm}(h:FO pr n f):∀{m:Nat},n≤m→FO pr m f:=by
 induction h with
 | lf h=>
  intro m hm
  obtain⟨m,rfl⟩:∃ k,m=k+1:=⟨m-1,by omega⟩
  exact .lf h
 | nd h _ ih=>
  intro m hm
  obtain⟨m,rfl⟩:∃ k,m=k+1:=⟨m-1,by omega⟩
  exact .nd h fun f hf=>ih f hf (by omega)
def Qx (K:PySem.W.Frag)(n:Nat):Sp:=fun vs H Q _=>∃(p:Addr) (room d:Int) (pr:Nat) (c:Nat) (S:Addr×List Int),vs=[.ref p,.int room,.int d,.int pr]∧d=(n:Int)+1∧1≤room∧room≤24∧pr≤3∧Ba K S H p c∧c+80*room.toNat≤6000000∧
 ∀(v:V) (f:Fm) (H':Hp),Az H' v f→FO pr (n+1) f→Ba K S H' p (c+80*room.toNat)→Ac p H H'→Q v H'
abbrev zS (z:String):Str:=Str.ofString z
theorem AV {α:Type}{x:α}{r:List α}:Gc (x::r) 0=some x:=CA (j:=0) rfl
theorem El {α:Type}{x y:α}{r:List α}:Gc (x::y::r) 1=some y:=CA (j:=1) rfl
theorem Hf {α:Type}{x y z:α}{r:List α}:Gc (x::y::z::r) 2=some z:=CA (j:=2) rfl
theorem Kw {α:Type}{x y z u:α}{r:List α}:Gc (x::y::z::u::r) 3=some u:=CA (j:=3) rfl
def Bi:Fm→List Fm
 | .lf _=>[]
 | .nd _ ps=>ps
def kw:Kd→Str
 | .op _=>zS "op"
 | .neg=>zS "neg"
 | .own _=>zS "own"
 | .sumif _=>zS "sumif"
 | .grid _ _=>zS "grid"
 | .wd z=>z
theorem Gn (t:Addr)(k:Kd)(us:List V):∃ r,Ce t k us=.str (kw k)::r:=by cases k <;> exact⟨_,rfl⟩
theorem Az.parts {H:Hp}{us:List V}{ps:List Fm}(hl:us.length=ps.length)(hh:∀(j:Nat) (u:V) (f:Fm),us[j]?=some u→ps[j]?=some f→Az H u f):A3 H us ps:=by
 induction us generalizing ps with
 | nil=>
  cases ps with
  | nil=>exact .nil
  | cons _ _=>simp at hl
 | cons u us ih=>
  cases ps with
  | nil=>simp at hl
  | cons p ps=>exact .cons (hh 0 u p rfl rfl) (ih (by simpa using hl) fun j u f e1 e2=>hh (j+1) u f (by simpa using e1) (by simpa using e2))
def Qy:V→Bool
 | .ref _=>true
 | _=>false
def Qz (H:Hp)(x:V):Prop:=(∃ b ys,x=.ref b∧H b=some (.tup ys))∨(∃ z,x=.str z)∨∃ i,x=.int i
theorem Ih {k:Kd}{m:Nat}(ok:EQ k m):decide (V.str (kw k)=vS "own")=BN k:=by
 cases k with
 | wd z=>
  have hw:(z,m)∈G7:=ok
  have:∀ x∈G7,decide (V.str x.1=vS "own")=false:=by nofun
  exact this _ hw
 | op z=>show decide (vS "op"=vS "own")=false;nofun
 | neg=>show decide (vS "neg"=vS "own")=false;nofun
 | own z=>show decide (vS "own"=vS "own")=true;nofun
 | sumif z=>show decide (vS "sumif"=vS "own")=false;nofun
 | grid i j=>show decide (vS "grid"=vS "own")=false;nofun
def OV:Sp:=fun vs H Q _=>∃(v:V) (f:Fm) (pr n:Nat),vs=[v]∧Az H v f∧FO pr n f∧∀(l:Addr) (us:List V) (H':Hp),H l=none→H' l=some (.lst us)→A3 H' us (Bi f)→AG H H'→Q (.ref l) H'
theorem AG.back0 {H H':Hp}{b:Addr}(s:AG H H')(h:H' b=none):H b=none:=by
 cases e:H b with
 | none=>rfl
 | some o=>rw[s _ _ e]at h;cases h
theorem Q0 {n:Nat}(h:n≤16000000):n≤sizeLine:=Nat.le_trans h (by decide)
def Q1:List (BI×List V):=[(kS "op",[.int 2,.int 3]),(kS "neg",[.int 1]),(kS "if",[.int 1,.int 2,.int 3]),(kS "sum",[.int 1]),(kS "count",[.int 1]),(kS "least",[.int 1]),(kS "most",[.int 1]),(kS "sumif",[.int 1,.int 3,.int 4]),(kS "find",[.int 1,.int 2,.int 3]),(kS "turn",[.int 1]),(kS "stack",[.int 1,.int 2]),(kS "grid",[.int 3,.int 4]),(kS "outer",[.int 1])]
def E9 (k:Str):Option (List V):=(Q1.find? fun kt=>decide (kt.1=(Sum.inr k:BI))).map (·.2)
abbrev Rw (K:PySem.W.Frag):List (BI×V)→List (BI×List V)→Prop:=Paired (fun(kv:BI×V) (kt:BI×List V)=>kv.1=kt.1∧∃ a,kv.2=.ref a∧∀ H,Am K H a kt.2)
theorem Ii {K:PySem.W.Frag}{k:BI}{ys:List V}:∀{kvs:List (BI×V)} {kts:List (BI×List V)},Rw K kvs kts→(kts.find? fun kt=>decide (kt.1=k)).map (·.2)=some ys→∃ a,Cy kvs k=some (.ref a)∧∀ H,Am K H a ys
 | _,_,.nil,h=>by simp at h
 | (kv::kvs),(kt::kts),.cons r t,h=>by
  obtain⟨e,a,ea,sq⟩:=r
  by_cases c:kt.1=k
  ·rw[List.find?_cons_of_pos (by simpa using c)]at h
   simp only[Option.map_some,Option.some.injEq]at h
   subst h
   exact⟨a,by rw[Ej (e.trans c),ea],sq⟩
  ·rw[List.find?_cons_of_neg (by simpa using c)]at h
   obtain⟨b,hb,sb⟩:=Ii t h
   exact⟨b,by rw[Dh (fun z=>c (e.symm.trans z))];exact hb,sb⟩
def MP (m:Nat):List Nat:=(List.range m).map (·+1)
theorem NG {t:Addr}{k:Kd}{us:List V}(ok:EQ k us.length)(no:BN k=false):∃ pl:List Nat,E9 (kw k)=some (pl.map fun(p:Nat)=>V.int p)∧pl.length=us.length∧∀ j,j<us.length→∃ p u,pl[j]?=some p∧us[j]?=some u∧Gc (Ce t k us) (p:Int)=some u:=by
 cases k with
 | op z=>
  obtain⟨u1,u2,rfl⟩:=Lo ok.2
  refine⟨[2,3],(by show E9 (zS "op")=_;nofun),rfl,fun j hj=>?_⟩
  have hj':j<2:=hj
  rcases(show j=0∨j=1 by omega)with rfl | rfl
  ·exact⟨2,u1,rfl,rfl,rfl⟩
  ·exact⟨3,u2,rfl,rfl,rfl⟩
 | neg=>
  obtain⟨u1,rfl⟩:=OT (show us.length=1 from ok)
  refine⟨[1],(by show E9 (zS "neg")=_;nofun),rfl,fun j hj=>?_⟩
  obtain rfl:j=0:=by have hj':j<1:=hj;omega
  exact⟨1,u1,rfl,rfl,rfl⟩
 | own z=>cases no
 | sumif z=>
  have h3:us.length=3:=ok.2
  obtain⟨u1,u2,u3,rfl⟩:=Kt h3
  refine⟨[1,3,4],(by show E9 (zS "sumif")=_;nofun),rfl,fun j hj=>?_⟩
  have hj':j<3:=hj
  rcases(show j=0∨j=1∨j=2 by omega)with rfl | rfl | rfl
  ·exact⟨1,u1,rfl,rfl,rfl⟩
  ·exact⟨3,u2,rfl,rfl,rfl⟩
  ·exact⟨4,u3,rfl,rfl,rfl⟩
 | grid i j=>
  obtain⟨u1,u2,rfl⟩:=Lo ok.2.2.2.2
  refine⟨[3,4],(by show E9 (zS "grid")=_;nofun),rfl,fun j hj=>?_⟩
  have hj':j<2:=hj
  rcases(show j=0∨j=1 by omega)with rfl | rfl
  ·exact⟨3,u1,rfl,rfl,rfl⟩
  ·exact⟨4,u2,rfl,rfl,rfl⟩
 | wd z=>
  have hw:(z,us.length)∈G7:=ok
  have hz:∀ x∈G7,E9 x.1=some ((MP x.2).map fun(p:Nat)=>V.int p):=by nofun
  refine⟨MP us.length,hz _ hw,by simp[MP],fun j hj=>⟨j+1,us[j],?_,List.getElem?_eq_getElem hj,?_⟩⟩
  ·unfold MP
   rw[List.getElem?_map,List.getElem?_range hj];rfl
  ·exact CA (j:=j+1) (by show(V.str z::us)[j+1]?=_;rw[List.getElem?_cons_succ,List.getElem?_eq_getElem hj])
mutual
def DS:Fm→Nat
 | .lf _=>1
 | .nd _ ps=>1+EJ ps
def EJ:List Fm→Nat
 | []=>0
 | f::fs=>DS f+EJ fs
end
theorem JS:∀ a b:List Fm,EJ (a++b)=EJ a+EJ b
 | [],b=>by rw[List.nil_append,EJ];omega
 | x::a,b=>by rw[List.cons_append,EJ,EJ,JS a b];omega
theorem Lq (f:Fm):DS f=1+EJ (Bi f):=by
 cases f with
 | lf l=>rw[DS];show 1=1+EJ [];rw[EJ]
 | nd k ps=>rw[DS];rfl
theorem Kx {B:Nat}:∀ fs:List Fm,(∀ f∈fs,DS f≤B)→EJ fs≤fs.length*B
 | [],_=>by rw[EJ];exact Nat.zero_le _
 | f::fs,h=>by
  have a:=Kx fs fun g hg=>h g (List.mem_cons_of_mem _ hg)
  have b:=h f (by simp)
  rw[EJ,List.length_cons,Nat.add_mul];omega
def SB:Nat→Nat
 | 0=>0
 | n+1=>1+3*SB n
theorem FO.sz {pr n:Nat}{f:Fm}(h:FO pr n f):DS f≤SB n:=by
 induction h with
 | lf h=>rw[DS];show 1≤1+3*SB _;omega
 | @nd n k ps ok _ ih=>
  rw[DS]
  have a:=Kx ps ih
  have b:ps.length*SB n≤3*SB n:=Nat.mul_le_mul_right _ ok.le
  show 1+EJ ps≤1+3*SB n
  omega
theorem FO.prt {pr n:Nat}{f:Fm}(h:FO pr n f):∀ g∈Bi f,FO pr n g:=fun g hg=>by
 cases h with
 | lf _=>cases hg
 | nd _ hp=>exact(hp g hg).mono (Nat.le_succ _)
theorem Lr {α β:Type}{F:α→β→Prop}:∀{xs zs:List α} {ys ws:List β},Paired F xs ys→Paired F zs ws→Paired F (xs++zs) (ys++ws):=by
 intro A B C D h g
 induction h with
 | nil=>exact g
 | cons r t ih=>exact .cons r ih
theorem Ij:bootBuiltins "zip"=some (.type "zip"):=by nofun
def FA (x:V):Prop:=Au x=true∨∃ a,x=.ref a
theorem FA.tr {H:Hp}{n:Nat}{x:V}(h:FA x):IX H n x x:=by
 rcases h with h | ⟨a,rfl⟩
 ·exact .fl h
 ·exact .rf
theorem CD.pp {H:Hp}{a:Addr}{l:Lf}(h:CD H a l):∃ w r,H a=some (.tup (.str w::r))∧V.bl (decide (V.str w=vS "own"))=V.bl false∧E9 w=none∧(∀ x∈(.str w::r),FA x)∧r.length≤5:=by
 have sh:∀ s:Option Str,FA (JQ s):=fun s=>by cases s <;> exact .inl rfl
 cases l with
 | val v=>obtain⟨q,h1,_⟩:=h;exact⟨_,_,h1,by nofun,by nofun,by simp[FA,Au],by simp⟩
 | cell s c=>obtain⟨q,h1,_⟩:=h;exact⟨_,_,h1,by nofun,by nofun,by simp[FA,Au];exact sh s,by simp⟩
 | rng s c d=>obtain⟨q,u,h1,_⟩:=h;exact⟨_,_,h1,by nofun,by nofun,by simp[FA,Au];exact sh s,by simp⟩
 | cols s i x j y=>obtain⟨q,u,h1,_⟩:=h;exact⟨_,_,h1,by nofun,by nofun,by simp[FA,Au];exact sh s,by simp⟩
 | gone=>exact⟨_,_,h,by nofun,by nofun,by simp[FA,Au],by simp⟩
 | nam z=>exact⟨_,_,h,by nofun,by nofun,by simp[FA,Au],by simp⟩
 | par i=>exact⟨_,_,h,by nofun,by nofun,by simp[FA,Au],by simp⟩
 | flt z=>exact⟨_,_,h,by nofun,by nofun,by simp[FA,Au],by simp⟩
theorem Go {K:PySem.W.Frag}{k:BI}:∀{kvs:List (BI×V)} {kts:List (BI×List V)},Rw K kvs kts→(kts.find? fun kt=>decide (kt.1=k)).map (·.2)=none→Cy kvs k=none
 | _,_,.nil,_=>rfl
 | (kv::kvs),(kt::kts),.cons r t,h=>by
  obtain⟨e,a,ea,sq⟩:=r
  by_cases c:kt.1=k
  ·rw[List.find?_cons_of_pos (by simpa using c)]at h
   simp at h
  ·rw[List.find?_cons_of_neg (by simpa using c)]at h
   rw[Dh (fun z=>c (e.symm.trans z))]
   exact Go t h
theorem Ls {t:Addr}{k:Kd}{m:Nat}(ok:EQ k m)(no:BN k=false):∃ pl:List Nat,E9 (kw k)=some (pl.map fun(p:Nat)=>V.int p)∧pl.length=m∧
 ∀(xs:List V) (i:Nat) (w:V),xs.length=m→i<m→∃ p,pl[i]?=some p∧p<(Ce t k xs).length∧(Ce t k xs).set p w=Ce t k (xs.set i w):=by
 cases k with
 | op z=>
  refine⟨[2,3],(by show E9 (zS "op")=_;nofun),ok.2.symm,fun xs i w hx hi=>?_⟩
  obtain⟨u1,u2,rfl⟩:=Lo (hx.trans ok.2)
  have hi':i<2:=by have:=ok.2;omega
  match i,hi' with
  | 0,_=>exact⟨2,rfl,(by show 2<4;decide),rfl⟩
  | 1,_=>exact⟨3,rfl,(by show 3<4;decide),rfl⟩
 | neg=>
  have ok:m=1:=ok
  refine⟨[1],(by show E9 (zS "neg")=_;nofun),ok.symm,fun xs i w hx hi=>?_⟩
  obtain⟨u1,rfl⟩:=OT (hx.trans ok)
  have hi':i<1:=by omega
  match i,hi' with
  | 0,_=>exact⟨1,rfl,(by show 1<2;decide),rfl⟩
 | own z=>cases no
 | sumif z=>
  refine⟨[1,3,4],(by show E9 (zS "sumif")=_;nofun),ok.2.symm,fun xs i w hx hi=>?_⟩
  obtain⟨u1,u2,u3,rfl⟩:=Kt (hx.trans ok.2)
  have hi':i<3:=by have:=ok.2;omega
  match i,hi' with
  | 0,_=>exact⟨1,rfl,(by show 1<5;decide),rfl⟩
  | 1,_=>exact⟨3,rfl,(by show 3<5;decide),rfl⟩
  | 2,_=>exact⟨4,rfl,(by show 4<5;decide),rfl⟩
 | grid a b=>
  have o2:m=2:=ok.2.2.2.2
  refine⟨[3,4],(by show E9 (zS "grid")=_;nofun),o2.symm,fun xs i w hx hi=>?_⟩
  obtain⟨u1,u2,rfl⟩:=Lo (hx.trans o2)
  have hi':i<2:=by omega
  match i,hi' with
  | 0,_=>exact⟨3,rfl,(by show 3<5;decide),rfl⟩
  | 1,_=>exact⟨4,rfl,(by show 4<5;decide),rfl⟩
 | wd z=>
  have hw:(z,m)∈G7:=ok
  have hz:∀ x∈G7,E9 x.1=some ((MP x.2).map fun(p:Nat)=>V.int p):=by nofun
  refine⟨MP m,hz _ hw,by simp[MP],fun xs i w hx hi=>⟨i+1,?_,?_,?_⟩⟩
  ·unfold MP
   rw[List.getElem?_map,List.getElem?_range hi];rfl
  ·show i+1<(V.str z::xs).length
   rw[List.length_cons];omega
  ·rfl
theorem Lu {us ws:List V}{i:Nat}{w:V}(hl:ws.length=us.length)(hw:ws[i]?=some w):(ws.take i++us.drop i).set i w=ws.take (i+1)++us.drop (i+1):=by
 have hi:i<ws.length:=(List.getElem?_eq_some_iff.mp hw).1
 have hd:us.drop i=us[i]::us.drop (i+1):=List.drop_eq_getElem_cons (by omega)
 have ht:ws.take (i+1)=ws.take i++[w]:=by rw[List.take_add_one,hw];rfl
 have lt:(ws.take i).length=i:=by rw[List.length_take];omega
 rw[hd,ht,List.set_append,if_neg (by omega),lt,Nat.sub_self,List.set_cons_zero,List.append_assoc];rfl
def OW (H:Hp)(v:V)(f:Fm)(a':Addr)(ws:List V):Prop:=match f with
 | .lf _=>∃ a its,v=.ref a∧H a=some (.tup its)∧H a'=some (.tup its)∧∀ x∈its,FA x
 | .nd kd _=>∃ t,H a'=some (.tup (Ce t kd ws))∧(BN kd=true→H t=some (.tup ws))
def OX:Sp:=fun vs H Q _=>∃(v:V) (f:Fm) (l:Addr) (ws:List V) (pr n:Nat),vs=[v,.ref l]∧Az H v f∧FO pr n f∧H l=some (.lst ws)∧ws.length=(Bi f).length∧∀(a':Addr) (H':Hp),OW H' v f a' ws→AG H H'→Q (.ref a') H'
theorem Fz:1≤sizeLine:=by decide
mutual
def NH:Fm→List Fm
 | .lf l=>[.lf l]
 | .nd k ps=>MQ ps++[.nd k ps]
def MQ:List Fm→List Fm
 | []=>[]
 | f::fs=>NH f++MQ fs
end
mutual
theorem Lv:∀ f:Fm,(NH f).length=DS f
 | .lf l=>by rw[NH,DS];rfl
 | .nd k ps=>by rw[NH,DS,List.length_append,JT ps,List.length_singleton];omega
theorem JT:∀ fs:List Fm,(MQ fs).length=EJ fs
 | []=>by rw[MQ,EJ];rfl
 | f::fs=>by rw[MQ,EJ,List.length_append,Lv f,JT fs]
end
theorem Az.tup {H:Hp}{v:V}{f:Fm}(h:Az H v f):∃ b ys,v=.ref b∧H b=some (.tup ys):=by
 cases h with
 | lf h=>obtain⟨w,r,h1,_⟩:=h.pp;exact⟨_,_,rfl,h1⟩
 | nd h _ _ _=>exact⟨_,_,rfl,h⟩
theorem Am.sm {K:PySem.W.Frag}{H H':Hp}{a:Addr}{xs:List V}(h:Am K H a xs)(s:AG H H'):Am K H' a xs:=by
 rcases h with(h | ⟨o,h⟩) | h
 ·exact .inl (.inl (s _ _ h))
 ·exact .inl (.inr ⟨o,s _ _ h⟩)
 ·exact .inr h
mutual
theorem FO.al {pr n:Nat}:∀(f:Fm),FO pr n f→∀ g∈NH f,FO pr n g
 | .lf l,h,g,hg=>by rw[NH]at hg;rw[List.mem_singleton.mp hg];exact h
 | .nd k ps,h,g,hg=>by
  rw[NH]at hg
  rcases List.mem_append.mp hg with q | q
  ·exact FO.als ps (fun x hx=>h.prt x hx) g q
  ·rw[List.mem_singleton.mp q];exact h
theorem FO.als {pr n:Nat}:∀(fs:List Fm),(∀ f∈fs,FO pr n f)→∀ g∈MQ fs,FO pr n g
 | [],_,g,hg=>by rw[MQ]at hg;cases hg
 | f::fs,h,g,hg=>by
  rw[MQ]at hg
  rcases List.mem_append.mp hg with q | q
  ·exact FO.al f (h f (List.mem_cons_self ..)) g q
  ·exact FO.als fs (fun x hx=>h x (List.mem_cons_of_mem _ hx)) g q
end
theorem NI {xs:List V}{j:Nat}(h:j≤xs.length):EE xs (some (j:Int)) none=xs.drop j:=by
 unfold EE
 have e1:HT.Bq xs.length 0 (some (j:Int))=j:=by unfold HT.Bq;simp;split <;> omega
 have e2:HT.Bq xs.length xs.length none=xs.length:=rfl
 rw[e1,e2,← List.length_drop]
 exact List.take_length
theorem NJ {xs:List V}{j:Nat}(h:j≤xs.length):EE xs none (some (j:Int))=xs.take j:=by
 unfold EE
 have e1:HT.Bq xs.length xs.length (some (j:Int))=j:=by unfold HT.Bq;simp;split <;> omega
 have e2:HT.Bq xs.length 0 none=0:=rfl
 rw[e1,e2,Nat.sub_zero];rfl
theorem Ky {α β:Type}{F:α→β→Prop}:∀{xs:List α} {ys:List β} (n:Nat),Paired F xs ys→Paired F (xs.drop n) (ys.drop n)
 | _,_,0,h=>by simpa using h
 | _,_,n+1,.nil=>by simpa using Paired.nil
 | _,_,n+1,.cons _ t=>by simpa using Ky n t
theorem Kz {α β:Type}{F:α→β→Prop}:∀{xs:List α} {ys:List β} (n:Nat),Paired F xs ys→Paired F (xs.take n) (ys.take n)
 | _,_,0,h=>by simpa using Paired.nil
 | _,_,n+1,.nil=>by simpa using Paired.nil
 | _,_,n+1,.cons r t=>by simpa using Paired.cons r (Kz n t)
theorem _root_.L2.Fun.okX {P:Program}{w:World}{K:PySem.W.Frag}{mg:Str→Option Value}{base:Heap}{x qual:Str}{st:Stmt}{f:Addr}{fd:FuncData}{N ps:List Str}{k:Nat}{sp:Sp}(F:Fun K x qual st f fd)(S:Aa N ps (AL st))(len:∀ vs H Q E,sp vs H Q E→vs.length=ps.length)
 (hb:∀(cdv:Value) (A:Around) (outer:List Env) (s:Shared) (H:Hp) (vs:List V) (Q:VK) (E:XK),BQ k (A.deeper (PyProof.Rows.envOfC qual (AL st) s.heap.objs.size f cdv))→sp vs H Q E→∀ Z:Prop,((∃ t,Hu (Ft Bj P w K mg base N qual (AL st) f cdv A outer s H E).nox (BY st) t∧t { nx:=fun _ H'=>Q .non H',rt:=Q } (DY N vs) H)→Z)→Z):Ap P w K mg base Bj (k+1) f fd ps sp:=F.ok S len fun cdv A outer s H vs Q E hr h=>hb cdv A outer s H vs Q E hr h _ id
theorem _root_.L2.Fun.okCX {P:Program}{w:World}{K:PySem.W.Frag}{mg:Str→Option Value}{base:Heap}{x qual:Str}{st:Stmt}{f:Addr}{fd:FuncData}{N ps:List Str}{k:Nat}{sp:Sp}(F:Fun K x qual st f fd)(S:Aa N ps (AL st))(len:∀ vs H Q E,sp vs H Q E→vs.length=ps.length)
 (hb:∀(cdv:Value) (A:Around) (outer:List Env) (s:Shared) (H:Hp) (vs:List V) (Q:VK) (E:XK),fd.code=cdv→BQ k (A.deeper (PyProof.Rows.envOfC qual (AL st) s.heap.objs.size f cdv))→sp vs H Q E→∀ Z:Prop,((∃ t,Hu (Ft Bj P w K mg base N qual (AL st) f cdv A outer s H E).nox (BY st) t∧t { nx:=fun _ H'=>Q .non H',rt:=Q } (DY N vs) H)→Z)→Z):Ap P w K mg base Bj (k+1) f fd ps sp:=F.okC S len fun cdv A outer s H vs Q E e hr h=>hb cdv A outer s H vs Q E e hr h _ id
def Rx (N:List Str)(sc:Scope)(i:Nat)(x:Str):Bool:=decide (N[i]?=some x)&&(decide (sc.names.lookup x=some .local)||(decide (sc.names.lookup x=some .cell)||decide (sc.names.lookup x=some .free)))&&!(x==("__debug__":Str))&&!(x==("__classdict__":Str))
theorem AI {X:Cx}(i:Nat){x:Str}{pos:Pos}(h:Rx X.N X.env.scope i x=true:=by kernel_rfl):PE X (.Name x pos) (Mb i):=by
 simp only[Rx,Bool.and_eq_true,Bool.or_eq_true,decide_eq_true_eq,Bool.not_eq_true']at h
 exact Mc h.1.1.1 h.1.1.2 h.1.2 h.2
def Ry (N ps:List Str)(sc:Scope):Bool:=decide (sc.kind=.function)&&decide (sc.isCoroutine=false)&&decide (sc.isGenerator=false)&&decide N.Nodup&&decide (N.take ps.length=ps)&&decide (∀ x∈ps,sc.names.lookup x=some .local∨sc.names.lookup x=some .cell)&&decide (∀ y∈sc.names,y.2≠.free)
theorem BW {N ps:List Str}{sc:Scope}(h:Ry N ps sc=true:=by kernel_rfl):Aa N ps sc:=by
 simp only[Ry,Bool.and_eq_true,decide_eq_true_eq]at h
 obtain⟨⟨⟨⟨⟨⟨a,b⟩,c⟩,d⟩,e⟩,f⟩,g⟩:=h
 exact⟨a,b,c,d,e,f,g⟩
theorem Bz {j k:Nat}{A:Around}(hr:BQ k A)(h:j≤k:=by decide):BQ j A:=hr.mono h
theorem BR {CX:HI}{P:Program}{w:World}{K:PySem.W.Frag}{mg:Str→Option Value}{base:Heap}{N:List Str}{q:Str}{sc:Scope}{f:Addr}{cd:Value}{A:Around}{o:List Env}{s:Shared}{H:Hp}{E:XK}:(Ft CX P w K mg base N q sc f cd A o s H E).nox.K=K:=rfl
theorem Aw {CX:HI}{P:Program}{w:World}{K:PySem.W.Frag}{mg:Str→Option Value}{base:Heap}{N:List Str}{q:Str}{sc:Scope}{f:Addr}{cd:Value}{A:Around}{o:List Env}{s:Shared}{H:Hp}{E:XK}:(Ft CX P w K mg base N q sc f cd A o s H E).nox.mg=mg:=rfl
def Tg (p:Prop):Prop:=p
theorem OY {G:Prop}(h:∀ X:Prop,(G→X)→X):G:=h G id
def BP (K:PySem.W.Frag)(S:Addr×List Int)(H:Hp)(p:Addr)(k:Nat):Prop:=∃ c r:Int,H p=some (.lst [.ref S.1,.int c,.int r])∧Aq K H S.1 (S.2.map V.int)∧0≤c∧c≤k∧S.2.length≤63
theorem Aq.kl {K:PySem.W.Frag}{H H':Hp}{a p b:Addr}{ns:List Int}{r:List V}(h:Aq K H a (ns.map V.int))(hp:H p=some (.lst (.ref b::r)))(s:Ac p H H'):Aq K H' a (ns.map V.int):=by
 rcases h with(h | ⟨o,h⟩) | h
 ·exact .inl (.inl (s _ _ (CL h hp (by intro z;injection z with z;cases ns <;> simp at z)) h))
 ·exact .inl (.inr ⟨o,s _ _ (CL h hp (by intro z;cases z)) h⟩)
 ·exact .inr h
section
variable {K:PySem.W.Frag}{S:Addr×List Int}{H H':Hp}{p D:Addr}{k n:Nat}
theorem BP.same (h:BP K S H p k)(s:AG H H'):BP K S H' p k:=by
 obtain⟨c,r,e,q,z⟩:=h
 exact⟨c,r,s _ _ e,s.seq q,z⟩
theorem BP.mono (h:BP K S H p k)(s:k≤n):BP K S H p n:=by
 obtain⟨c,r,e,q,y,v,w⟩:=h
 exact⟨c,r,e,q,y,by omega,w⟩
theorem BP.ob (h:BP K S H p k):∃ vs,H p=some (.lst vs):=by
 obtain⟨_,_,e,_⟩:=h
 exact⟨_,e⟩
theorem BP.ne (h:BP K S H p k)(hD:H D=none):D≠p:=fun z=>by
 obtain⟨vs,e⟩:=h.ob
 rw[← z,hD]at e;cases e
theorem BP.kp (h:BP K S H p k)(s:Ac p H H'):Kp H H':=by
 obtain⟨_,e⟩:=h.ob
 exact Kp.lst e s
theorem BP.put {o:HO}(h0:BP K S H p k)(hD:H D=none)(h:BP K S H' p n):BP K S (upd H' D o) p n:=by
 have ne:=h0.ne hD
 obtain⟨_,_,_,q0,_⟩:=h0
 obtain⟨c,r,e,q,z⟩:=h
 refine⟨c,r,by rw[AT (Ne.symm ne)];exact e,?_,z⟩
 rcases q0 with(q0 | ⟨o0,q0⟩) | q0
 ·have na:=AX q0 hD
  rcases q with(q | ⟨o1,q⟩) | q
  ·exact .inl (.inl (by rw[AT na];exact q))
  ·exact .inl (.inr ⟨o1,by rw[AT na];exact q⟩)
  ·exact .inr q
 ·have na:=AX q0 hD
  rcases q with(q | ⟨o1,q⟩) | q
  ·exact .inl (.inl (by rw[AT na];exact q))
  ·exact .inl (.inr ⟨o1,by rw[AT na];exact q⟩)
  ·exact .inr q
 ·exact .inr q0
end
def OZ (K:PySem.W.Frag):Sp:=fun vs H Q _=>∃(a:Addr) (ns:List Int),vs=[.ref a]∧Aq K H a (ns.map V.int)∧ns.length≤63∧∀(p:Addr) (H':Hp),H p=none→BP K (a,ns) H' p 0→AG H H'→Q (.ref p) H'
def Oa (K:PySem.W.Frag):Sp:=fun vs H Q _=>∃(p:Addr) (m:Int) (k:Nat) (S:Addr×List Int),vs=[.ref p,.int m]∧0<m∧Sz 4000 m∧BP K S H p k∧k≤10000000∧∀(r:Int) (H':Hp),0≤r→r<m→BP K S H' p (k+1)→Ac p H H'→Q (.int r) H'
structure Dq (K:PySem.W.Frag)(x q:Str)(st:Stmt)(ps:List Str)(f:Addr)(fd:FuncData):Prop where
 fn:Fun K x q st f fd
 b:Cu K fd ps []
def K0 (K:PySem.W.Frag)(P1:Addr):Sp:=fun vs H Q _=>∃(a:Addr) (ns:List Int),vs=[.ref a]∧Aq K H a (ns.map V.int)∧ns.length≤63∧H P1=some (.tbl #[])∧∀ H',Q (.bl true) H'
theorem Em {t u:TS}{D:F6}{σ:St}{H:Hp}(J:St→Hp→Prop)(a:∀ N:St→Hp→Prop,(∀ σ' H',J σ' H'→N σ' H')→t { D with nx:=N } σ H)(Eb:∀ σ' H',J σ' H'→u D σ' H'):Nc t u D σ H:=a _ Eb
theorem K1 {W:List Str}{w:Str}(h:w∈W):Hv (.str w) (W.map V.str)=true:=by
 unfold Hv
 rw[List.any_map,List.any_eq_true]
 exact⟨w,h,by simp[Function.comp,IP]⟩
theorem JU {W:List Str}{w:Str}:Hv (.str w) (W.map V.str)=decide (w∈W):=by
 by_cases h:w∈W
 ·rw[K1 h,decide_eq_true h]
 ·rw[decide_eq_false h]
  unfold Hv
  rw[List.any_map,List.any_eq_false]
  intro v hv e
  have:v=w:=by simpa [Function.comp,IP]using e
  exact h (this▸hv)
def K2:Sp:=fun _ _ _ _=>False
def Ob:Sp:=fun vs H Q _=>∃(a:Addr) (ys:List V) (m:Int),vs=[.ref a,.int m]∧H a=some (.lst ys)∧(ys.length:Int)≤m∧∀ H',AG H H'→Q (.bl true) H'
def Oc:Sp:=fun vs H Q _=>∃(i m:Int),vs=[.int i,.int m]∧0≤i∧i≤m∧Q (.bl true) H
def DP (zs:List Str):Prop:=1≤zs.length∧zs.length≤4∧zs.Nodup∧∀ z∈zs,Nm z
def Od:Sp:=fun vs H Q _=>∃(a:Addr) (zs:List Str),vs=[.ref a]∧H a=some (.lst (zs.map V.str))∧DP zs∧∀ H',AG H H'→Q (.bl true) H'
def K3:Sp:=fun vs H Q _=>∃(a:Addr),vs=[.ref a]∧H a=some (.lst [])∧∀ H',AG H H'→Q (.bl true) H'
def Oe:Sp:=fun vs H Q _=>∃(a:Addr) (v:V),vs=[.ref a,v]∧H a=some (.lst [])∧∀ H',AG H H'→Q (.bl true) H'
def qS:Str:=Str.ofString "sorted_by_first"++Str.ofString ".<locals>."++Str.ofString "<lambda>"
def Of (P:Addr):Sp:=fun vs H Q _=>∃(a:Addr),vs=[.ref a]∧H a=some (.lst [])∧DO H P qS∧∀(b:Addr) (H':Hp),H' b=some (.tup [])→Ac P H H'→DO H' P qS→Q (.ref b) H'
def FR (H:Hp)(b:Addr)(zs:List Str):Prop:=∃ t1 t2 t3 t4:Addr,H b=some (.tup [.ref t1,.ref t2,.ref t3,.ref t4,.int 0])∧H t1=some (.tup (zs.map V.str))∧H t2=some (.tup [])∧H t3=some (.tup [])∧H t4=some (.tup [])
theorem FR.kp {H H':Hp}{b:Addr}{zs:List Str}(h:FR H b zs)(s:Kp H H'):FR H' b zs:=by
 obtain⟨t1,t2,t3,t4,a,c,d,e,f⟩:=h
 exact⟨t1,t2,t3,t4,s _ _ a,s _ _ c,s _ _ d,s _ _ e,s _ _ f⟩
def Og (P:Addr):Sp:=fun vs H Q _=>∃(a c n o:Addr) (zs:List Str),vs=[.ref a,.ref c,.ref n,.ref o,.int 0]∧H a=some (.lst (zs.map V.str))∧H c=some (.lst [])∧H n=some (.lst [])∧H o=some (.lst [])∧DP zs∧DO H P qS∧∀(b:Addr) (H':Hp),FR H' b zs→Ac P H H'→Q (.ref b) H'
section
variable (sh:Str)(zs:List Str)
def EB (s:Option Str):Str:=s.getD sh
def G8:Lf→Lf
 | .cell s c=>if EB sh s∈zs then .cell (some (EB sh s)) c else .flt (zS "gone")
 | .rng s c d=>if EB sh s∈zs then .rng (some (EB sh s)) c d else .flt (zS "gone")
 | .cols s i x j y=>if EB sh s∈zs then .rng (some (EB sh s)) ⟨1,i,true,x⟩ ⟨16,j,true,y⟩else .flt (zS "gone")
 | .gone=>.flt (zS "gone")
 | .nam _=>.flt (zS "name")
 | l=>l
mutual
def Gp:Fm→Fm
 | .lf l=>.lf (G8 sh zs l)
 | .nd k ps=>if BN k=true then .lf (.flt (zS "name"))else .nd k (Bu ps)
def Bu:List Fm→List Fm
 | []=>[]
 | f::fs=>Gp f::Bu fs
end
mutual
def B0:Fm→List Fm
 | .lf l=>[.lf (G8 sh zs l)]
 | .nd k ps=>if BN k=true then [.lf (.flt (zS "name"))]else BA ps++[.nd k ps]
def BA:List Fm→List Fm
 | []=>[]
 | f::fs=>B0 f++BA fs
end
theorem Dk:∀ ps:List Fm,(Bu sh zs ps).length=ps.length
 | []=>by rw[Bu]
 | f::fs=>by rw[Bu,List.length_cons,List.length_cons,Dk fs]
theorem Hg:∀ ps:List Fm,Bu sh zs ps=ps.map (Gp sh zs)
 | []=>by rw[Bu];rfl
 | f::fs=>by rw[Bu,Hg fs];rfl
def Dl (st:List Fm)(g:Fm):List Fm:=st.take (st.length-(Bi g).length)++[match g with | .lf l=>.lf l | .nd k _=>.nd k (st.drop (st.length-(Bi g).length))]
def Lw:Fm→Fm
 | .lf l=>.lf l
 | .nd k ps=>.nd k (Bu sh zs ps)
theorem En (st:List Fm)(g:Fm):Dl (st++Bu sh zs (Bi g)) g=st++[Lw sh zs g]:=by
 unfold Dl
 have e:(st++Bu sh zs (Bi g)).length-(Bi g).length=st.length:=by rw[List.length_append,Dk];omega
 rw[e,List.take_left,List.drop_left]
 cases g with
 | lf l=>rfl
 | nd k ps=>rfl
mutual
theorem Ik:∀(f:Fm) (st:List Fm),(B0 sh zs f).foldl Dl st=st++[Gp sh zs f]
 | .lf l,st=>by
  rw[B0,List.foldl_cons,List.foldl_nil,Gp]
  have:=En sh zs st (.lf (G8 sh zs l))
  rw[show Bu sh zs (Bi (.lf (G8 sh zs l)))=[]by rw[show Bi (.lf (G8 sh zs l))=[]from rfl,Bu],List.append_nil]at this
  exact this
 | .nd k ps,st=>by
  rw[B0,Gp]
  by_cases ho:BN k=true
  ·rw[if_pos ho,if_pos ho,List.foldl_cons,List.foldl_nil]
   have:=En sh zs st (.lf (.flt (zS "name")))
   rw[show Bu sh zs (Bi (.lf (.flt (zS "name"))))=[]by rw[show Bi (.lf (.flt (zS "name")))=[]from rfl,Bu],List.append_nil]at this
   exact this
  ·rw[if_neg ho,if_neg ho,List.foldl_append,Gq ps st,List.foldl_cons,List.foldl_nil]
   exact En sh zs st (.nd k ps)
theorem Gq:∀(fs:List Fm) (st:List Fm),(BA sh zs fs).foldl Dl st=st++Bu sh zs fs
 | [],st=>by rw[BA,Bu,List.append_nil];rfl
 | f::fs,st=>by rw[BA,List.foldl_append,Ik f st,Gq fs,Bu,List.append_assoc];rfl
end
mutual
theorem MR:∀(f:Fm) (st:List Fm) (i:Nat) (g:Fm),(B0 sh zs f)[i]?=some g→∃ st',((B0 sh zs f).take i).foldl Dl st=st'++Bu sh zs (Bi g)
 | .lf l,st,i,g,h=>by
  rw[B0]at h ⊢
  have hi:i<1:=(List.getElem?_eq_some_iff.mp h).1
  have h0:i=0:=by omega
  subst h0
  cases h
  exact⟨st,by rw[show Bi (.lf (G8 sh zs l))=[]from rfl,Bu,List.append_nil];rfl⟩
 | .nd k ps,st,i,g,h=>by
  rw[B0]at h ⊢
  by_cases ho:BN k=true
  ·rw[if_pos ho]at h ⊢
   have hi:i<1:=(List.getElem?_eq_some_iff.mp h).1
   have h0:i=0:=by omega
   subst h0
   cases h
   exact⟨st,by rw[show Bi (.lf (.flt (zS "name")))=[]from rfl,Bu,List.append_nil];rfl⟩
  rw[if_neg ho]at h ⊢
  by_cases c:i<(BA sh zs ps).length
  ·rw[List.getElem?_append_left c]at h
   obtain⟨st',e⟩:=K4 ps st i g h
   exact⟨st',by rw[List.take_append_of_le_length (by omega)];exact e⟩
  ·have hi:i<(BA sh zs ps++[Fm.nd k ps]).length:=(List.getElem?_eq_some_iff.mp h).1
   rw[List.length_append,List.length_singleton]at hi
   have e:i=(BA sh zs ps).length:=by omega
   subst e
   rw[List.getElem?_append_right (Nat.le_refl _),Nat.sub_self]at h
   cases h
   exact⟨st,by rw[List.take_left,Gq];rfl⟩
theorem K4:∀(fs:List Fm) (st:List Fm) (i:Nat) (g:Fm),(BA sh zs fs)[i]?=some g→∃ st',((BA sh zs fs).take i).foldl Dl st=st'++Bu sh zs (Bi g)
 | [],st,i,g,h=>by rw[BA]at h;simp at h
 | f::fs,st,i,g,h=>by
  rw[BA]at h ⊢
  by_cases c:i<(B0 sh zs f).length
  ·rw[List.getElem?_append_left c]at h
   obtain⟨st',e⟩:=MR f st i g h
   exact⟨st',by rw[List.take_append_of_le_length (by omega)];exact e⟩
  ·rw[List.getElem?_append_right (by omega)]at h
   obtain⟨st',e⟩:=K4 fs (st++[Gp sh zs f]) _ g h
   refine⟨st',?_⟩
   rw[List.take_append,List.take_of_length_le (by omega),List.foldl_append,Ik]
   exact e
end
end
def MS (w:Str):Bool:=decide (w∉[zS "gone",zS "cell",zS "range",zS "columns",zS "name"])
theorem MT {k:Kd}{m:Nat}(ok:EQ k m):MS (kw k)=true:=by
 cases k with
 | op z=>show MS (zS "op")=true;nofun
 | neg=>show MS (zS "neg")=true;nofun
 | own z=>show MS (zS "own")=true;nofun
 | sumif z=>show MS (zS "sumif")=true;nofun
 | grid a b=>show MS (zS "grid")=true;nofun
 | wd z=>
  have:∀ x∈G7,MS x.1=true:=by nofun
  exact this _ ok
theorem F0 {w x:Str}(h:MS w=true)(hx:x∈[zS "gone",zS "cell",zS "range",zS "columns",zS "name"]):decide (V.str w=V.str x)=false:=decide_eq_false fun e=>by
 injection e with e
 exact of_decide_eq_true h (e▸hx)
def Gr:Fm→Bool
 | .lf (.nam _)=>true
 | _=>false
def Hh:Fm→Bool
 | .nd k _=>BN k
 | _=>false
theorem Lx {H:Hp}{v:V}{f:Fm}{pr n:Nat}(hv:Az H v f)(fo:FO pr n f):∃(a:Addr) (w:Str) (r:List V),v=.ref a∧H a=some (.tup (.str w::r))∧decide (V.str w=V.str (zS "name"))=Gr f∧decide (V.str w=V.str (zS "own"))=Hh f:=by
 cases hv with
 | @lf a l hl=>
  cases l with
  | val v=>obtain⟨q,ha,_⟩:=hl;exact⟨a,_,_,rfl,ha,(show decide (V.str (zS "value")=V.str (zS "name"))=false by nofun),(show decide (V.str (zS "value")=V.str (zS "own"))=false by nofun)⟩
  | cell s c=>obtain⟨q,ha,_⟩:=hl;exact⟨a,_,_,rfl,ha,(show decide (V.str (zS "cell")=V.str (zS "name"))=false by nofun),(show decide (V.str (zS "cell")=V.str (zS "own"))=false by nofun)⟩
  | rng s c d=>obtain⟨q,q2,ha,_⟩:=hl;exact⟨a,_,_,rfl,ha,(show decide (V.str (zS "range")=V.str (zS "name"))=false by nofun),(show decide (V.str (zS "range")=V.str (zS "own"))=false by nofun)⟩
  | cols s i x j y=>obtain⟨q,q2,ha,_⟩:=hl;exact⟨a,_,_,rfl,ha,(show decide (V.str (zS "columns")=V.str (zS "name"))=false by nofun),(show decide (V.str (zS "columns")=V.str (zS "own"))=false by nofun)⟩
  | gone=>exact⟨a,_,_,rfl,hl,(show decide (V.str (zS "gone")=V.str (zS "name"))=false by nofun),(show decide (V.str (zS "gone")=V.str (zS "own"))=false by nofun)⟩
  | nam z=>exact⟨a,_,_,rfl,hl,(show decide (V.str (zS "name")=V.str (zS "name"))=true by nofun),(show decide (V.str (zS "name")=V.str (zS "own"))=false by nofun)⟩
  | par i=>exact⟨a,_,_,rfl,hl,(show decide (V.str (zS "param")=V.str (zS "name"))=false by nofun),(show decide (V.str (zS "param")=V.str (zS "own"))=false by nofun)⟩
  | flt z=>exact⟨a,_,_,rfl,hl,(show decide (V.str (zS "fault")=V.str (zS "name"))=false by nofun),(show decide (V.str (zS "fault")=V.str (zS "own"))=false by nofun)⟩
 | @nd a t kd us ps ha ht hl hh=>
  cases fo with
  | nd ok hps=>
   obtain⟨r0,er⟩:=Gn t kd us
   exact⟨a,kw kd,r0,rfl,by rw[ha,er],F0 (MT ok) (by simp),Ih ok⟩
theorem GU (sh:Str)(zs:List Str):∀ a b:List Fm,BA sh zs (a++b)=BA sh zs a++BA sh zs b
 | [],b=>by rw[List.nil_append,BA,List.nil_append]
 | f::a,b=>by rw[List.cons_append,BA,BA,GU sh zs a b,List.append_assoc]
def Rz (sh:Str)(zs:List Str):Fm→Fm
 | .lf l=>.lf (G8 sh zs l)
 | f=>f
theorem Ly {sh:Str}{zs:List Str}{f:Fm}(h1:Gr f=false)(h2:Hh f=false):B0 sh zs f=BA sh zs (Bi f)++[Rz sh zs f]:=by
 cases f with
 | lf l=>rw[B0,show Bi (.lf l)=[]from rfl,BA];rfl
 | nd k ps=>rw[B0,if_neg (by rw[show BN k=false from h2];decide)];rfl
theorem K5 {g:Fm}:∀{ps:List Fm},g∈ps→DS g≤EJ ps
 | f::fs,h=>by
  rw[EJ]
  rcases List.mem_cons.mp h with e | e
  ·rw[e];omega
  ·have:=K5 e;omega
theorem FO.prt1 {pr n:Nat}{f:Fm}(h:FO pr (n+1) f):∀ g∈Bi f,FO pr n g:=fun g hg=>by
 cases h with
 | lf h=>cases hg
 | nd h hp=>exact hp g hg
theorem JV {sh:Str}{zs:List Str}{f:Fm}(h:(Gr f||Hh f)=true):B0 sh zs f=[.lf (.flt (zS "name"))]:=by
 cases f with
 | lf l=>
  cases l with
  | nam z=>rw[B0];rfl
  | val v=>cases h
  | cell s c=>cases h
  | rng s c d=>cases h
  | cols s i x j y=>cases h
  | gone=>cases h
  | par i=>cases h
  | flt z=>cases h
 | nd k ps=>rw[B0,if_pos (by simpa [Gr,Hh]using h)]
def TD (s:V)(t1 c r:Addr):List (Str×V):=[("sheet",s),("sheets",.ref t1),("called",.ref c),("known_rows",.ref r)]
def Gs (C:Addr)(H:Hp)(u d:Addr)(sh:Str)(zs:List Str):Prop:=∃ t1 c r:Addr,H u=some (.ins C d (TD (.str sh) t1 c r))∧H t1=some (.tup (zs.map V.str))∧H c=some (.dT [])
theorem Gs.same {C:Addr}{H H':Hp}{u d:Addr}{sh:Str}{zs:List Str}(h:Gs C H u d sh zs)(s:AG H H'):Gs C H' u d sh zs:=by
 obtain⟨t1,c,r,a,b,e⟩:=h
 exact⟨t1,c,r,s _ _ a,s _ _ b,s _ _ e⟩
def Oh:Sp:=fun vs H Q _=>∃(b:Addr) (zs:List Str),vs=[.ref b]∧FR H b zs∧∀(c:Addr) (H':Hp),H c=none→H' c=some (.dT [])→AG H H'→Q (.ref c) H'
def Oi (C:Addr):Sp:=fun vs H Q _=>∃(x dx b:Addr) (sh:Str) (zs:List Str),vs=[.ref x,.ref b,.str sh]∧H x=some (.ins C dx [])∧FR H b zs∧∀ H',Gs C H' x dx sh zs→Ac x H H'→Q .non H'
def MU:Lf→Bool
 | .cell ..=>true
 | .rng ..=>true
 | .cols ..=>true
 | _=>false
def Oj:Sp:=fun vs H Q _=>∃(z:Str) (p q:Addr) (i j:Int) (x y:Bool),vs=[.str z,.ref p,.ref q]∧H p=some (.tup [.int i,.bl x])∧H q=some (.tup [.int j,.bl y])∧∀(a:Addr) (H':Hp),CD H' a (.rng (some z) ⟨1,i,true,x⟩ ⟨16,j,true,y⟩)→AG H H'→Q (.ref a) H'
def Ol (C:Addr):Sp:=fun vs H Q _=>∃(u d a:Addr) (sh:Str) (zs:List Str) (l:Lf),vs=[.ref u,.ref a]∧Gs C H u d sh zs∧CD H a l∧MU l=true∧∀(b:Addr) (H':Hp),CD H' b (G8 sh zs l)→AG H H'→Q (.ref b) H'
def K6:Fm→Bool
 | .lf (.nam _)=>false
 | .lf _=>true
 | .nd k _=>!BN k
def Om (C:Addr):Sp:=fun vs H Q _=>∃(u d:Addr) (v:V) (sh:Str) (zs:List Str) (f:Fm) (n:Nat),vs=[.ref u,v]∧Gs C H u d sh zs∧Az H v f∧FO 0 n f∧K6 f=true∧∀(x:V) (H':Hp),Az H' x (Rz sh zs f)→AG H H'→Q x H'
def On (C:Addr):Sp:=fun vs H Q _=>∃(u d w:Addr) (v:V) (sh:Str) (zs:List Str) (f:Fm) (n:Nat),vs=[.ref u,v,.ref w]∧Gs C H u d sh zs∧Az H v f∧FO 0 n f∧K6 f=false∧H w=some (.tup [])∧∀(l:Addr) (ws:List V) (H':Hp),H l=none→H' l=some (.lst ws)→A3 H' ws [.lf (.flt (zS "name"))]→AG H H'→Q (.ref l) H'
def Oo (C:Addr)(n:Nat):Sp:=fun vs H Q _=>∃(u d w:Addr) (v:V) (sh:Str) (zs:List Str) (f:Fm),vs=[.ref u,v,.ref w]∧Gs C H u d sh zs∧Az H v f∧FO 0 n f∧DS f≤200∧H w=some (.tup [])∧∀(l:Addr) (ws:List V) (H':Hp),H l=none→H' l=some (.lst ws)→A3 H' ws (B0 sh zs f)→AG H H'→Q (.ref l) H'
def Op (C:Addr):Sp:=fun vs H Q _=>∃(u d:Addr) (v:V) (sh:Str) (zs:List Str) (f:Fm),vs=[.ref u,v]∧Gs C H u d sh zs∧(∀ z∈zs,Nm z)∧Nm sh∧Az H v f∧FO 0 6 f∧DS f≤200∧∀(x:V) (H':Hp),Az H' x (Gp sh zs f)→AG H H'→Q x H'
def Oq:Sp:=fun vs H Q _=>∃(b:Addr) (v:V) (sh:Str) (zs:List Str) (f:Fm),vs=[.ref b,.str sh,v]∧FR H b zs∧(∀ z∈zs,Nm z)∧Nm sh∧Az H v f∧FO 0 6 f∧DS f≤200∧∀(x:V) (H':Hp),Az H' x (Gp sh zs f)→AG H H'→Q x H'
theorem K8 {pr:Nat}{sh:Str}{zs:List Str}{l:Lf}(hz:∀ z∈zs,Nm z)(h:E8 pr l):E8 pr (G8 sh zs l):=by
 cases l with
 | val v=>exact h
 | cell s c=>
  show E8 pr (if EB sh s∈zs then .cell (some (EB sh s)) c else .flt (zS "gone"))
  by_cases c1:EB sh s∈zs
  ·rw[if_pos c1];exact⟨hz _ c1,h.2⟩
  ·rw[if_neg c1];trivial
 | rng s c d=>
  show E8 pr (if EB sh s∈zs then .rng (some (EB sh s)) c d else .flt (zS "gone"))
  by_cases c1:EB sh s∈zs
  ·rw[if_pos c1];exact⟨hz _ c1,h.2⟩
  ·rw[if_neg c1];trivial
 | cols s i x j y=>
  show E8 pr (if EB sh s∈zs then .rng (some (EB sh s)) ⟨1,i,true,x⟩ ⟨16,j,true,y⟩else .flt (zS "gone"))
  by_cases c1:EB sh s∈zs
  ·rw[if_pos c1]
   obtain⟨_,h1,h2,h3⟩:=h
   exact⟨hz _ c1,⟨(by show(1:Int)≤1;decide),(by show(1:Int)≤16;decide),h1,by show i≤8;omega⟩,⟨(by show(1:Int)≤16;decide),(by show(16:Int)≤16;decide),by show 1≤j;omega,h3⟩,(by show(1:Int)≤16;decide),h2⟩
  ·rw[if_neg c1];trivial
 | gone=>trivial
 | nam z=>trivial
 | par i=>exact h
 | flt z=>trivial
mutual
theorem K9 {sh:Str}{zs:List Str}(hz:∀ z∈zs,Nm z):∀(f:Fm) (n:Nat),FO 0 n f→∀ g∈B0 sh zs f,FO 0 n g
 | .lf l,n,h,g,hg=>by
  rw[B0]at hg
  rw[List.mem_singleton.mp hg]
  cases h with
  | lf h=>exact .lf (K8 hz h)
 | .nd k ps,n,h,g,hg=>by
  rw[B0]at hg
  have h0:=h
  cases h with
  | @nd n _ _ hk hp=>
   by_cases ho:BN k=true
   ·rw[if_pos ho]at hg
    rw[List.mem_singleton.mp hg]
    exact .lf trivial
   ·rw[if_neg ho]at hg
    rcases List.mem_append.mp hg with q | q
    ·exact(JW hz ps n hp g q).mono (Nat.le_succ _)
    ·rw[List.mem_singleton.mp q];exact h0
theorem JW {sh:Str}{zs:List Str}(hz:∀ z∈zs,Nm z):∀(ps:List Fm) (n:Nat),(∀ f∈ps,FO 0 n f)→∀ g∈BA sh zs ps,FO 0 n g
 | [],n,h,g,hg=>by rw[BA]at hg;cases hg
 | f::fs,n,h,g,hg=>by
  rw[BA]at hg
  rcases List.mem_append.mp hg with q | q
  ·exact K9 hz f n (h f (by simp)) g q
  ·exact JW hz fs n (fun x hx=>h x (List.mem_cons_of_mem _ hx)) g q
end
mutual
theorem Gu (sh:Str)(zs:List Str):∀ f:Fm,(B0 sh zs f).length≤DS f
 | .lf l=>by rw[B0,DS];exact Nat.le_refl _
 | .nd k ps=>by
  rw[B0,DS]
  have:=Eo sh zs ps
  by_cases ho:BN k=true
  ·rw[if_pos ho];show 1≤_;omega
  ·rw[if_neg ho,List.length_append];show _+1≤_;omega
theorem Eo (sh:Str)(zs:List Str):∀ ps:List Fm,(BA sh zs ps).length≤EJ ps
 | []=>by rw[BA];exact Nat.zero_le _
 | f::fs=>by
  rw[BA,EJ,List.length_append]
  have a:=Gu sh zs f
  have b:=Eo sh zs fs
  omega
end
theorem JX {f:Fm}:K6 f=!(Gr f||Hh f):=by
 cases f with
 | lf l=>cases l <;> rfl
 | nd k ps=>simp[K6,Gr,Hh]
theorem GV:∀(l:List Fm) (st:List Fm),(l.foldl Dl st).length≤st.length+l.length
 | [],st=>Nat.le_refl _
 | g::l,st=>by
  rw[List.foldl_cons,List.length_cons]
  refine Nat.le_trans (GV l _) ?_
  have:(Dl st g).length≤st.length+1:=by
   unfold Dl
   rw[List.length_append,List.length_take,List.length_singleton];omega
  omega
theorem NK {H:Hp}{v:V}{sh:Str}{zs:List Str}{g:Fm}{y:Addr}{ws:List V}(h:OW H v g y ws)(hv:Az H v g)(fm:A3 H ws (Bu sh zs (Bi g))):Az H (.ref y) (Lw sh zs g):=by
 cases g with
 | lf l=>
  obtain⟨a,its,rfl,ha,hy,_⟩:=h
  cases hv with
  | lf hl=>
   refine .lf ?_
   cases l with
   | val v=>obtain⟨q,e,x⟩:=hl;rw[ha]at e;cases e;exact⟨q,hy,x⟩
   | cell s c=>obtain⟨q,e,x⟩:=hl;rw[ha]at e;cases e;exact⟨q,hy,x⟩
   | rng s c d=>obtain⟨q,u,e,x⟩:=hl;rw[ha]at e;cases e;exact⟨q,u,hy,x⟩
   | cols s i x j z=>obtain⟨q,u,e,x⟩:=hl;rw[ha]at e;cases e;exact⟨q,u,hy,x⟩
   | gone=>have e:H a=_:=hl;rw[ha]at e;cases e;exact hy
   | nam z=>have e:H a=_:=hl;rw[ha]at e;cases e;exact hy
   | par i=>have e:H a=_:=hl;rw[ha]at e;cases e;exact hy
   | flt z=>have e:H a=_:=hl;rw[ha]at e;cases e;exact hy
 | nd k ps=>
  obtain⟨t,hy,ht⟩:=h
  refine .nd hy ht (Paired.length fm) fun j u g e1 e2=>?_
  obtain⟨g',e3,x⟩:=B6 fm e1
  have e2':(Bu sh zs (Bi (.nd k ps)))[j]?=some g:=e2
  rw[e3]at e2'
  cases e2'
  exact x
inductive Ak (H:Hp):Nat→V→V→Prop where
 | fl {n:Nat} {x:V} (h:Au x=true):Ak H n x x
 | tp {n:Nat} {a b:Addr} {xs ys:List V} (h1:H a=some (.tup xs)) (h2:H b=some (.tup ys)) (h5:xs.length≤10) (hl:xs.length=ys.length)
  (hh:∀(j:Nat) (u v:V),xs[j]?=some u→ys[j]?=some v→Ak H n u v):Ak H (n+1) (.ref a) (.ref b)
theorem DQ {H:Hp}{n:Nat}{a b:Addr}{xs:List V}(h1:H a=some (.tup xs))(h2:H b=some (.tup xs))(hf:xs.all Au=true)(h5:xs.length≤10:=by simp):Ak H (n+1) (.ref a) (.ref b):=
 .tp h1 h2 h5 rfl fun j u v e1 e2=>by
  rw[e1]at e2
  cases e2
  exact .fl (List.all_eq_true.mp hf u (List.mem_of_getElem? e1))
theorem Il {H:Hp}{n:Nat}{x y:V}(h:Ak H n x y):∀{m:Nat},n≤m→Ak H m x y:=by
 induction h with
 | fl h=>intro m _;exact .fl h
 | tp h1 h2 h5 hl _ ih=>
  intro m hm
  obtain⟨m,rfl⟩:∃ k,m=k+1:=⟨m-1,by omega⟩
  exact .tp h1 h2 h5 hl fun j u v e1 e2=>ih j u v e1 e2 (by omega)
theorem NV {H:Hp}{n:Nat}{a b:Addr}{xs ys:List V}(h1:H a=some (.tup xs))(h2:H b=some (.tup ys))(h:Paired (Ak H n) xs ys)(h5:xs.length≤10:=by simp):Ak H (n+1) (.ref a) (.ref b):=
 .tp h1 h2 h5 (Paired.length h) fun j u v e1 e2=>by
  obtain⟨w,e3,x⟩:=B6 h e1
  rw[e3]at e2
  cases e2
  exact x
theorem NL {H:Hp}{n:Nat}(s:Option Str):Ak H n (JQ s) (JQ s):=by cases s <;> exact .fl rfl
theorem CD.ak {H:Hp}{a b:Addr}{l:Lf}{pr:Nat}(ok:E8 pr l)(h1:CD H a l)(h2:CD H b l):Ak H 2 (.ref a) (.ref b):=by
 cases l with
 | val v=>
  obtain⟨q,x1,y1⟩:=h1
  obtain⟨r,x2,y2⟩:=h2
  refine NV x1 x2 (.cons (.fl rfl) (.cons ?_ .nil))
  obtain⟨_,w⟩:=ok
  cases v with
  | none=>exact w.elim
  | flt w' z r c=>exact w.elim
  | num t b=>exact DQ y1 y2 rfl
  | txt z=>exact DQ y1 y2 rfl
  | tru b=>exact DQ y1 y2 rfl
 | cell s c=>
  obtain⟨q,x1,y1⟩:=h1
  obtain⟨r,x2,y2⟩:=h2
  exact NV x1 x2 (.cons (.fl rfl) (.cons (NL s) (.cons (DQ y1 y2 rfl) .nil)))
 | rng s c d=>
  obtain⟨q,u,x1,y1,z1⟩:=h1
  obtain⟨r,v,x2,y2,z2⟩:=h2
  exact NV x1 x2 (.cons (.fl rfl) (.cons (NL s) (.cons (DQ y1 y2 rfl) (.cons (DQ z1 z2 rfl) .nil))))
 | cols s i x j y=>
  obtain⟨q,u,x1,y1,z1⟩:=h1
  obtain⟨r,v,x2,y2,z2⟩:=h2
  exact NV x1 x2 (.cons (.fl rfl) (.cons (NL s) (.cons (DQ y1 y2 rfl) (.cons (DQ z1 z2 rfl) .nil))))
 | gone=>exact Il (DQ (n:=0) h1 h2 rfl) (by decide)
 | nam z=>exact Il (DQ (n:=0) h1 h2 rfl) (by decide)
 | par i=>exact Il (DQ (n:=0) h1 h2 rfl) (by decide)
 | flt z=>exact Il (DQ (n:=0) h1 h2 rfl) (by decide)
theorem Lz (t:Addr)(k:Kd)(us:List V):(Ce t k us).length≤us.length+3:=by
 cases k with
 | op z=>show us.length+2≤_;omega
 | neg=>show us.length+1≤_;omega
 | own z=>show 3≤_;omega
 | sumif z=>
  show(us.take 1++V.str z::us.drop 1).length+1≤_
  rw[List.length_append,List.length_cons,List.length_take,List.length_drop];omega
 | grid i j=>show us.length+3≤_;omega
 | wd z=>show us.length+1≤_;omega
theorem Os {H:Hp}{n:Nat}{k:Kd}{t t':Addr}{us ws:List V}(ok:EQ k us.length)(h:Paired (Ak H n) us ws)(h1:BN k=true→H t=some (.tup us))(h2:BN k=true→H t'=some (.tup ws)):Paired (Ak H (n+1)) (Ce t k us) (Ce t' k ws):=by
 have up:Paired (Ak H (n+1)) us ws:=Paired.imp' (fun _ _ x=>Il x (Nat.le_succ _)) h
 cases k with
 | op z=>exact .cons (.fl rfl) (.cons (.fl rfl) up)
 | neg=>exact .cons (.fl rfl) up
 | own z=>exact .cons (.fl rfl) (.cons (.fl rfl) (.cons (NV (h1 rfl) (h2 rfl) h (by have:=ok.2.2;omega)) .nil))
 | sumif z=>
  obtain⟨u1,u2,u3,rfl⟩:=Kt (show us.length=3 from ok.2)
  obtain⟨w1,w2,w3,rfl⟩:=Kt ((Paired.length h).symm.trans (show [u1,u2,u3].length=3 from rfl))
  cases up with
  | cons a r=>
   cases r with
   | cons b r=>exact .cons (.fl rfl) (.cons a (.cons (.fl rfl) (.cons b r)))
 | grid i j=>exact .cons (.fl rfl) (.cons (.fl rfl) (.cons (.fl rfl) up))
 | wd z=>exact .cons (.fl rfl) up
theorem LA {H:Hp}{n:Nat}:∀{us ws:List V} {ps:List Fm},A3 H us ps→A3 H ws ps→(∀ g∈ps,∀ x y,Az H x g→Az H y g→Ak H n x y)→Paired (Ak H n) us ws
 | _,_,_,.nil,.nil,_=>.nil
 | _,_,_,.cons a r,.cons b s,h=>.cons (h _ (by simp) _ _ a b) (LA r s fun g hg=>h g (List.mem_cons_of_mem _ hg))
theorem FO.ak {H:Hp}{pr n:Nat}{f:Fm}(fo:FO pr n f):∀{x y:V},Az H x f→Az H y f→Ak H (2*n) x y:=by
 induction fo with
 | @lf n l ok=>
  intro x y h1 h2
  cases h1 with
  | lf h1=>
   cases h2 with
   | lf h2=>exact Il (CD.ak ok h1 h2) (by omega)
 | @nd n k ps ok hp ih=>
  intro x y h1 h2
  cases h1 with
  | @nd a t _ us _ ha ht hl hh=>
   cases h2 with
   | @nd a' t' _ us' _ ha' ht' hl' hh'=>
    have p:=LA (n:=2*n) (Az.parts hl hh) (Az.parts hl' hh') fun g hg x y=>ih g hg
    exact Il (NV ha ha' (Os (by rw[hl];exact ok) p ht ht') (by have a:=Lz t k us;have b:=ok.le;omega)) (by omega)
def Ot (K:PySem.W.Frag):Sp:=fun vs H Q _=>∃(p:Addr) (k:Nat) (S:Addr×List Int),vs=[.ref p]∧BP K S H p k∧k≤8000000∧∀(q:Addr) (v:Vl) (H':Hp),CQ H' q v→GC v→Qr v→BP K S H' p (k+2)→Ac p H H'→Q (.ref q) H'
def Ou (K:PySem.W.Frag):Sp:=fun vs H Q _=>∃(p:Addr) (k:Nat) (S:Addr×List Int),vs=[.ref p]∧BP K S H p k∧k≤8000000∧∀(q:Addr) (c:OU) (H':Hp),H' q=some (.tup (Kv c))→JR c→BP K S H' p (k+4)→Ac p H H'→Q (.ref q) H'
def Ov (K:PySem.W.Frag):Sp:=fun vs H Q _=>∃(p sl:Addr) (zs:List Str) (k:Nat) (S:Addr×List Int),vs=[.ref p,.ref sl,.bl false]∧BP K S H p k∧k≤8000000∧H sl=some (.lst (zs.map V.str))∧DP zs∧∀(s:Option Str) (H':Hp),Ku s→BP K S H' p (k+2)→Ac p H H'→Q (JQ s) H'
def Ow (K:PySem.W.Frag):Sp:=fun vs H Q _=>∃(p sl:Addr) (zs:List Str) (k:Nat) (S:Addr×List Int),vs=[.ref p,.ref sl,.bl false]∧BP K S H p k∧k≤7900000∧H sl=some (.lst (zs.map V.str))∧DP zs∧∀(a:Addr) (l:Lf) (H':Hp),CD H' a l→E8 0 l→BP K S H' p (k+12)→Ac p H H'→Q (.ref a) H'
def Ox (K:PySem.W.Frag):Sp:=fun vs H Q _=>∃(p sl:Addr) (zs:List Str) (k:Nat) (S:Addr×List Int),vs=[.ref p,.ref sl,.bl false,.int 0]∧BP K S H p k∧k≤7800000∧H sl=some (.lst (zs.map V.str))∧DP zs∧∀(a:Addr) (l:Lf) (H':Hp),CD H' a l→E8 0 l→BP K S H' p (k+14)→Ac p H H'→Q (.ref a) H'
def sB:Nat→Nat
 | 0=>1
 | n+1=>2*sB n+2
def uB:Nat→Nat
 | 0=>14
 | n+1=>2*uB n+20
def MV (K:PySem.W.Frag)(n:Nat):Sp:=fun vs H Q _=>∃(p sl:Addr) (zs:List Str) (k:Nat) (S:Addr×List Int),vs=[.ref p,.ref sl,.bl false,.int 0,.int (n:Int)]∧1≤n∧BP K S H p k∧k+uB n≤7000000∧H sl=some (.lst (zs.map V.str))∧DP zs∧∀(v:V) (f:Fm) (H':Hp),Az H' v f→FO 0 (n+1) f→DS f≤sB n→BP K S H' p (k+uB n)→Ac p H H'→Q v H'
def Oy (K:PySem.W.Frag)(n:Nat):Sp:=fun vs H Q _=>∃(p sl:Addr) (zs:List Str) (k:Nat) (S:Addr×List Int),vs=[.ref p,.ref sl,.bl false,.int 0,.int (n:Int)]∧BP K S H p k∧k+uB n≤7000000∧H sl=some (.lst (zs.map V.str))∧DP zs∧∀(v:V) (f:Fm) (H':Hp),Az H' v f→FO 0 (n+1) f→DS f≤sB n→BP K S H' p (k+uB n)→Ac p H H'→Q v H'
theorem Hi {K:PySem.W.Frag}{S:Addr×List Int}{H:Hp}{p sl:Addr}{k:Nat}{zs:List Str}(h:BP K S H p k)(hs:H sl=some (.lst (zs.map V.str)))(ok:DP zs):sl≠p:=fun e=>by
 obtain⟨c,r,hp,_⟩:=h
 rw[e,hp]at hs
 cases zs with
 | nil=>cases hs
 | cons z zs=>cases hs
def Oz (lo hi:Int)(L:List V):Bool:=L.all fun v=>match v with | .int i=>decide (lo≤i)&&decide (i≤hi) | _=>false
theorem Gv {lo hi:Int}{L:List V}{r:Int}(h:Oz lo hi L=true)(h0:0≤r)(h1:r<(L.length:Int)):∃ i,Gc L r=some (.int i)∧lo≤i∧i≤hi:=by
 obtain⟨j,rfl⟩:∃ j:Nat,r=(j:Int):=⟨r.toNat,by omega⟩
 have hj:j<L.length:=by omega
 have:=List.all_eq_true.mp h L[j] (List.getElem_mem hj)
 cases e:L[j]with
 | int i=>
  rw[e]at this
  simp only[Bool.and_eq_true,decide_eq_true_eq]at this
  exact⟨i,CA (by rw[List.getElem?_eq_getElem hj,e]),this.1,this.2⟩
 | str z=>rw[e]at this;cases this
 | bl i=>rw[e]at this;cases this
 | non=>rw[e]at this;cases this
 | ref i=>rw[e]at this;cases this
 | byt i=>rw[e]at this;cases this
 | flt i=>rw[e]at this;cases this
 | ty i=>rw[e]at this;cases this
def O0 (P:Str→Bool)(L:List V):Bool:=L.all fun v=>match v with | .str z=>P z | _=>false
theorem EC {P:Str→Bool}{L:List V}{r:Int}(h:O0 P L=true)(h0:0≤r)(h1:r<(L.length:Int)):∃ z,Gc L r=some (.str z)∧P z=true:=by
 obtain⟨j,rfl⟩:∃ j:Nat,r=(j:Int):=⟨r.toNat,by omega⟩
 have hj:j<L.length:=by omega
 have:=List.all_eq_true.mp h L[j] (List.getElem_mem hj)
 cases e:L[j]with
 | str z=>
  rw[e]at this
  exact⟨z,CA (by rw[List.getElem?_eq_getElem hj,e]),this⟩
 | int z=>rw[e]at this;cases this
 | bl i=>rw[e]at this;cases this
 | non=>rw[e]at this;cases this
 | ref i=>rw[e]at this;cases this
 | byt i=>rw[e]at this;cases this
 | flt i=>rw[e]at this;cases this
 | ty i=>rw[e]at this;cases this
def Q2 (z:Str):Bool:=decide (z.length≤20)&&z.cps.toList.all fun c=>decide (c∈(Str.ofString "abcdefghijklmnopqrstuvwxyz0123456789 ").cps.toList)
theorem NM {z:Str}(h:Q2 z=true):GC (.txt z):=by
 unfold Q2 at h
 rw[Bool.and_eq_true]at h
 exact⟨of_decide_eq_true h.1,fun c hc=>of_decide_eq_true (List.all_eq_true.mp h.2 c hc)⟩
theorem L0:Nm (zS "lost"):=Cd (by nofun)
theorem NN {zs:List Str}{r:Int}(nm:∀ z∈zs,Nm z)(h0:0≤r)(h1:r≤(zs.length:Int)):∃ z,Gc (zs.map V.str++[vS "lost"]) r=some (.str z)∧Nm z:=by
 obtain⟨j,rfl⟩:∃ j:Nat,r=(j:Int):=⟨r.toNat,by omega⟩
 by_cases hj:j<zs.length
 ·exact⟨zs[j],CA (by rw[List.getElem?_append_left (by rw[List.length_map];exact hj),List.getElem?_map,List.getElem?_eq_getElem hj];rfl),nm _ (List.getElem_mem hj)⟩
 ·have e:j=(zs.map V.str).length:=by rw[List.length_map];omega
  exact⟨zS "lost",CA (by rw[e,List.getElem?_append_right (Nat.le_refl _),Nat.sub_self];rfl),L0⟩
theorem Cz {H:Hp}{a t:Addr}{k:Kd}{us:List V}{ps:List Fm}{n:Nat}(h:H a=some (.tup (Ce t k us)))(ht:BN k=true→H t=some (.tup us))(fm:A3 H us ps)(ok:EQ k ps.length)(fo:∀ f∈ps,FO 0 n f):Az H (.ref a) (.nd k ps)∧FO 0 (n+1) (.nd k ps):=
 ⟨.nd h ht (Paired.length fm) fun j u f e1 e2=>by
  obtain⟨g,e3,x⟩:=B6 fm e1
  rw[e3]at e2
  cases e2
  exact x,.nd ok fo⟩
theorem Pn {k:Kd}{f:Fm}:DS (.nd k [f])=1+DS f:=by rw[DS,EJ,EJ];omega
theorem TF {k:Kd}:DS (.nd k [])=1:=by rw[DS,EJ]
theorem Po {k:Kd}{f g:Fm}:DS (.nd k [f,g])=1+DS f+DS g:=by rw[DS,EJ,EJ,EJ];omega
theorem Pp {k:Kd}{f g h:Fm}:DS (.nd k [f,g,h])=1+DS f+DS g+DS h:=by rw[DS,EJ,EJ,EJ,EJ];omega
theorem NW {l:Lf}:DS (.lf l)=1:=by rw[DS]
theorem Pq {n:Nat}{f:Fm}(h:FO 0 n f):∀ g∈[f],FO 0 n g:=fun g hg=>by rw[List.mem_singleton.mp hg];exact h
theorem O1 {n:Nat}{f g:Fm}(h:FO 0 n f)(h2:FO 0 n g):∀ x∈[f,g],FO 0 n x:=fun x hx=>by
 rcases List.mem_cons.mp hx with e | e
 ·rw[e];exact h
 ·rw[List.mem_singleton.mp e];exact h2
theorem Pr {n:Nat}{f g i:Fm}(h:FO 0 n f)(h2:FO 0 n g)(h3:FO 0 n i):∀ x∈[f,g,i],FO 0 n x:=fun x hx=>by
 rcases List.mem_cons.mp hx with e | e
 ·rw[e];exact h
 ·exact O1 h2 h3 x e
theorem O2:∀ n,1≤sB n
 | 0=>Nat.le_refl _
 | n+1=>by show 1≤2*sB n+2;omega
def Hj (z:Str):Bool:=(decide (1≤z.length)&&decide (z.length≤6)&&z.cps.toList.all fun c=>decide (97≤c)&&decide (c≤122))&&!NU z
theorem F1 {z:Str}(h:Hj z=true):Nm z∧NU z=false:=by
 unfold Hj at h
 rw[Bool.and_eq_true]at h
 exact⟨Cd h.1,by simpa using h.2⟩
theorem Kp.new0 {H:Hp}{p:Addr}{o:HO}(h:H p=none):Kp H (upd H p o):=Kp.same (AG.new h)
theorem TH {r:Int}(h0:0≤r)(h1:r<2):∃ c,Gc (Str.ofString "=<").cps.toList r=some c∧((⟨#[c]⟩:Str)=Str.ofString "="∨(⟨#[c]⟩:Str)=Str.ofString "<"):=by
 have:r=0∨r=1:=by omega
 rcases this with rfl | rfl
 ·exact⟨61,rfl,.inl (by nofun)⟩
 ·exact⟨60,rfl,.inr (by nofun)⟩
def O3 (n:Nat):Sp:=fun vs H Q _=>∃ x y:V,vs=[x,y]∧Ak H n x y∧∀ H',AG H H'→Q (.bl true) H'
theorem Ak.same {H H':Hp}{n:Nat}{x y:V}(h:Ak H n x y)(s:AG H H'):Ak H' n x y:=by
 induction h with
 | fl h=>exact .fl h
 | tp h1 h2 h5 hl _ ih=>exact .tp (s _ _ h1) (s _ _ h2) h5 hl ih
def O4 (K:PySem.W.Frag):Sp:=fun vs H Q _=>∃(p:Addr) (k:Nat) (S:Addr×List Int),vs=[.ref p]∧BP K S H p k∧k≤8000000∧∀(sl:Addr) (zs:List Str) (H':Hp),H' sl=some (.lst (zs.map V.str))→DP zs→BP K S H' p (k+1)→Ac p H H'→Q (.ref sl) H'
def O5:Lf→Bool
 | .gone=>true
 | l=>MU l
def O6:Sp:=fun vs H Q _=>∃(sl a:Addr) (sh:Str) (zs:List Str) (l:Lf),vs=[.ref sl,.str sh,.ref a]∧H sl=some (.lst (zs.map V.str))∧CD H a l∧O5 l=true∧∀(b:Addr) (H':Hp),CD H' b (G8 sh zs l)→AG H H'→Q (.ref b) H'
def O7 (n:Nat):Sp:=fun vs H Q _=>∃(sl:Addr) (v:V) (sh:Str) (zs:List Str) (f:Fm),vs=[.ref sl,.str sh,v]∧H sl=some (.lst (zs.map V.str))∧Az H v f∧FO 0 n f∧∀(x:V) (H':Hp),Az H' x (Gp sh zs f)→AG H H'→Q x H'
def Ca (H:Hp)(x:V):V ⊕ Fm→Prop
 | .inl v=>x=v∧Au v=true
 | .inr g=>Az H x g
theorem Ca.kp {H H':Hp}{x:V}{s:V ⊕ Fm}(h:Ca H x s)(q:Kp H H'):Ca H' x s:=by
 cases s with
 | inl v=>exact h
 | inr g=>exact Az.kp h q
def B1:Kd→List Fm→List (V ⊕ Fm)
 | .op z,ps=>.inl (vS "op")::.inl (.str z)::ps.map .inr
 | .neg,ps=>.inl (vS "neg")::ps.map .inr
 | .own z,ps=>[]
 | .sumif z,ps=>.inl (vS "sumif")::((ps.take 1).map .inr++.inl (.str z)::(ps.drop 1).map .inr)
 | .grid i j,ps=>.inl (vS "grid")::.inl (.int i)::.inl (.int j)::ps.map .inr
 | .wd z,ps=>.inl (.str z)::ps.map .inr
theorem Di {H:Hp}:∀{us:List V} {ps:List Fm},A3 H us ps→Paired (Ca H) us (ps.map .inr)
 | _,_,.nil=>.nil
 | _,_,.cons r t=>.cons r (Di t)
theorem FB {H:Hp}:∀{us:List V} {ps:List Fm},Paired (Ca H) us (ps.map .inr)→A3 H us ps
 | [],[],.nil=>.nil
 | _::_,_::_,.cons r t=>.cons r (FB t)
theorem L1 {H:Hp}{t:Addr}{k:Kd}{us:List V}{ps:List Fm}(ok:EQ k ps.length)(no:BN k=false)(fm:A3 H us ps):Paired (Ca H) (Ce t k us) (B1 k ps):=by
 cases k with
 | op z=>exact .cons ⟨rfl,rfl⟩ (.cons ⟨rfl,rfl⟩ (Di fm))
 | neg=>exact .cons ⟨rfl,rfl⟩ (Di fm)
 | own z=>cases no
 | sumif z=>exact .cons ⟨rfl,rfl⟩ (Lr (Di (Kz 1 fm)) (.cons ⟨rfl,rfl⟩ (Di (Ky 1 fm))))
 | grid i j=>exact .cons ⟨rfl,rfl⟩ (.cons ⟨rfl,rfl⟩ (.cons ⟨rfl,rfl⟩ (Di fm)))
 | wd z=>exact .cons ⟨rfl,rfl⟩ (Di fm)
theorem L3 {H:Hp}{t:Addr}{k:Kd}{ws:List V}{ps:List Fm}(ok:EQ k ps.length)(no:BN k=false)(h:Paired (Ca H) ws (B1 k ps)):∃ us,ws=Ce t k us∧A3 H us ps:=by
 cases k with
 | op z=>
  cases h with
  | cons a h=>
   cases h with
   | cons b h=>
    obtain⟨rfl,_⟩:=a
    obtain⟨rfl,_⟩:=b
    exact⟨_,rfl,FB h⟩
 | neg=>
  cases h with
  | cons a h=>
   obtain⟨rfl,_⟩:=a
   exact⟨_,rfl,FB h⟩
 | own z=>cases no
 | sumif z=>
  obtain⟨p1,p2,p3,rfl⟩:=Kt ok.2
  cases h with
  | cons a h=>
   cases h with
   | @cons u1 _ _ _ b h=>
    cases h with
    | cons c h=>
     obtain⟨rfl,_⟩:=a
     obtain⟨rfl,_⟩:=c
     exact⟨u1::_,rfl,.cons b (FB (ps:=[p2,p3]) h)⟩
 | grid i j=>
  cases h with
  | cons a h=>
   cases h with
   | cons b h=>
    cases h with
    | cons c h=>
     obtain⟨rfl,_⟩:=a
     obtain⟨rfl,_⟩:=b
     obtain⟨rfl,_⟩:=c
     exact⟨_,rfl,FB h⟩
 | wd z=>
  cases h with
  | cons a h=>
   obtain⟨rfl,_⟩:=a
   exact⟨_,rfl,FB h⟩
def ID (sh:Str)(zs:List Str):V ⊕ Fm→V ⊕ Fm
 | .inl v=>.inl v
 | .inr g=>.inr (Gp sh zs g)
theorem LB {sh:Str}{zs:List Str}{k:Kd}{ps:List Fm}(no:BN k=false):(B1 k ps).map (ID sh zs)=B1 k (Bu sh zs ps):=by
 rw[Hg]
 cases k with
 | own z=>cases no
 | op z=>simp[B1,ID,Function.comp_def]
 | neg=>simp[B1,ID,Function.comp_def]
 | sumif z=>simp[B1,ID,Function.comp_def]
 | grid i j=>simp[B1,ID,Function.comp_def]
 | wd z=>simp[B1,ID,Function.comp_def]
theorem J2 {k:Kd}{ps:List Fm}:(B1 k ps).length≤ps.length+3:=by
 cases k <;> simp[B1] <;> omega
theorem J3 {k:Kd}{ps:List Fm}{g:Fm}(h:Sum.inr g∈B1 k ps):g∈ps:=by
 cases k with
 | own z=>cases h
 | op z=>simpa [B1]using h
 | neg=>simpa [B1]using h
 | sumif z=>
  simp[B1]at h
  rcases h with h | h
  ·simpa using List.mem_of_mem_take h
  ·simpa using List.mem_of_mem_tail h
 | grid i j=>simpa [B1]using h
 | wd z=>simpa [B1]using h
def O8:Nat→Sp
 | 0=>fun _ _ _ _=>False
 | n+1=>O7 n
theorem L4:DP [zS "main"]:=⟨by decide,by decide,by nofun,fun z h=>by
 rcases List.mem_cons.mp h with rfl | h
 ·exact Cd (by nofun)
 ·cases h⟩
theorem L5:DP [zS "main",zS "two"]:=⟨by decide,by decide,by nofun,fun z h=>by
 rcases List.mem_cons.mp h with rfl | h
 ·exact Cd (by nofun)
 ·rw[List.mem_singleton.mp h];exact Cd (by nofun)⟩
theorem L6:DP [zS "two",zS "main",zS "a"]:=⟨by decide,by decide,by nofun,fun z h=>by
 rcases List.mem_cons.mp h with rfl | h
 ·exact Cd (by nofun)
 rcases List.mem_cons.mp h with rfl | h
 ·exact Cd (by nofun)
 ·rw[List.mem_singleton.mp h];exact Cd (by nofun)⟩
def L7 (sh:Str)(zs:List Str)(n:Nat)(f:Fm)(H:Hp)(a:Addr):Prop:=∃(w:Str) (its:List V) (sps:List (V ⊕ Fm)),H a=some (.tup (.str w::its))∧Hv (.str w) [vS "value",vS "name",vS "own",vS "gone",vS "cell",vS "range",vS "columns"]=false∧Paired (Ca H) (.str w::its) sps∧sps.length≤13∧(∀ g,Sum.inr g∈sps→∃ n',n=n'+1∧FO 0 n' g)∧∀(b:Addr) (ws:List V) (H':Hp),H' b=some (.tup ws)→Paired (Ca H') ws (sps.map (ID sh zs))→Az H' (.ref b) (Gp sh zs f)
theorem L8 {z:Str}{n:Nat}(h:EQ (.wd z) n):Hv (.str z) [vS "value",vS "name",vS "own",vS "gone",vS "cell",vS "range",vS "columns"]=false:=by
 have key:G7.all (fun q=>Hv (.str q.1) [vS "value",vS "name",vS "own",vS "gone",vS "cell",vS "range",vS "columns"]==false)=true:=by nofun
 have:=List.all_eq_true.mp key (z,n) h
 simpa using this
theorem L9 {H:Hp}{sh:Str}{zs:List Str}{a t:Addr}{k:Kd}{us:List V}{ps:List Fm}{n:Nat}(ha:H a=some (.tup (Ce t k us)))(ok:EQ k ps.length)(no:BN k=false)(fm:A3 H us ps)(fo:∀ g∈ps,FO 0 n g):L7 sh zs (n+1) (.nd k ps) H a:=by
 have key:∀(w:Str) (its:List V),Ce t k us=.str w::its→Hv (.str w) [vS "value",vS "name",vS "own",vS "gone",vS "cell",vS "range",vS "columns"]=false→L7 sh zs (n+1) (.nd k ps) H a:=fun w its e hw=>by
  refine⟨w,its,B1 k ps,by rw[ha,e],hw,by rw[← e];exact L1 ok no fm,by have a:=@J2 k ps;have b:=ok.le;omega,fun g hg=>⟨n,rfl,fo g (J3 hg)⟩,fun b ws H' hb hp=>?_⟩
  rw[LB no]at hp
  obtain⟨us',rfl,fm'⟩:=L3 (t:=t) (by rw[Dk];exact ok) no hp
  rw[Gp,if_neg (by rw[no];decide)]
  exact .nd hb (fun z=>by rw[no]at z;cases z) (Paired.length fm') fun j u g e1 e2=>by
   obtain⟨g',e3,x⟩:=B6 fm' e1
   rw[e3]at e2
   cases e2
   exact x
 cases k with
 | own z=>cases no
 | op z=>exact key _ _ rfl (by nofun)
 | neg=>exact key _ _ rfl (by nofun)
 | sumif z=>exact key _ _ rfl (by nofun)
 | grid i j=>exact key _ _ rfl (by nofun)
 | wd z=>exact key _ _ rfl (L8 ok)
theorem MA {H:Hp}{sh:Str}{zs:List Str}{a:Addr}{z:Str}{n:Nat}(ha:H a=some (.tup [vS "fault",.str z])):L7 sh zs n (.lf (.flt z)) H a:=by
 refine⟨zS "fault",[.str z],[.inl (vS "fault"),.inl (.str z)],ha,by nofun,.cons ⟨rfl,rfl⟩ (.cons ⟨rfl,rfl⟩ .nil),by show 2≤13;decide,fun g hg=>by simp at hg,fun b ws H' hb hp=>?_⟩
 cases hp with
 | cons a h=>
  cases h with
  | cons c h=>
   cases h
   obtain⟨rfl,_⟩:=a
   obtain⟨rfl,_⟩:=c
   exact .lf hb
theorem O9 {w:Str}(h:Hv (.str w) [vS "value",vS "name",vS "own",vS "gone",vS "cell",vS "range",vS "columns"]=false):w≠Str.ofString "value"∧Hv (.str w) [vS "name",vS "own"]=false∧Hv (.str w) [vS "gone",vS "cell",vS "range",vS "columns"]=false:=by
 unfold Hv at h ⊢
 simp only[List.any_cons,List.any_nil,Bool.or_false,Bool.or_eq_false_iff]at h ⊢
 refine⟨fun e=>?_,⟨h.2.1,h.2.2.1⟩,h.2.2.2⟩
 have:=h.1
 rw[e]at this
 revert this
 nofun
theorem Gw {H H':Hp}(q:Kp H H'):∀{us:List V} {ss:List (V ⊕ Fm)},Paired (Ca H) us ss→Paired (Ca H') us ss
 | _,_,.nil=>.nil
 | _,_,.cons r t=>.cons (Ca.kp r q) (Gw q t)
theorem JY {R:V→(V ⊕ Fm)→Prop}:∀{us ws:List V} {ss ts:List (V ⊕ Fm)},Paired R us ss→Paired R ws ts→Paired R (us++ws) (ss++ts)
 | _,_,_,_,.nil,h=>h
 | _,_,_,_,.cons r t,h=>.cons r (JY t h)
mutual
theorem MW {sh:Str}{zs:List Str}(hz:∀ z∈zs,Nm z):∀(f:Fm) (n:Nat),FO 0 n f→FO 0 n (Gp sh zs f)
 | .lf l,n,h=>by
  rw[Gp]
  cases h with
  | lf h=>exact .lf (K8 hz h)
 | .nd k ps,n,h=>by
  rw[Gp]
  cases h with
  | @nd n _ _ hk hp=>
   by_cases ho:BN k=true
   ·rw[if_pos ho];exact .lf trivial
   ·rw[if_neg ho];exact .nd (by rw[Dk];exact hk) (LC hz ps n hp)
theorem LC {sh:Str}{zs:List Str}(hz:∀ z∈zs,Nm z):∀(ps:List Fm) (n:Nat),(∀ f∈ps,FO 0 n f)→∀ g∈Bu sh zs ps,FO 0 n g
 | [],n,h,g,hg=>by rw[Bu]at hg;cases hg
 | f::fs,n,h,g,hg=>by
  rw[Bu]at hg
  rcases List.mem_cons.mp hg with e | e
  ·rw[e];exact MW hz f n (h f (by simp))
  ·exact LC hz fs n (fun x hx=>h x (List.mem_cons_of_mem _ hx)) g e
end
theorem BP.tb {K:PySem.W.Frag}{S:Addr×List Int}{H H':Hp}{p P:Addr}{k:Nat}(h:BP K S H p k){u:Array Value}(hP:H P=some (.tbl u))(s:Ac P H H'):BP K S H' p k:=by
 obtain⟨c,r,e,q,z⟩:=h
 refine⟨c,r,s _ _ (CL e hP (by intro z;cases z)) e,?_,z⟩
 rcases q with(h | ⟨o,h⟩) | h
 ·exact .inl (.inl (s _ _ (CL h hP (by intro z;cases z)) h))
 ·exact .inl (.inr ⟨o,s _ _ (CL h hP (by intro z;cases z)) h⟩)
 ·exact .inr h
end Fs
open PySem L2 Mx Fs
namespace Fs
def Cr (i:Nat):Stmt:=PySem.Challenge.pw_freshsheet_k21_leaves_opened.main.body.getD i (.Pass ⟨0,0,0,0⟩)
abbrev ER:Stmt:=Cr 36
abbrev DG:Stmt:=Cr 37
abbrev ES:Stmt:=Cr 82
abbrev Dm:Stmt:=Cr 83
abbrev ET:Stmt:=Cr 4
abbrev CF:Stmt:=Cr 12
abbrev Do:Stmt:=Cr 71
abbrev Dp:Stmt:=Cr 72
abbrev Hl:Stmt:=Cr 73
abbrev F2:Stmt:=Cr 65
abbrev EU:Stmt:=Cr 67
abbrev DH:Stmt:=Cr 74
abbrev CG:Stmt:=Cr 75
abbrev Dr:Stmt:=Cr 76
abbrev Ds:Stmt:=Cr 77
abbrev EV:Stmt:=Cr 78
abbrev Bv:Stmt:=Cr 79
abbrev FC:Stmt:=Cr 80
abbrev CM:Stmt:=Cj (Cr 57) 5
abbrev CN:Stmt:=Cj (Cr 57) 6
abbrev CH:Stmt:=Cr 55
abbrev Bn:Stmt:=Cr 56
abbrev Bw:Stmt:=Cj (Cr 57) 0
abbrev BD:Stmt:=Cj (Cr 57) 1
abbrev BX:Stmt:=Cj (Cr 57) 2
abbrev Bg:Stmt:=Cj (Cr 57) 4
abbrev CI:Stmt:=Cj (Cr 57) 3
abbrev CJ:Stmt:=Cr 40
abbrev Bx:Stmt:=Cj (Cr 57) 7
abbrev FD:Stmt:=Cr 58
abbrev DI:Stmt:=Cr 84
abbrev Co:Stmt:=Cr 85
abbrev By:Stmt:=Cr 86
abbrev DJ:Stmt:=Cr 87
abbrev Dt:Stmt:=Cr 88
abbrev Du:Stmt:=Cr 89
abbrev Cf:Stmt:=Cr 90
abbrev DK:Stmt:=Cr 91
abbrev Cp:Stmt:=Cr 92
abbrev CK:Stmt:=Cr 93
abbrev EW:Stmt:=Cr 94
abbrev LD:Stmt:=Cr 95
set_option genInjectivity false in
set_option genSizeOf false in
structure Ad where
 aa:Addr
 ab:FuncData
 ac:Addr
 ad:FuncData
 ae:Addr
 af:FuncData
 ag:Addr
 ah:FuncData
 ai:Addr
 aj:FuncData
 ak:Addr
 al:FuncData
 am:Addr
 an:FuncData
 ao:Addr
 ap:FuncData
 aq:Addr
 ar:FuncData
 au:Addr
 av:FuncData
 aw:Addr
 ax:FuncData
 ay:Addr
 az:FuncData
 a0:Addr
 a1:FuncData
 a2:Addr
 a3:FuncData
 a4:Addr
 a5:FuncData
 a6:Addr
 a7:FuncData
 a8:Addr
 a9:FuncData
 ba:Addr
 bb:FuncData
 bc:Addr
 bd:FuncData
 be:Addr
 bf:FuncData
 bg:Addr
 bh:FuncData
 bi:Addr
 bj:FuncData
 bk:Addr
 bl:FuncData
 bm:Addr
 bn:FuncData
 bo:Addr
 bp:FuncData
 bq:Addr
 br:FuncData
 bs:Addr
 bt:FuncData
 bu:Addr
 bv:FuncData
 bw:Addr
 bx:FuncData
 bz:Addr
 b0:FuncData
 b1:Addr
 b2:FuncData
 b3:Addr
 b4:FuncData
 b5:Addr
 b6:FuncData
 b7:Addr
 b8:FuncData
 b9:Addr
 ca:FuncData
 cb:Addr
 cc:FuncData
 cd:Addr
 ce:FuncData
 cf:Addr
 cg:FuncData
 ch:Addr
 ci:FuncData
 cj:Addr
 ck:FuncData
 cl:Addr
 cm:FuncData
 cn:Addr
 co:FuncData
 cp:Addr
 c8:Addr
 cr:Addr
structure Txt (w:World)(K:PySem.W.Frag)(mg:Str→Option Value)(t:Ad):Prop where
 cs:Df K mg "parts_of" ER ["formula"] t.aa t.ab
 ct:Df K mg "with_parts" DG ["formula","parts"] t.ac t.ad
 cu:Df K mg "_law_pen" ES ["_law_script"] t.ae t.af
 cv:Df K mg "_law_next" Dm ["_law_pen_here","_law_many_here"] t.ag t.ah
 cw:Df K mg "is_whole" ET ["thing"] t.ai t.aj
 cx:Df K mg "is_sheet_name" CF ["thing"] t.ak t.al
 cy:Df K mg "is_cell_pair" Do ["thing","sheets"] t.am t.an
 cz:Df K mg "is_name_pair" Dp ["thing"] t.ao t.ap
 c0:Df K mg "is_own" Hl ["thing"] t.aq t.ar
 c1:Df K mg "is_row" F2 ["thing","most"] t.au t.av
 c2:Df K mg "is_up_to" EU ["thing","most"] t.aw t.ax
 c3:Df K mg "are_sheets" DH ["thing"] t.ay t.az
 c4:Df K mg "has_each_once" CG ["pairs"] t.a0 t.a1
 c5:Df K mg "are_cells" Dr ["thing","sheets"] t.a2 t.a3
 c6:Df K mg "are_names" Ds ["thing"] t.a4 t.a5
 c7:Df K mg "are_owns" EV ["thing"] t.a6 t.a7
 c8:Df K mg "sorted_by_first" Bv ["pairs"] t.a8 t.a9
 c9:Df K mg "book_of" FC ["sheets","cells","names","owns","rounds"] t.ba t.bb
 da:Dq K "row_called" "Opener.row_called" CM ["self","key","within"] t.bc t.bd
 db:Dq K "row_filled" "Opener.row_filled" CN ["self","row","parts","within"] t.be t.bf
 dc:Df K mg "things_called" CH ["book"] t.bg t.bh
 dd:Df K mg "range_of_columns" Bn ["sheet","first","last"] t.bi t.bj
 de:Dq K "__init__" "Opener.__init__" Bw ["self","book","sheet"] t.bk t.bl
 df:Dq K "opened_reference" "Opener.opened_reference" BD ["self","formula"] t.bm t.bn
 dg:Dq K "opened_alone" "Opener.opened_alone" BX ["self","formula"] t.bo t.bp
 dh:Dq K "row_put_in" "Opener.row_put_in" Bg ["self","formula","within"] t.bq t.br
 di:Dq K "row_of" "Opener.row_of" CI ["self","formula","within"] t.bs t.bt
 dj:Df K mg "told_by_parts" CJ ["row","tell_one"] t.bu t.bv
 dk:Dq K "whole_of" "Opener.whole_of" Bx ["self","formula"] t.bw t.bx
 dl:Df K mg "open_up" FD ["book","sheet","formula"] t.bz t.b0
 dm:Df K mg "_law_plain" DI ["_law_pen_here"] t.b1 t.b2
 dn:Df K mg "_law_corner" Co ["_law_pen_here"] t.b3 t.b4
 dp:Df K mg "_law_sheet_told" By ["_law_pen_here","_law_sheets_here","_law_told_on"] t.b5 t.b6
 dq:Df K mg "_law_place" DJ ["_law_pen_here","_law_sheets_here","_law_told_on"] t.b7 t.b8
 dr:Df K mg "_law_leaf" Dt ["_law_pen_here","_law_sheets_here","_law_told_on","_law_params"] t.b9 t.ca
 ds:Df K mg "_law_many" Du ["_law_pen_here","_law_sheets_here","_law_told_on","_law_params","_law_deep"] t.cb t.cc
 dt:Df K mg "_law_formula" Cf ["_law_pen_here","_law_sheets_here","_law_told_on","_law_params","_law_deep"] t.cd t.ce
 du:Df K mg "_law_alike" DK ["_law_found","_law_due_here"] t.cf t.cg
 dv:Df K mg "_law_sheets" Cp ["_law_pen_here"] t.ch t.ci
 dw:Df K mg "_law_due_leaf" CK ["_law_sheets_here","_law_sheet","_law_leaf_here"] t.cj t.ck
 dx:Df K mg "_law_due" EW ["_law_sheets_here","_law_sheet","_law_tree"] t.cl t.cm
 dy:Df K mg "law" LD ["_law_script"] t.cn t.co
 dz:mg "len"=none
 d0:mg "range"=none
 d1:mg "isinstance"=none
 d2:mg "int"=none
 d3:mg "bool"=none
 d4:mg "str"=none
 d5:mg "tuple"=none
 d6:mg "list"=none
 d7:mg "all"=none
 d8:mg "zip"=none
 d9:mg "min"=none
 ea:mg "sorted"=none
 eb:mg "set"=none
 ec:mg "Opener"=some (.ref t.cp)
 ed:OD w K mg "PART_PLACES" Q1
 ee:OQ mg "LETTERS" (Str.ofString "abcdefghijklmnopqrstuvwxyz")
 ef:Gk mg "LONGEST_NAME" 6
 eg:Gk mg "LAST_ROW" 16
 eh:Gk mg "MOST_OPENED" 200
 ei:Gk mg "MOST_SHEETS" 4
 ej:Gk mg "MOST_CELLS" 60
 ek:Gk mg "MOST_NAMES" 8
 el:Gk mg "MOST_OWNS" 6
 em:Gk mg "MOST_ROUNDS" 4
 en:PySem.W.kitOne K (.type "str") (.type "tuple")=some false
 eo:PySem.W.kitOne K (.type "int") (.type "tuple")=some false
 ep:PySem.W.kitOne K (.type "int") (.type "bool")=some false
 eq:PySem.W.kitOne K (.type "NoneType") (.type "tuple")=some false
 er:PySem.W.kitOne K (.type "bool") (.type "tuple")=some false
 es:PySem.W.kitOne K (.type "str") (.type "bool")=some false
 et:PySem.W.kitOne K (.type "int") (.type "str")=some false
 eu:t.a9.code=.ref t.c8
 ev:GZ K t.cp "row_called" t.bc
 ew:GZ K t.cp "row_filled" t.be
 ex:GZ K t.cp "opened_reference" t.bm
 ey:GZ K t.cp "opened_alone" t.bo
 ez:GZ K t.cp "row_put_in" t.bq
 e0:GZ K t.cp "row_of" t.bs
 e1:GZ K t.cp "whole_of" t.bw
 e2:J7 K t.cp
 e3:Mk K t.cp t.bk
 e4:CV K t.cp "sheet"
 e5:CV K t.cp "sheets"
 e6:CV K t.cp "called"
 e7:CV K t.cp "known_rows"
def PB (K:PySem.W.Frag)(t:Ad):Sp:=fun vs H Q _=>∃(l:Addr) (f:Fm) (sh:Str) (zs:List Str) (ws:List V) (n:Nat),vs=[.ref l,.ref t.ac]∧H l=some (.lst ws)∧A3 H ws (B0 sh zs f)∧(∀ g∈B0 sh zs f,FO 0 n g)∧ws.length≤200∧∀ x H',Az H' x (Gp sh zs f)→AG H H'→Q x H'
def TJ (K:PySem.W.Frag)(t:Ad):Addr→Sp→Prop:=fun f sp=>f=t.ac∧sp=OX
seal PE PT PW PA PS Hu PI PG NR PF PO PJ EM CU LF MF
section
variable {P:Program}{w:World}{K:PySem.W.Frag}{mg:Str→Option Value}{base:Heap}{t:Ad}
theorem Im:Aa ["formula"] ["formula"] (AL ER):=BW
theorem Dv (T:Txt w K mg t):Ap P w K mg base Bj 1 t.aa t.ab ["formula"] OV:=by
 have D:=T.cs
 refine D.fn.okX Im ?_ (fun cdv A outer s H vs Q E hr h Z hZ=>?_)
 ·rintro _ _ _ _ ⟨v,f,pr,n,rfl,_⟩
  rfl
 ·obtain⟨v,f,pr,n,rfl,hv,fo,k⟩:=h
  refine hZ ⟨_,((AF (Ah (AO At (Ab Ae (AI 0) AE (fun _ _=>rfl)) AJ (AR _)) (AH (AK (Bp DD (by rfl) T.d6 EA (AY (Ab Ae (AI 0) AE (fun _ _=>rfl)) AC)))) AM)
   (AH (AK (DF (fv:=["formula"]) (js:=[0]) (cl:=[("formula",s.heap.objs.size+1)]) rfl (by with_unfolding_all rfl) ⟨rfl,by nofun,by nofun,rfl,by nofun,by nofun,(List.forall_mem_cons.mpr ⟨⟨rfl,rfl,rfl⟩,(List.forall_mem_nil _)⟩),(List.forall_mem_cons.mpr ⟨rfl,(List.forall_mem_nil _)⟩),(.cons rfl .nil)⟩ (GX (HV (JN T.ed) (Ab Ae (AI 0) AE (fun _ _=>rfl)) (AU AC) ⟨rfl,rfl,rfl,rfl⟩)) (fun _ _ _ _ _=>DE) (fun _ _ _ _ _=>(Ab JG (AI 1) (AI 0) (fun _ _=>rfl)))))))),?_⟩
  try dsimp only[BR,Aw]
  cases hv with
  | @lf a l hl=>
   obtain⟨w,r,ha,h1,h2,_⟩:=hl.pp
   refine⟨_,rfl,a,_,_,_,rfl,rfl,Am.of ha,AV,rfl,false,h1,Af ?_⟩
   refine fun pa kvs hk hp=>⟨pa,kvs,rfl,hk,_,rfl,a,_,_,_,rfl,rfl,Am.of ha,AV,Nat.zero_le _,fun e he=>⟨Sum.inr w,rfl,?_⟩⟩
   rw[Go hp h2]
   have s1:=AG.new (o:=.tup []) he
   have sq:∀ ws D,upd H e (.tup []) D=none→Am K (upd (upd H e (.tup [])) D (.lst ws)) e []:=fun ws D hD=>Am.of (AG.new hD _ _ AB)
   refine⟨e,rfl,⟨_,Am.of AB⟩,fun D hD=>?_⟩
   refine⟨fun i m H4=>i=0∧H4=upd (upd H e (.tup [])) D (.lst []),⟨0,rfl,rfl⟩,?_⟩
   rintro i m H4 ⟨rfl,rfl⟩
   refine .inl ⟨⟨[],sq _ _ hD,Nat.le_refl _⟩,?_⟩
   exact k D [] _ (AG.back0 s1 hD) AB .nil (s1.trans (AG.new hD))
  | @nd a t kd us ps ha ht hl hh=>
   cases fo with
   | nd ok hps=>
   obtain⟨r0,er⟩:=Gn t kd us
   have ha0:H a=some (.tup (.str (kw kd)::r0)):=by rw[ha,er]
   have fm:=Az.parts hl hh
   cases ho:BN kd with
   | true=>
    obtain⟨z,rfl⟩:∃ z,kd=.own z:=by cases kd <;> first | exact⟨_,rfl⟩ | cases ho
    replace ha:H a=some (.tup [vS "own",.str z,.ref t]):=ha
    refine⟨_,rfl,a,_,_,_,rfl,rfl,Am.of ha,AV,rfl,true,(by nofun),Ax ?_⟩
    refine⟨_,rfl,a,_,_,_,rfl,rfl,Am.of ha,Hf,t,us,rfl,.inr (Am.of (ht rfl)),fun d hd=>?_⟩
    exact k d us _ hd AB (A3.kp fm (Kp.same (AG.new hd))) (AG.new hd)
   | false=>
    obtain⟨pl,hpl,lpl,hat⟩:=NG (t:=t) (us:=us) (by rw[hl];exact ok) ho
    have l3:=ok.le
    refine⟨_,rfl,a,_,_,_,rfl,rfl,Am.of ha0,AV,rfl,false,congrArg V.bl ((Ih ok).trans ho),Af ?_⟩
    refine fun pa kvs hk hp=>⟨pa,kvs,rfl,hk,_,rfl,a,_,_,_,rfl,rfl,Am.of ha0,AV,Nat.zero_le _,fun e he=>⟨Sum.inr (kw kd),rfl,?_⟩⟩
    obtain⟨b,hb,hsq⟩:=Ii hp hpl
    rw[hb]
    have s1:=AG.new (o:=.tup []) he
    have nsl:∀{D:Addr},upd H e (.tup []) D=none→H D=none:=fun {D} h=>AG.back0 s1 h
    generalize upd H e (.tup [])=H2 at *
    refine⟨b,rfl,⟨_,hsq _⟩,fun D hD=>?_⟩
    have sD:∀ ws,AG H2 (upd H2 D (.lst ws)):=fun ws=>AG.new hD
    refine⟨fun i m H4=>m=us.length-i∧i≤us.length∧H4=upd H2 D (.lst (us.take i)),⟨us.length,rfl,Nat.zero_le _,rfl⟩,?_⟩
    rintro i m H4 ⟨rfl,hi,rfl⟩
    by_cases hlt:i<us.length
    ·obtain⟨p,u,hp1,hu1',hat1⟩:=hat i hlt
     have hx1:(pl.map fun(p:Nat)=>V.int p)[i]?=some (.int p):=by rw[List.getElem?_map,hp1];rfl
     refine .inr ⟨⟨_,_,hsq _,hx1⟩,fun x H' y=>?_⟩
     obtain⟨e,y⟩:=y
     subst e
     have hx:=y _ (hsq _)
     rw[hx1]at hx
     cases hx
     refine⟨_,rfl,_,rfl,a,_,_,_,rfl,rfl,Am.of (sD _ _ _ (s1 _ _ ha)),hat1,_,AB,Ek (by rw[List.length_take];omega),us.length-(i+1),(by omega),rfl,hlt,?_⟩
     rw[Iv,List.take_add_one,hu1'];rfl
    have ei:i=us.length:=by omega
    subst ei
    refine .inl ⟨⟨_,hsq _,(by rw[List.length_map,lpl];exact Nat.le_refl _)⟩,?_⟩
    rw[List.take_length]
    have s3:=s1.trans (sD us)
    exact k D us _ (nsl hD) AB (A3.kp fm (Kp.same s3)) s3
theorem CS:Aa ["formula","parts","things","place","part"] ["formula","parts"] (AL DG):=BW
theorem GD (T:Txt w K mg t):Ap P w K mg base Bj 2 t.ac t.ad ["formula","parts"] OX:=by
 have D:=T.ct
 refine D.fn.okX CS ?_ (fun cdv A outer s H vs Q E hr h Z hZ=>?_)
 ·rintro _ _ _ _ ⟨v,f,l,ws,pr,n,rfl,_⟩
  rfl
 ·obtain⟨v,f,l,ws,pr,n,rfl,hv,fo,hlw,hwl,k⟩:=h
  refine hZ ⟨_,((AF (Ah (AO At (Ab Ae (AI 0) AE (fun _ _=>rfl)) AJ (AR _)) (AH (AK (AU (AD AJ (AY (Ab Ae (AI 0) AE (fun _ _=>rfl)) (BH (Bp Bh (by rfl) T.d5 A8 (AA (AI 1) AC)) AC)))))) AM)
   (AF (Ao (i:=2) CS.nd rfl (Or.inl rfl) (Bp DD (by rfl) T.d6 EA (AA (AI 0) AC)))
   (AF (DV PassesOwn.never rfl (M5 rfl T.d8 Ij (BH (HV (JN T.ed) (Ab Ae (AI 0) AE (fun _ _=>rfl)) (AU AC) ⟨rfl,rfl,rfl,rfl⟩) (AA (AI 1) AC))) (Hy rfl (Br (BG (i:=3) CS.nd rfl (Or.inl rfl)) (Br (BG (i:=4) CS.nd rfl (Or.inl rfl)) Fe)))
   (AH (Fo (AI 4) (Hz (AI 2) (AI 3) Fv))))
   (AH (AK (Bp Bh (by rfl) T.d5 A8 (AA (AI 2) AC)))))))),?_⟩
  try dsimp only[BR,Aw]
  cases hv with
  | @lf a lf hl=>
   obtain⟨w,r,ha,h1,h2,h3,h4⟩:=hl.pp
   obtain rfl:ws=[]:=List.length_eq_zero_iff.mp hwl
   refine⟨_,rfl,a,_,_,_,rfl,rfl,Am.of ha,AV,rfl,false,h1,Af ?_⟩
   refine⟨_,rfl,a,_,rfl,.inr (Am.of ha),fun d hd=>?_⟩
   have s1:=AG.new (o:=.lst (.str w::r)) hd
   have hd1:upd H d (.lst (.str w::r)) d=some (.lst (.str w::r)):=AB
   generalize upd H d (.lst (.str w::r))=H1 at *
   refine fun pa kvs hk hp=>⟨pa,kvs,rfl,hk,_,rfl,a,_,_,_,rfl,rfl,Am.of (s1 _ _ ha),AV,Nat.zero_le _,fun e he=>⟨Sum.inr w,rfl,?_⟩⟩
   rw[Go hp h2]
   have s2:=AG.new (o:=.tup []) he
   have he2:upd H1 e (.tup []) e=some (.tup []):=AB
   generalize upd H1 e (.tup [])=H2 at *
   refine⟨_,rfl,e,l,rfl,⟨_,Am.of he2⟩,⟨_,Aq.of (s2 _ _ (s1 _ _ hlw))⟩,?_⟩
   refine JO (xs:=[]) (ys:=[]) (fun i σ H3=>∃ x3 x4,σ=[some (.ref a),some (.ref l),some (.ref d),x3,x4]∧H3=H2) rfl ⟨none,none,rfl,rfl⟩ ?_ ?_ ?_
   ·rintro i σ H3 _ ⟨_,_,rfl,rfl⟩
    exact⟨Am.of he2,Aq.of (s2 _ _ (s1 _ _ hlw))⟩
   ·rintro i x y σ H3 b hx
    simp at hx
   ·rintro σ H3 ⟨x3,x4,rfl,rfl⟩
    refine⟨_,rfl,d,_,rfl,.inl ⟨Aq.of (s2 _ _ hd1),fun q hq=>?_⟩⟩
    have s3:=AG.new (o:=.tup (.str w::r)) hq
    exact k q _ ⟨a,_,rfl,s3 _ _ (s2 _ _ (s1 _ _ ha)),AB,h3⟩ ((s1.trans s2).trans s3)
  | @nd a t kd us ps ha ht hl hh=>
   cases fo with
   | nd ok hps=>
   obtain⟨r0,er⟩:=Gn t kd us
   have ha0:H a=some (.tup (.str (kw kd)::r0)):=by rw[ha,er]
   have fm:=Az.parts hl hh
   replace hwl:ws.length=ps.length:=hwl
   cases ho:BN kd with
   | true=>
    obtain⟨z,rfl⟩:∃ z,kd=.own z:=by cases kd <;> first | exact⟨_,rfl⟩ | cases ho
    replace ha:H a=some (.tup [vS "own",.str z,.ref t]):=ha
    refine⟨_,rfl,a,_,_,_,rfl,rfl,Am.of ha,AV,rfl,true,(by nofun),Ax ?_⟩
    refine⟨_,rfl,a,_,_,_,rfl,rfl,Am.of ha,El,_,rfl,l,ws,rfl,.inl ⟨Aq.of hlw,fun t' ht'=>⟨A2,fun q hq=>?_⟩⟩⟩
    exact k q _ ⟨t',AB,fun _=>AG.new hq _ _ AB⟩ ((AG.new ht').trans (AG.new hq))
   | false=>
    obtain⟨pl,hpl,lpl,hset⟩:=Ls (t:=t) ok ho
    have l3:=ok.le
    refine⟨_,rfl,a,_,_,_,rfl,rfl,Am.of ha0,AV,rfl,false,congrArg V.bl ((Ih ok).trans ho),Af ?_⟩
    refine⟨_,rfl,a,_,rfl,.inr (Am.of ha),fun d hd=>?_⟩
    have s1:=AG.new (o:=.lst (Ce t kd us)) hd
    have hd1:upd H d (.lst (Ce t kd us)) d=some (.lst (Ce t kd us)):=AB
    generalize upd H d (.lst (Ce t kd us))=H1 at *
    refine fun pa kvs hk hp=>⟨pa,kvs,rfl,hk,_,rfl,a,_,_,_,rfl,rfl,Am.of (s1 _ _ ha0),AV,Nat.zero_le _,fun e he=>⟨Sum.inr (kw kd),rfl,?_⟩⟩
    obtain⟨b,hb,hsq⟩:=Ii hp hpl
    rw[hb]
    have s2:=AG.new (o:=.tup []) he
    have hd2:=s2 _ _ hd1
    generalize upd H1 e (.tup [])=H2 at *
    have hl2:=s2 _ _ (s1 _ _ hlw)
    have ndl:d≠l:=fun z=>by rw[z]at hd;rw[hd]at hlw;cases hlw
    refine⟨_,rfl,b,l,rfl,⟨_,hsq _⟩,⟨_,Aq.of hl2⟩,?_⟩
    refine JO (xs:=pl.map fun(p:Nat)=>V.int p) (ys:=ws) (fun i σ H3=>∃ x3 x4,σ=[some (.ref a),some (.ref l),some (.ref d),x3,x4]∧H3 d=some (.lst (Ce t kd (ws.take i++us.drop i)))∧H3 l=some (.lst ws)∧∀ c o,c≠d→H2 c=some o→H3 c=some o) (by rw[List.length_map,lpl,hwl]) ⟨none,none,rfl,hd2,hl2,fun _ _ _ e=>e⟩ ?_ ?_ ?_
    ·rintro i σ H3 _ ⟨_,_,rfl,_,q,_⟩
     exact⟨hsq _,Aq.of q⟩
    ·rintro i x y σ H3 c hx hy ⟨x3,x4,rfl,q1,q2,q3⟩ hc
     have hi:i<ws.length:=(List.getElem?_eq_some_iff.mp hy).1
     obtain⟨p,hp1,hp2,hp3⟩:=hset (ws.take i++us.drop i) i y (by rw[List.length_append,List.length_take,List.length_drop];omega) (by omega)
     have hxp:x=.int p:=by rw[List.getElem?_map,hp1]at hx;simpa using hx.symm
     subst hxp
     have sc:=AG.new (o:=.tup [.int p,y]) hc
     refine⟨c,_,rfl,Am.of AB,rfl,_,_,rfl,_,_,rfl,rfl,?_⟩
     refine⟨_,rfl,_,rfl,_,rfl,d,_,_,p,rfl,rfl,sc _ _ q1,?_,?_⟩
     ·unfold MG
      rw[if_pos (by omega),if_pos (by omega)];simp
     ·refine⟨_,_,rfl,?_,?_,fun c' o hc' e=>?_⟩
      ·rw[AB,hp3,Lu (by omega) hy]
      ·rw[AT (Ne.symm ndl)];exact sc _ _ q2
      ·rw[AT hc'];exact sc _ _ (q3 _ _ hc' e)
    ·rintro σ H3 ⟨x3,x4,rfl,q1,q2,q3⟩
     have e3:ws.take (pl.map fun(p:Nat)=>V.int p).length++us.drop (pl.map fun(p:Nat)=>V.int p).length=ws:=by
      rw[List.length_map,lpl,List.take_of_length_le (by omega),List.drop_of_length_le (by omega),List.append_nil]
     rw[e3]at q1
     refine⟨_,rfl,d,_,rfl,.inl ⟨Aq.of q1,fun q hq=>?_⟩⟩
     have s3:=AG.new (o:=.tup (Ce t kd ws)) hq
     refine k q _ ⟨t,AB,fun z=>by rw[ho]at z;cases z⟩ fun c o e=>?_
     have ncd:c≠d:=fun z=>by rw[z,hd]at e;cases e
     exact s3 _ _ (q3 _ _ ncd (s2 _ _ (s1 _ _ e)))
theorem Q3 (T:Txt w K mg t){A:Around}(hr:BQ 2 A):∀ f sp,TJ K t f sp→∃ k fd ps,Ap P w K mg base Bj k f fd ps sp∧BQ k A∧PySem.W.keepIn K (.ref f)=true∧Cu K fd ps []:=by
 rintro f sp ⟨rfl,rfl⟩
 exact⟨2,_,_,GD T,hr,T.ct.fn.kp,T.ct.b⟩
theorem Io:Aa ["_law_script"] ["_law_script"] (AL ES):=BW
theorem Hm (T:Txt w K mg t):Ap P w K mg base Bj 1 t.ae t.af ["_law_script"] (OZ K):=by
 have D:=T.cu
 refine D.fn.okX Io ?_ (fun cdv A outer s H vs Q E hr h Z hZ=>?_)
 ·rintro _ _ _ _ ⟨a,ns,rfl,_⟩
  rfl
 ·obtain⟨a,ns,rfl,hS,h63,k⟩:=h
  refine hZ ⟨_,((AH (AK (A5 (AA (AI 0) (AD AE (AD AE AC))))))),?_⟩
  try dsimp only[BR,Aw]
  exact⟨_,rfl,A2,fun p hp=>k p _ hp ⟨0,0,AB,(AG.new hp).seq hS,by decide,by decide,h63⟩ (AG.new hp)⟩
theorem A0:Aa ["_law_pen_here","_law_many_here","_law_script","_law_count","_law_rest","_law_cell","_law_number"] ["_law_pen_here","_law_many_here"] (AL Dm):=BW
theorem AN (T:Txt w K mg t):Ap P w K mg base Bj 1 t.ag t.ah ["_law_pen_here","_law_many_here"] (Oa K):=by
 have D:=T.cv
 refine D.fn.okX A0 ?_ (fun cdv A outer s H vs Q E hr h Z hZ=>?_)
 ·rintro _ _ _ _ ⟨p,m,n,S,rfl,_⟩
  rfl
 ·obtain⟨p,m,n,S,rfl,hm,hz,hpen,hn,k⟩:=h
  refine hZ ⟨_,((AF (Fo (AI 0) (Mp rfl (Br (BG (i:=2) A0.nd rfl (Or.inl rfl)) (Br (BG (i:=3) A0.nd rfl (Or.inl rfl)) (Br (BG (i:=4) A0.nd rfl (Or.inl rfl)) Fe)))))
   (AF (Fo (Av Bt (AI 3) AE) (Hz (AI 0) AE Fv))
   (AF (Ah (Ct (AO At (AQ An (by rfl) T.dz PySem.boot_len (AA (AI 2) AC)) AE (AR _)) (DB (AO At (Av Cn (Ab A6 (AI 2) AE (fun _ _=>rfl)) AE) AE (AR _)))).pt (AF (Ao (i:=5) A0.nd rfl (Or.inl rfl) AE)
   (AF (Ah (AO KD (AQ An (by rfl) T.dz PySem.boot_len (AA (AI 2) AC)) AE (AR _)) (AH (Ao (i:=5) A0.nd rfl (Or.inl rfl) (Ab A6 (AI 2) (Av Cn (Av Bt (Av Ei (AI 3) AE) AE) (AQ An (by rfl) T.dz PySem.boot_len (AA (AI 2) AC))) (fun _ _=>rfl)))) AM)
   (AF (Ao (i:=6) A0.nd rfl (Or.inl rfl) (Av Cn (Av Bt (Av Bt (Av Cn (AI 5) AE) (Av Ei AE (AI 3))) AE) AE))
   (AF (Ao (i:=6) A0.nd rfl (Or.inl rfl) (Av Cn (Av Ei (AI 6) (Av Bt (AI 6) AE)) AE))
   (AF (Ao (i:=6) A0.nd rfl (Or.inl rfl) (Av Cn (Av Ei (AI 6) (Av Bt (AI 6) AE)) AE))
   (AH (AK (Av Cn (Av Ff (AI 6) AE) (AI 1))))))))) AM)
   (AF (Ah (AO At (Av Cn (AI 3) AE) AE (AR _)) (AF (Ao (i:=4) A0.nd rfl (Or.inl rfl) AE)
   (AH (Ah (AO DW (Av Bt AE (Av Ff (AI 3) AE)) (AQ An (by rfl) T.dz PySem.boot_len (AA (AI 2) AC)) (AR _)) (AH (Ao (i:=4) A0.nd rfl (Or.inl rfl) (Ab A6 (AI 2) (Av Bt AE (Av Ff (AI 3) AE)) (fun _ _=>rfl)))) AM))) AM)
   (AF (Fo (Av KS (AI 4) (AI 1)) (Hz (AI 0) AE Fv))
   (AH (AK (Av Cn (AI 4) (AI 1)))))))))),?_⟩
  try dsimp only[BR,Aw]
  obtain⟨a,ns⟩:=S
  obtain⟨c,r,hp,hS,hc0,hc1,h63⟩:=hpen
  dsimp only at hp hS h63
  refine⟨_,rfl,p,_,rfl,Aq.of hp,rfl,_,_,rfl,_,_,rfl,_,_,rfl,rfl,?_⟩
  refine⟨_,rfl,_,_,rfl,rfl,_,rfl,p,_,_,1,rfl,rfl,hp,rfl,?_⟩
  have hS1:∀{o},Aq K (upd H p o) a (ns.map V.int):=fun {o}=>Aq.kl hS hp Ac.upd
  have fin:∀(r' x:Int) (H2:Hp),0≤x→x<m→H2 p=some (.lst [.ref a,.int (c+1),.int r'])→Ac p H H2→Q (.int x) H2:=fun r' x H2 x0 x1 h2 kp=>
   k x H2 x0 x1 ⟨c+1,r',h2,Aq.kl hS hp kp,by omega,by omega,h63⟩ kp
  have hlen:(ns.map V.int).length=ns.length:=List.length_map _
  have l0:V.bl (decide (V.int ((ns.map V.int).length:Int)=V.int 0))=V.bl (decide (ns.length=0)):=by
   congr 1
   by_cases z:ns.length=0
   ·rw[decide_eq_true z];exact decide_eq_true (by rw[hlen,z];rfl)
   ·rw[decide_eq_false z];exact decide_eq_false fun e=>z (by injection e with e;omega)
  refine⟨_,rfl,a,_,rfl,.inl hS1,rfl,_,l0,CP (fun c1=>Ax ?_) (fun c1=>?_)⟩
  ·refine⟨_,rfl,a,_,rfl,.inl hS1,_,_,rfl,rfl,false,?_,Af ?_⟩
   ·have z:=of_decide_eq_true c1
    exact congrArg V.bl (decide_eq_false (by rw[hlen,z];decide))
   have n1:=Int.emod_nonneg (5) (show(2147483629:Int)≠0 by decide)
   have n2:=Int.emod_lt_of_pos (5) (show(0:Int)<2147483629 by decide)
   refine⟨_,rfl,_,_,rfl,rfl,(by show(0:Int)<_;decide),_,rfl,_,_,rfl,rfl,⟨Al (by decide) (by decide),Al (by omega) (by omega)⟩,_,_,rfl,rfl,_,_,rfl,rfl,_,_,rfl,rfl,(by show(0:Int)<_;decide),?_⟩
   have m1:=Int.emod_nonneg ((5)%2147483629+69621*c+17) (show(2147483647:Int)≠0 by decide)
   have m2:=Int.emod_lt_of_pos ((5)%2147483629+69621*c+17) (show(0:Int)<2147483647 by decide)
   generalize ((5)%2147483629+69621*c+17)%2147483647=x at m1 m2 ⊢
   refine⟨_,rfl,_,rfl,_,_,rfl,rfl,_,_,rfl,rfl,⟨Al (by omega) (by omega),Al (by omega) (by omega)⟩,_,_,rfl,rfl,(by show(0:Int)<_;decide),?_⟩
   have q1:=Int.emod_nonneg (x*(x+40503)) (show(2147483629:Int)≠0 by decide)
   have q2:=Int.emod_lt_of_pos (x*(x+40503)) (show(0:Int)<2147483629 by decide)
   generalize (x*(x+40503))%2147483629=w' at q1 q2 ⊢
   refine⟨_,rfl,_,rfl,_,_,rfl,rfl,_,_,rfl,rfl,⟨Al (by omega) (by omega),Al (by omega) (by omega)⟩,_,_,rfl,rfl,(by show(0:Int)<_;decide),?_⟩
   refine⟨_,rfl,_,_,rfl,rfl,⟨by decide,by decide⟩,_,rfl,_,_,rfl,rfl,hm,?_⟩
   exact fin r _ _ (Int.emod_nonneg _ (by omega)) (Int.emod_lt_of_pos _ hm) AB Ac.upd
  ·have hl:0<ns.length:=by
    have:¬ ns.length=0:=fun z=>c1 (decide_eq_true z)
    omega
   obtain⟨v0,hv0⟩:=Fy (ns:=ns) (r:=0) (by decide) (by omega)
   refine⟨_,rfl,a,_,_,_,rfl,rfl,hS1,hv0,_,_,rfl,rfl,(by show(0:Int)<_;decide),rfl,_,rfl,CP (fun c2=>?_) (fun c2=>?_)⟩
   ·obtain⟨v,hv⟩:=Fy (ns:=ns) (Int.emod_nonneg (c*3+1) (show(ns.length:Int)≠0 by omega)) (Int.emod_lt_of_pos (c*3+1) (show(0:Int)<ns.length by omega))
    refine⟨_,rfl,a,_,rfl,.inl hS1,_,_,rfl,rfl,true,congrArg V.bl (decide_eq_true (by rw[hlen];omega)),Ax ?_⟩
    refine⟨_,rfl,_,rfl,_,_,rfl,rfl,⟨Al (by omega) (by omega),Al (by decide) (by decide)⟩,_,_,rfl,rfl,_,rfl,a,_,rfl,.inl hS1,_,_,rfl,rfl,(by rw[hlen];omega),a,_,_,_,rfl,rfl,hS1,(by rw[hlen];exact hv),?_⟩
    have n1:=Int.emod_nonneg (v) (show(2147483629:Int)≠0 by decide)
    have n2:=Int.emod_lt_of_pos (v) (show(0:Int)<2147483629 by decide)
    refine⟨_,rfl,_,_,rfl,rfl,(by show(0:Int)<_;decide),_,rfl,_,_,rfl,rfl,⟨Al (by decide) (by decide),Al (by omega) (by omega)⟩,_,_,rfl,rfl,_,_,rfl,rfl,_,_,rfl,rfl,(by show(0:Int)<_;decide),?_⟩
    have m1:=Int.emod_nonneg ((v)%2147483629+69621*c+17) (show(2147483647:Int)≠0 by decide)
    have m2:=Int.emod_lt_of_pos ((v)%2147483629+69621*c+17) (show(0:Int)<2147483647 by decide)
    generalize ((v)%2147483629+69621*c+17)%2147483647=x at m1 m2 ⊢
    refine⟨_,rfl,_,rfl,_,_,rfl,rfl,_,_,rfl,rfl,⟨Al (by omega) (by omega),Al (by omega) (by omega)⟩,_,_,rfl,rfl,(by show(0:Int)<_;decide),?_⟩
    have q1:=Int.emod_nonneg (x*(x+40503)) (show(2147483629:Int)≠0 by decide)
    have q2:=Int.emod_lt_of_pos (x*(x+40503)) (show(0:Int)<2147483629 by decide)
    generalize (x*(x+40503))%2147483629=w' at q1 q2 ⊢
    refine⟨_,rfl,_,rfl,_,_,rfl,rfl,_,_,rfl,rfl,⟨Al (by omega) (by omega),Al (by omega) (by omega)⟩,_,_,rfl,rfl,(by show(0:Int)<_;decide),?_⟩
    refine⟨_,rfl,_,_,rfl,rfl,⟨by decide,by decide⟩,_,rfl,_,_,rfl,rfl,hm,?_⟩
    exact fin r _ _ (Int.emod_nonneg _ (by omega)) (Int.emod_lt_of_pos _ hm) AB Ac.upd
   ·refine⟨_,rfl,_,_,rfl,rfl,(by show(0:Int)<_;decide),rfl,_,rfl,CP (fun c3=>?_) (fun c3=>?_)⟩
    ·refine⟨_,rfl,_,_,rfl,rfl,⟨by decide,by decide⟩,_,_,rfl,rfl,_,rfl,a,_,rfl,.inl hS1,_,_,rfl,rfl,_,rfl,CP (fun c4=>?_) (fun c4=>?_)⟩
     ·have c4':=of_decide_eq_true c4
      rw[hlen]at c4'
      obtain⟨v,hv⟩:=Fy (ns:=ns) (show 0≤1+c / 40 by omega) c4'
      refine⟨_,rfl,_,rfl,_,_,rfl,rfl,⟨by decide,by decide⟩,_,_,rfl,rfl,a,_,_,_,rfl,rfl,hS1,hv,?_⟩
      refine⟨_,rfl,_,rfl,_,_,rfl,rfl,⟨by omega,hz⟩,_,rfl,p,_,_,2,rfl,rfl,AB,rfl,?_⟩
      refine⟨_,rfl,_,rfl,_,_,rfl,rfl,hm,?_⟩
      exact fin _ _ _ (Int.emod_nonneg _ (by omega)) (Int.emod_lt_of_pos _ hm) AB (Ac.trans Ac.upd Ac.upd)
     ·skip
      refine⟨_,rfl,_,rfl,_,_,rfl,rfl,⟨by omega,hz⟩,_,rfl,p,_,_,2,rfl,rfl,AB,rfl,?_⟩
      refine⟨_,rfl,_,rfl,_,_,rfl,rfl,hm,?_⟩
      exact fin _ _ _ (Int.emod_nonneg _ (by omega)) (Int.emod_lt_of_pos _ hm) AB (Ac.trans Ac.upd Ac.upd)
    ·skip
     refine⟨_,rfl,_,rfl,_,_,rfl,rfl,⟨by omega,hz⟩,_,rfl,p,_,_,2,rfl,rfl,AB,rfl,?_⟩
     refine⟨_,rfl,_,rfl,_,_,rfl,rfl,hm,?_⟩
     exact fin _ _ _ (Int.emod_nonneg _ (by omega)) (Int.emod_lt_of_pos _ hm) AB (Ac.trans Ac.upd Ac.upd)
theorem Ip:Aa ["thing"] ["thing"] (AL ET):=BW
theorem Hn (T:Txt w K mg t):Ap P w K mg base Bj 1 t.ai t.aj ["thing"] Lm:=by
 have D:=T.cw
 refine D.fn.okX Ip ?_ (fun cdv A outer s H vs Q E hr h Z hZ=>?_)
 ·rintro _ _ _ _ ⟨i,rfl,_⟩
  rfl
 ·obtain⟨i,rfl,k⟩:=h
  refine hZ ⟨_,((AH (AK (Bd (AQ Ai (by rfl) T.d1 AS (AA (AI 0) (AA (BC T.d2 Fx) AC))) (CT (Hx (AQ Ai (by rfl) T.d1 AS (AA (AI 0) (AA (BC T.d3 B8) AC))))))))),?_⟩
  try dsimp only[BR,Aw]
  refine⟨_,rfl,_,_,_,_,true,rfl,.int _,rfl,(fun _=>.inr trivial),Bm _ _,true,rfl,Ax ?_⟩
  exact⟨_,rfl,_,_,_,_,false,rfl,.int _,rfl,(fun _=>.inr trivial),T.ep,false,rfl,k⟩
theorem FX:Aa ["thing"] ["thing"] (AL CF):=BW
theorem FE (T:Txt w K mg t):Ap P w K mg base Bj 1 t.ak t.al ["thing"] OS:=by
 have D:=T.cx
 refine D.fn.okX FX ?_ (fun cdv A outer s H vs Q E hr h Z hZ=>?_)
 ·rintro _ _ _ _ ⟨z,rfl,_⟩
  rfl
 ·obtain⟨z,rfl,nm,k⟩:=h
  refine hZ ⟨_,((AF (Ah (Ct (Bl (BB (AQ Ai (by rfl) T.d1 AS (AA (AI 0) (AA (BC T.d4 Dj) AC))))) (Ct (AO DW (AQ Eh (by rfl) T.dz PySem.boot_len (AA (AI 0) AC)) AE (AR _)) (DB (AO KD (AQ Eh (by rfl) T.dz PySem.boot_len (AA (AI 0) AC)) (Cl T.ef) (AR _))))).pt (AH (AK Cs)) AM)
   (AH (AK (AQ (CY rfl) (by rfl) T.d7 CZ (CW (DF (fv:=[]) (js:=[]) (cl:=[]) rfl (by with_unfolding_all rfl) ⟨rfl,by nofun,by nofun,rfl,by nofun,by nofun,(List.forall_mem_nil _),(List.forall_mem_nil _),.nil⟩ (Ms (AI 0)) (fun _ _ _ _ _=>DE) (fun _ _ _ _ _=>(A4 NE (AI 0) (Ln T.ee) rfl))) AC)))))),?_⟩
  try dsimp only[BR,Aw]
  have h1:=nm.lo
  have h2:=nm.hi
  have hz:z.length≤sizeLine:=MN (by omega)
  refine⟨_,rfl,_,_,_,_,true,rfl,.str _,rfl,(fun _=>.inr trivial),Bm _ _,true,rfl,Af ?_⟩
  refine⟨_,rfl,z,rfl,hz,_,_,rfl,rfl,false,(by simp;omega),Af ?_⟩
  refine⟨_,rfl,z,rfl,hz,_,_,rfl,rfl,false,(by simp;omega),Af ?_⟩
  refine⟨_,rfl,z,rfl,fun D hD=>?_⟩
  obtain⟨W,w0,turn⟩:=Id (z:=z) (Str.ofString "abcdefghijklmnopqrstuvwxyz") (by omega) hD
  refine⟨W,w0,fun i m' H' w'=>?_⟩
  rcases turn i m' H' w' with⟨st,rfl⟩ | h
  case inr=>exact .inr ⟨h.1,fun x H2 y=>h.2 _ _ x H2 y⟩
  refine .inl ⟨st,?_⟩
  exact⟨D,_,rfl,Aq.of AB,J8 (congrArg V.bl (J0 (NF nm))) (k _ (AG.new hD))⟩
theorem FY (T:Txt w K mg t):Ap P w K mg base Bj 0 t.am t.an ["thing","sheets"] K2:=by
 have D:=T.cy
 exact⟨fun _ _ _ _ z=>z.elim,fun _ _ _ _ _ _ _ _ _ _ _ _ _ z=>z.elim⟩
theorem FZ (T:Txt w K mg t):Ap P w K mg base Bj 0 t.ao t.ap ["thing"] K2:=by
 have D:=T.cz
 exact⟨fun _ _ _ _ z=>z.elim,fun _ _ _ _ _ _ _ _ _ _ _ _ _ z=>z.elim⟩
theorem J4 (T:Txt w K mg t):Ap P w K mg base Bj 0 t.aq t.ar ["thing"] K2:=by
 have D:=T.c0
 exact⟨fun _ _ _ _ z=>z.elim,fun _ _ _ _ _ _ _ _ _ _ _ _ _ z=>z.elim⟩
theorem LE:Aa ["thing","most"] ["thing","most"] (AL F2):=BW
theorem ED (T:Txt w K mg t):Ap P w K mg base Bj 1 t.au t.av ["thing","most"] Ob:=by
 have D:=T.c1
 refine D.fn.okX LE ?_ (fun cdv A outer s H vs Q E hr h Z hZ=>?_)
 ·rintro _ _ _ _ ⟨a,ys,m,rfl,_⟩
  rfl
 ·obtain⟨a,ys,m,rfl,ha,hm,k⟩:=h
  refine hZ ⟨_,((AH (AK (Bd (AQ GB (by rfl) T.d1 AS (AA (AI 0) (Ay (AU (AA (BC T.d6 EA) (AA (BC T.d5 A8) AC))) AC))) (CT (A4 JB (AQ An (by rfl) T.dz PySem.boot_len (AA (AI 0) AC)) (AI 1) (AR _))))))),?_⟩
  try dsimp only[BR,Aw]
  refine⟨_,rfl,Ar,fun p hp=>⟨a,p,ys,rfl,AG.new hp _ _ ha,AB,true,rfl,Ax ?_⟩⟩
  exact⟨_,rfl,a,ys,rfl,.inl (Aq.of (AG.new hp _ _ ha)),_,rfl,_,_,rfl,rfl,J8 (by simp[hm]) (k _ (AG.new hp))⟩
theorem Iq:Aa ["thing","most"] ["thing","most"] (AL EU):=BW
theorem Ho (T:Txt w K mg t):Ap P w K mg base Bj 2 t.aw t.ax ["thing","most"] Oc:=by
 have D:=T.c2
 refine D.fn.okX Iq ?_ (fun cdv A outer s H vs Q E hr h Z hZ=>?_)
 ·rintro _ _ _ _ ⟨i,m,rfl,_⟩
  rfl
 ·obtain⟨i,m,rfl,h0,h1,k⟩:=h
  refine hZ ⟨_,((AH (AK (Bd (AW T.cw (Hn T) (Bz hr) (AA (AI 0) AC)) (Bd (A4 JB AE (AI 0) (AR _)) (CT (A4 JB (AI 0) (AI 1) (AR _)))))))),?_⟩
  try dsimp only[BR,Aw]
  refine⟨_,rfl,i,rfl,true,rfl,Ax ?_⟩
  refine⟨_,rfl,_,_,rfl,rfl,true,(by simp[h0]),Ax ?_⟩
  exact⟨_,rfl,_,rfl,_,_,rfl,rfl,J8 (by simp[h1]) k⟩
theorem Gx:Aa ["thing"] ["thing"] (AL DH):=BW
theorem GE (T:Txt w K mg t):Ap P w K mg base Bj 2 t.ay t.az ["thing"] Od:=by
 have D:=T.c3
 refine D.fn.okX Gx ?_ (fun cdv A outer s H vs Q E hr h Z hZ=>?_)
 ·rintro _ _ _ _ ⟨a,zs,rfl,_⟩
  rfl
 ·obtain⟨a,zs,rfl,ha,ok,k⟩:=h
  refine hZ ⟨_,((AF (Ah (PW.pt (Ct (Bl (BB (AW T.c1 (ED T) (Bz hr) (AA (AI 0) (AA (Cl T.ei) AC))))) (Ct (AO At (AQ An (by rfl) T.dz PySem.boot_len (AA (AI 0) AC)) AE (AR _)) (DB (Bl (BB (AQ (CY rfl) (by rfl) T.d7 CZ (CW (DF (fv:=[]) (js:=[]) (cl:=[]) rfl (by with_unfolding_all rfl) ⟨rfl,by nofun,by nofun,rfl,by nofun,by nofun,(List.forall_mem_nil _),(List.forall_mem_nil _),.nil⟩ (Ch (AI 0)) (fun _ _ _ _ _=>DE) (fun _ _ _ _ _=>(AW T.cx (FE T) (Bz hr) (AA (AI 0) AC)))) AC)))))))) (AH (AK Cs)) AM)
   (AH (AK (A4 At (GT rfl (by rfl) T.dz PySem.boot_len (by rfl) T.eb (AI 0)) (AQ An (by rfl) T.dz PySem.boot_len (AA (AI 0) AC)) (AR _)))))),?_⟩
  try dsimp only[BR,Aw]
  obtain⟨h1,h4,nd,nm⟩:=ok
  have hl:(zs.map V.str).length=zs.length:=List.length_map ..
  refine⟨_,rfl,a,_,_,rfl,ha,(by rw[hl];omega),fun H1 s1=>⟨true,rfl,Af ?_⟩⟩
  have ha1:=s1 _ _ ha
  refine⟨_,rfl,a,_,rfl,.inl (Aq.of ha1),rfl,false,congrArg V.bl (decide_eq_false fun e=>by injection e with e;rw[hl]at e;omega),Af ?_⟩
  refine⟨_,rfl,?_⟩
  refine⟨a,rfl,⟨_,Aq.of ha1⟩,fun D hD=>?_⟩
  refine⟨fun i m H4=>m=zs.length-i∧i≤zs.length∧H4 D=some (.lst ((List.replicate i true).map V.bl))∧∀ b o,H1 b=some o→H4 b=some o,⟨zs.length,rfl,Nat.zero_le _,AB,fun b o e=>AG.new hD _ _ e⟩,?_⟩
  rintro i m H4 ⟨rfl,hi,hD4,s4⟩
  by_cases hlt:i<zs.length
  ·have hx0:(zs.map V.str)[i]?=some (V.str zs[i]):=by rw[List.getElem?_map,List.getElem?_eq_getElem hlt];rfl
   refine .inr ⟨⟨_,_,Aq.of (s4 _ _ ha1),hx0⟩,fun x H' y=>?_⟩
   obtain⟨e,y⟩:=y
   subst e
   have hx:=y _ (Aq.of (s4 _ _ ha1))
   rw[hx0]at hx
   cases hx
   refine⟨_,rfl,zs[i],rfl,nm _ (List.getElem_mem hlt),fun H5 s5=>?_⟩
   refine⟨_,s5 _ _ hD4,Ek (by rw[List.length_map,List.length_replicate];omega),zs.length-(i+1),by omega,rfl,hlt,?_,fun b o e=>?_⟩
   ·rw[AB,List.replicate_succ',List.map_append];rfl
   ·rw[AT (AX e hD)];exact s5 _ _ (s4 _ _ e)
  have e:i=zs.length:=by omega
  subst e
  refine .inl ⟨⟨_,Aq.of (s4 _ _ ha1),by rw[hl];exact Nat.le_refl _⟩,?_⟩
  refine⟨D,_,rfl,Aq.of hD4,true,congrArg V.bl (by simp),Af ?_⟩
  refine⟨_,rfl,a,zs,rfl,Aq.of (s4 _ _ ha1),by omega,nd,_,rfl,a,_,rfl,.inl (Aq.of (s4 _ _ ha1)),rfl,?_⟩
  rw[hl]
  exact J8 (congrArg V.bl (decide_eq_true rfl)) (k _ fun b o e=>s4 _ _ (s1 _ _ e))
theorem Fa:Aa ["pairs"] ["pairs"] (AL CG):=BW
theorem B9 (T:Txt w K mg t):Ap P w K mg base Bj 1 t.a0 t.a1 ["pairs"] K3:=by
 have D:=T.c4
 refine D.fn.okX Fa ?_ (fun cdv A outer s H vs Q E hr h Z hZ=>?_)
 ·rintro _ _ _ _ ⟨a,rfl,_⟩
  rfl
 ·obtain⟨a,rfl,ha,k⟩:=h
  refine hZ ⟨_,((AH (AK (A4 At (GT rfl (by rfl) T.dz PySem.boot_len (by rfl) T.eb (DF (fv:=[]) (js:=[]) (cl:=[]) rfl (by with_unfolding_all rfl) ⟨rfl,by nofun,by nofun,rfl,by nofun,by nofun,(List.forall_mem_nil _),(List.forall_mem_nil _),.nil⟩ (Ch (AI 0)) (fun _ _ _ _ _=>DE) (fun _ _ _ _ _=>(Ab JG (AI 0) AE (fun _ _=>rfl))))) (AQ An (by rfl) T.dz PySem.boot_len (AA (AI 0) AC)) (AR _))))),?_⟩
  try dsimp only[BR,Aw]
  refine⟨_,rfl,?_⟩
  refine⟨a,rfl,⟨_,Aq.of ha⟩,fun D hD=>?_⟩
  refine⟨fun i m H4=>i=0∧H4=upd H D (.lst []),⟨0,rfl,rfl⟩,?_⟩
  rintro i m H4 ⟨rfl,rfl⟩
  refine .inl ⟨⟨_,Aq.of (AG.new hD _ _ ha),Nat.zero_le _⟩,?_⟩
  have sD:=AG.new (o:=.lst []) hD
  refine⟨D,[],rfl,Aq.of AB,Nat.zero_le _,List.Pairwise.nil,_,rfl,a,_,rfl,.inl (Aq.of (sD _ _ ha)),rfl,?_⟩
  exact J8 (congrArg V.bl (decide_eq_true rfl)) (k _ sD)
theorem Hq:Aa ["thing","sheets"] ["thing","sheets"] (AL Dr):=BW
theorem Gy (T:Txt w K mg t):Ap P w K mg base Bj 2 t.a2 t.a3 ["thing","sheets"] Oe:=by
 have D:=T.c5
 refine D.fn.okX Hq ?_ (fun cdv A outer s H vs Q E hr h Z hZ=>?_)
 ·rintro _ _ _ _ ⟨a,v,rfl,_⟩
  rfl
 ·obtain⟨a,v,rfl,ha,k⟩:=h
  refine hZ ⟨_,((AF (Ah (PW.pt (Ct (Bl (BB (AW T.c1 (ED T) (Bz hr) (AA (AI 0) (AA (Cl T.ej) AC))))) (DB (Bl (BB (AQ (CY rfl) (by rfl) T.d7 CZ (CW (DF (fv:=["sheets"]) (js:=[1]) (cl:=[("sheets",s.heap.objs.size+1)]) rfl (by with_unfolding_all rfl) ⟨rfl,by nofun,by nofun,rfl,by nofun,by nofun,(List.forall_mem_cons.mpr ⟨⟨rfl,rfl,rfl⟩,(List.forall_mem_nil _)⟩),(List.forall_mem_cons.mpr ⟨rfl,(List.forall_mem_nil _)⟩),(.cons rfl .nil)⟩ (Ch (AI 0)) (fun _ _ _ _ _=>DE) (fun _ _ _ _ _=>(AW T.cy (FY T) (Bz hr) (AA (AI 0) (AA (AI 1) AC))))) AC))))))) (AH (AK Cs)) AM)
   (AH (AK (AW T.c4 (B9 T) (Bz hr) (AA (AI 0) AC)))))),?_⟩
  try dsimp only[BR,Aw]
  refine⟨_,rfl,a,_,_,rfl,ha,(by decide),fun H1 s1=>⟨true,rfl,Af ?_⟩⟩
  have ha1:=s1 _ _ ha
  refine⟨_,rfl,?_⟩
  refine⟨a,rfl,⟨_,Aq.of ha1⟩,fun D hD=>?_⟩
  refine⟨fun i m H4=>i=0∧H4=upd H1 D (.lst []),⟨0,rfl,rfl⟩,?_⟩
  rintro i m H4 ⟨rfl,rfl⟩
  refine .inl ⟨⟨_,Aq.of (AG.new hD _ _ ha1),Nat.zero_le _⟩,?_⟩
  have sD:=AG.new (o:=.lst []) hD
  refine⟨D,[],rfl,Aq.of AB,true,rfl,Af ?_⟩
  exact⟨_,rfl,a,rfl,sD _ _ ha1,fun H3 s3=>k _ ((s1.trans sD).trans s3)⟩
theorem Hr:Aa ["thing"] ["thing"] (AL Ds):=BW
theorem Gz (T:Txt w K mg t):Ap P w K mg base Bj 2 t.a4 t.a5 ["thing"] K3:=by
 have D:=T.c6
 refine D.fn.okX Hr ?_ (fun cdv A outer s H vs Q E hr h Z hZ=>?_)
 ·rintro _ _ _ _ ⟨a,rfl,_⟩
  rfl
 ·obtain⟨a,rfl,ha,k⟩:=h
  refine hZ ⟨_,((AH (AK (Bd (AW T.c1 (ED T) (Bz hr) (AA (AI 0) (AA (Cl T.ek) AC))) (Bd (AQ (CY rfl) (by rfl) T.d7 CZ (CW (DF (fv:=[]) (js:=[]) (cl:=[]) rfl (by with_unfolding_all rfl) ⟨rfl,by nofun,by nofun,rfl,by nofun,by nofun,(List.forall_mem_nil _),(List.forall_mem_nil _),.nil⟩ (Ch (AI 0)) (fun _ _ _ _ _=>DE) (fun _ _ _ _ _=>(AW T.cz (FZ T) (Bz hr) (AA (AI 0) AC)))) AC)) (CT (AW T.c4 (B9 T) (Bz hr) (AA (AI 0) AC)))))))),?_⟩
  try dsimp only[BR,Aw]
  refine⟨_,rfl,a,_,_,rfl,ha,(by decide),fun H1 s1=>⟨true,rfl,Ax ?_⟩⟩
  have ha1:=s1 _ _ ha
  refine⟨_,rfl,?_⟩
  refine⟨a,rfl,⟨_,Aq.of ha1⟩,fun D hD=>?_⟩
  refine⟨fun i m H4=>i=0∧H4=upd H1 D (.lst []),⟨0,rfl,rfl⟩,?_⟩
  rintro i m H4 ⟨rfl,rfl⟩
  refine .inl ⟨⟨_,Aq.of (AG.new hD _ _ ha1),Nat.zero_le _⟩,?_⟩
  have sD:=AG.new (o:=.lst []) hD
  refine⟨D,[],rfl,Aq.of AB,true,rfl,Ax ?_⟩
  exact⟨_,rfl,a,rfl,sD _ _ ha1,fun H3 s3=>k _ ((s1.trans sD).trans s3)⟩
theorem Ir:Aa ["thing"] ["thing"] (AL EV):=BW
theorem Hs (T:Txt w K mg t):Ap P w K mg base Bj 2 t.a6 t.a7 ["thing"] K3:=by
 have D:=T.c7
 refine D.fn.okX Ir ?_ (fun cdv A outer s H vs Q E hr h Z hZ=>?_)
 ·rintro _ _ _ _ ⟨a,rfl,_⟩
  rfl
 ·obtain⟨a,rfl,ha,k⟩:=h
  refine hZ ⟨_,((AH (AK (Bd (AW T.c1 (ED T) (Bz hr) (AA (AI 0) (AA (Cl T.el) AC))) (Bd (AQ (CY rfl) (by rfl) T.d7 CZ (CW (DF (fv:=[]) (js:=[]) (cl:=[]) rfl (by with_unfolding_all rfl) ⟨rfl,by nofun,by nofun,rfl,by nofun,by nofun,(List.forall_mem_nil _),(List.forall_mem_nil _),.nil⟩ (Ch (AI 0)) (fun _ _ _ _ _=>DE) (fun _ _ _ _ _=>(AW T.c0 (J4 T) (Bz hr) (AA (AI 0) AC)))) AC)) (CT (AW T.c4 (B9 T) (Bz hr) (AA (AI 0) AC)))))))),?_⟩
  try dsimp only[BR,Aw]
  refine⟨_,rfl,a,_,_,rfl,ha,(by decide),fun H1 s1=>⟨true,rfl,Ax ?_⟩⟩
  have ha1:=s1 _ _ ha
  refine⟨_,rfl,?_⟩
  refine⟨a,rfl,⟨_,Aq.of ha1⟩,fun D hD=>?_⟩
  refine⟨fun i m H4=>i=0∧H4=upd H1 D (.lst []),⟨0,rfl,rfl⟩,?_⟩
  rintro i m H4 ⟨rfl,rfl⟩
  refine .inl ⟨⟨_,Aq.of (AG.new hD _ _ ha1),Nat.zero_le _⟩,?_⟩
  have sD:=AG.new (o:=.lst []) hD
  refine⟨D,[],rfl,Aq.of AB,true,rfl,Ax ?_⟩
  exact⟨_,rfl,a,rfl,sD _ _ ha1,fun H3 s3=>k _ ((s1.trans sD).trans s3)⟩
theorem Ep:Aa ["pairs"] ["pairs"] (AL Bv):=BW
theorem Bo (T:Txt w K mg t)(hC:PySem.W.CodeHd base t.c8 t.cr)(hB:BM mg base):Ap P w K mg base Bj 1 t.a8 t.a9 ["pairs"] (Of t.cr):=by
 have D:=T.c8
 refine D.fn.okCX Ep ?_ (fun cdv A outer s H vs Q E hcd hr h Z hZ=>?_)
 ·rintro _ _ _ _ ⟨a,rfl,_⟩
  rfl
 ·obtain⟨a,rfl,ha,ht,k⟩:=h
  refine hZ ⟨_,((AH (AK (Bp Bh (by rfl) T.d5 A8 (BH (Kn (by rfl) T.ea (AI 0) (M6 (clos:=[]) rfl (by with_unfolding_all rfl) (hcd.symm.trans T.eu) hC hB)) AC))))),?_⟩
  try dsimp only[BR,Aw]
  refine⟨_,rfl,ht,fun lf H2 nf keep tab lam=>?_⟩
  obtain⟨ps,hP,_⟩:=id ht
  have neP:a≠t.cr:=fun e=>by rw[e,hP]at ha;cases ha
  refine⟨a,lf,rfl,rfl,keep _ _ neP ha,fun l hl=>?_⟩
  refine⟨l,[],rfl,.inl ⟨Aq.of AB,fun q hq=>?_⟩⟩
  exact k q _ AB (fun b o hb e=>AG.new hq _ _ (AG.new hl _ _ (keep b o hb e))) ((tab.sm (AG.new hl)).sm (AG.new hq))
theorem J5:Aa ["sheets","cells","names","owns","rounds"] ["sheets","cells","names","owns","rounds"] (AL FC):=BW
theorem Iu (T:Txt w K mg t)(hC:PySem.W.CodeHd base t.c8 t.cr)(hB:BM mg base):Ap P w K mg base Bj 4 t.ba t.bb ["sheets","cells","names","owns","rounds"] (Og t.cr):=by
 have D:=T.c9
 refine D.fn.okX J5 ?_ (fun cdv A outer s H vs Q E hr h Z hZ=>?_)
 ·rintro _ _ _ _ ⟨a,c,n,o,zs,rfl,_⟩
  rfl
 ·obtain⟨a,c,n,o,zs,rfl,ha,hc,hn,ho,ok,ht,k⟩:=h
  refine hZ ⟨_,((AF (Ah (Bl (BB (AW T.c3 (GE T) (Bz hr) (AA (AI 0) AC)))) (AH DU) AM)
   (AF (Ah (Bl (BB (AW T.c5 (Gy T) (Bz hr) (AA (AI 1) (AA (AI 0) AC))))) (AH DU) AM)
   (AF (Ah (Bl (BB (AW T.c6 (Gz T) (Bz hr) (AA (AI 2) AC)))) (AH DU) AM)
   (AF (Ah (Bl (BB (AW T.c7 (Hs T) (Bz hr) (AA (AI 3) AC)))) (AH DU) AM)
   (AF (Ah (Bl (BB (AW T.c2 (Ho T) (Bz hr) (AA (AI 4) (AA (Cl T.em) AC))))) (AH DU) AM)
   (AH (AK (AU (BH (Bp Bh (by rfl) T.d5 A8 (AA (AI 0) AC)) (BH (AW T.c8 (Bo T hC hB) (hr.mono (by omega)) (AA (AI 1) AC)) (BH (AW T.c8 (Bo T hC hB) (hr.mono (by omega)) (AA (AI 2) AC)) (BH (AW T.c8 (Bo T hC hB) (hr.mono (by omega)) (AA (AI 3) AC)) (AA (AI 4) AC)))))))))))))),?_⟩
  try dsimp only[BR,Aw]
  refine⟨_,rfl,a,zs,rfl,ha,ok,fun H1 s1=>⟨true,rfl,Af ?_⟩⟩
  refine⟨_,rfl,_,rfl,c,_,rfl,s1 _ _ hc,fun H2 s2=>⟨true,rfl,Af ?_⟩⟩
  refine⟨_,rfl,n,rfl,s2 _ _ (s1 _ _ hn),fun H3 s3=>⟨true,rfl,Af ?_⟩⟩
  refine⟨_,rfl,o,rfl,s3 _ _ (s2 _ _ (s1 _ _ ho)),fun H4 s4=>⟨true,rfl,Af ?_⟩⟩
  refine⟨_,rfl,0,4,rfl,(by decide),(by decide),true,rfl,Af ?_⟩
  have s04:=((s1.trans s2).trans s3).trans s4
  have ha4:=s04 _ _ ha
  obtain⟨ps,hP,_⟩:=id ht
  have nP:∀{b:Addr} {ys:List V},H b=some (.lst ys)→b≠t.cr:=fun h e=>by rw[e,hP]at h;cases h
  refine⟨_,rfl,a,_,rfl,.inl ⟨Aq.of ha4,fun t1 h1=>?_⟩⟩
  have s5:=s04.trans (AG.new (o:=.tup (zs.map V.str)) h1)
  have o1:upd H4 t1 (.tup (zs.map V.str)) t1=some (.tup (zs.map V.str)):=AB
  generalize upd H4 t1 (.tup (zs.map V.str))=H5 at *
  have hP5:=s5 _ _ hP
  have n1:t1≠t.cr:=fun e=>by rw[e,hP5]at o1;cases o1
  refine⟨_,rfl,c,rfl,s5 _ _ hc,ht.sm s5,fun t2 H6 o2 k6 tb6=>?_⟩
  obtain⟨ps6,hP6,_⟩:=id tb6
  have n2:t2≠t.cr:=fun e=>by rw[e,hP6]at o2;cases o2
  refine⟨_,rfl,n,rfl,k6 _ _ (nP hn) (s5 _ _ hn),tb6,fun t3 H7 o3 k7 tb7=>?_⟩
  obtain⟨ps7,hP7,_⟩:=id tb7
  have n3:t3≠t.cr:=fun e=>by rw[e,hP7]at o3;cases o3
  refine⟨_,rfl,o,rfl,k7 _ _ (nP ho) (k6 _ _ (nP ho) (s5 _ _ ho)),tb7,fun t4 H8 o4 k8 tb8=>?_⟩
  refine⟨_,rfl,(by show 5≤sizeLine;decide),fun b hb=>?_⟩
  have sb:=AG.new (o:=.tup [.ref t1,.ref t2,.ref t3,.ref t4,.int 0]) hb
  exact k b _ ⟨t1,t2,t3,t4,AB,sb _ _ (k8 _ _ n1 (k7 _ _ n1 (k6 _ _ n1 o1))),sb _ _ (k8 _ _ n2 (k7 _ _ n2 o2)),sb _ _ (k8 _ _ n3 o3),sb _ _ o4⟩ (fun x u hx e=>sb _ _ (k8 _ _ hx (k7 _ _ hx (k6 _ _ hx (s5 _ _ e)))))
theorem Dw (T:Txt w K mg t):Ap P w K mg base Bj 0 t.bc t.bd ["self","key","within"] K2:=by
 have D:=T.da
 exact⟨fun _ _ _ _ z=>z.elim,fun _ _ _ _ _ _ _ _ _ _ _ _ _ z=>z.elim⟩
theorem Dx (T:Txt w K mg t):Ap P w K mg base Bj 0 t.be t.bf ["self","row","parts","within"] K2:=by
 have D:=T.db
 exact⟨fun _ _ _ _ z=>z.elim,fun _ _ _ _ _ _ _ _ _ _ _ _ _ z=>z.elim⟩
theorem Bk:Aa ["book","called","pair","own"] ["book"] (AL CH):=BW
theorem FF (T:Txt w K mg t):Ap P w K mg base Bj 1 t.bg t.bh ["book"] Oh:=by
 have D:=T.dc
 refine D.fn.okX Bk ?_ (fun cdv A outer s H vs Q E hr h Z hZ=>?_)
 ·rintro _ _ _ _ ⟨b,zs,rfl,_⟩
  rfl
 ·obtain⟨b,zs,rfl,bk,k⟩:=h
  have hu1:=MH hr
  refine hZ ⟨_,((AF (Ao (i:=1) Bk.nd rfl (Or.inl rfl) HR)
   (AF (DV PassesOwn.never rfl (GX (Ab Ae (AI 0) AE (fun _ _=>rfl))) (BG (i:=2) Bk.nd rfl (Or.inl rfl))
   (AH (JL hu1 (AI 1) (AU (AD AJ (AY (Ab Ae (AI 2) AE (fun _ _=>rfl)) AC))) (AU (AD AE (AY (Ab Ae (AI 2) AE (fun _ _=>rfl)) AC))) rfl)))
   (AF (DV PassesOwn.never rfl (GX (Ab Ae (AI 0) AE (fun _ _=>rfl))) (BG (i:=3) Bk.nd rfl (Or.inl rfl))
   (AH (JL hu1 (AI 1) (AU (AD AJ (AY (Ab Ae (AI 3) AE (fun _ _=>rfl)) AC))) (AU (AY (Ab Ae (AI 3) AE (fun _ _=>rfl)) (AY (Ab Ae (AI 3) AE (fun _ _=>rfl)) AC))) rfl)))
   (AH (AK (AI 1))))))),?_⟩
  try dsimp only[BR,Aw]
  obtain⟨t1,t2,t3,t4,hb,h1,h2,h3,h4⟩:=bk
  refine fun c hc=>?_
  have s1:=AG.new (o:=.dT []) hc
  have oc:upd H c (.dT []) c=some (.dT []):=AB
  generalize upd H c (.dT [])=H1 at *
  refine⟨_,rfl,b,_,_,_,rfl,rfl,Am.of (s1 _ _ hb),rfl,t3,rfl,⟨_,Am.of (s1 _ _ h3)⟩,?_⟩
  refine GY (xs:=[]) (fun i σ H5=>σ=[some (.ref b),some (.ref c),none,none]∧H5=H1) ⟨rfl,rfl⟩ ?_ ?_ ?_
  ·rintro i σ H5 _ ⟨rfl,rfl⟩
   exact Am.of (s1 _ _ h3)
  ·rintro i x σ H5 hx
   simp at hx
  rintro σ H5 ⟨rfl,rfl⟩
  refine⟨_,rfl,b,_,_,_,rfl,rfl,Am.of (s1 _ _ hb),rfl,t4,rfl,⟨_,Am.of (s1 _ _ h4)⟩,?_⟩
  refine GY (xs:=[]) (fun i σ H6=>σ=[some (.ref b),some (.ref c),none,none]∧H6=H5) ⟨rfl,rfl⟩ ?_ ?_ ?_
  ·rintro i σ H6 _ ⟨rfl,rfl⟩
   exact Am.of (s1 _ _ h4)
  ·rintro i x σ H6 hx
   simp at hx
  rintro σ H6 ⟨rfl,rfl⟩
  exact⟨_,rfl,k c _ hc oc s1⟩
theorem EX:Aa ["sheet","first","last"] ["sheet","first","last"] (AL Bn):=BW
theorem EF (T:Txt w K mg t):Ap P w K mg base Bj 1 t.bi t.bj ["sheet","first","last"] Oj:=by
 have D:=T.dd
 refine D.fn.okX EX ?_ (fun cdv A outer s H vs Q E hr h Z hZ=>?_)
 ·rintro _ _ _ _ ⟨z,p,q,i,j,x,y,rfl,_⟩
  rfl
 ·obtain⟨z,p,q,i,j,x,y,rfl,hp,hq,k⟩:=h
  refine hZ ⟨_,((AH (AK (AU (AD AJ (AA (AI 0) (Ay (AU (AD AE (AY (Ab Ae (AI 1) AE (fun _ _=>rfl)) (AD Cs (AY (Ab Ae (AI 1) AE (fun _ _=>rfl)) AC))))) (Ay (AU (AA (Cl T.eg) (AY (Ab Ae (AI 2) AE (fun _ _=>rfl)) (AD Cs (AY (Ab Ae (AI 2) AE (fun _ _=>rfl)) AC))))) AC)))))))),?_⟩
  try dsimp only[BR,Aw]
  refine⟨_,rfl,_,rfl,p,_,_,_,rfl,rfl,Am.of hp,rfl,_,rfl,p,_,_,_,rfl,rfl,Am.of hp,rfl,(by show 4≤sizeLine;decide),fun a1 n1=>?_⟩
  have s1:=AG.new (o:=.tup [.int 1,.int i,.bl true,.bl x]) n1
  have o1:upd H a1 (.tup [.int 1,.int i,.bl true,.bl x]) a1=some (.tup [.int 1,.int i,.bl true,.bl x]):=AB
  generalize upd H a1 (.tup [.int 1,.int i,.bl true,.bl x])=H1 at *
  refine⟨_,rfl,q,_,_,_,rfl,rfl,Am.of (s1 _ _ hq),rfl,_,rfl,q,_,_,_,rfl,rfl,Am.of (s1 _ _ hq),rfl,(by show 4≤sizeLine;decide),fun a2 n2=>⟨(by show 4≤sizeLine;decide),fun a n3=>?_⟩⟩
  have s2:=AG.new (o:=.tup [.int 16,.int j,.bl true,.bl y]) n2
  have s3:=AG.new (o:=.tup [vS "range",.str z,.ref a1,.ref a2]) n3
  exact k a _ ⟨a1,a2,AB,s3 _ _ (s2 _ _ o1),s3 _ _ AB⟩ ((s1.trans s2).trans s3)
theorem Er:Aa ["self","book","sheet"] ["self","book","sheet"] (AL Bw):=BW
theorem EY (T:Txt w K mg t):Ap P w K mg base Bj 2 t.bk t.bl ["self","book","sheet"] (Oi t.cp):=by
 have D:=T.de
 refine D.fn.okX Er ?_ (fun cdv A outer s H vs Q E hr h Z hZ=>?_)
 ·rintro _ _ _ _ ⟨x,dx,b,sh,zs,rfl,_⟩
  rfl
 ·obtain⟨x,dx,b,sh,zs,rfl,hx,bk,k⟩:=h
  refine hZ ⟨_,((AF (Gb (AI 0) (AI 2) rfl)
   (AF (Gb (AI 0) (Ab Ae (AI 1) AE (fun _ _=>rfl)) rfl)
   (AF (Gb (AI 0) (AW T.dc (FF T) (Bz hr) (AA (AI 1) AC)) rfl)
   (AH (Gb (AI 0) HR rfl)))))),?_⟩
  try dsimp only[BR,Aw]
  have kx:∀{G:Hp} {fs:List (Str×V)} {o:HO},G x=some (.ins t.cp dx fs)→Kp G (upd G x o):=fun h a xs e=>by rw[AT (CL e h (by intro z;cases z))];exact e
  refine⟨_,rfl,_,rfl,x,_,dx,_,rfl,hx,T.e2,T.e4,(by decide),?_⟩
  generalize hH1:upd H x _=H1
  have h1:H1 x=some (.ins t.cp dx [("sheet",.str sh)]):=by rw[← hH1];exact AB
  have q1:Kp H H1:=by rw[← hH1];exact kx hx
  have k1:Ac x H H1:=by rw[← hH1];exact Ac.upd
  have bk1:=bk.kp q1
  obtain⟨t1,t2,t3,t4,hb,g1,g2,g3,g4⟩:=id bk1
  refine⟨_,rfl,b,_,_,_,rfl,rfl,Am.of hb,rfl,_,rfl,x,_,dx,_,rfl,h1,T.e2,T.e5,(by show(1:Nat)<1000;decide),?_⟩
  generalize hH2:upd H1 x _=H2
  have h2:H2 x=some (.ins t.cp dx [("sheet",.str sh),("sheets",.ref t1)]):=by rw[← hH2];exact AB
  have q2:Kp H1 H2:=by rw[← hH2];exact kx h1
  have k2:Ac x H1 H2:=by rw[← hH2];exact Ac.upd
  refine⟨_,rfl,b,zs,rfl,bk1.kp q2,fun c H3 n3 oc s3=>?_⟩
  refine⟨_,rfl,x,_,dx,_,rfl,s3 _ _ h2,T.e2,T.e6,(by show(2:Nat)<1000;decide),?_⟩
  generalize hH4:upd H3 x _=H4
  have h4:H4 x=some (.ins t.cp dx [("sheet",.str sh),("sheets",.ref t1),("called",.ref c)]):=by rw[← hH4];exact AB
  have cx:c≠x:=fun e=>by rw[e,h2]at n3;cases n3
  have q4:Kp H3 H4:=by rw[← hH4];exact kx (s3 _ _ h2)
  have k4:Ac x H3 H4:=by rw[← hH4];exact Ac.upd
  refine fun r n5=>⟨_,rfl,x,_,dx,_,rfl,AG.new n5 _ _ h4,T.e2,T.e7,(by show(3:Nat)<1000;decide),?_⟩
  have s5:=AG.new (o:=.dT []) n5
  exact k _ ⟨t1,c,r,AB,kx (s5 _ _ h4) _ _ (s5 _ _ (q4 _ _ (s3 _ _ (q2 _ _ g1)))),by rw[AT cx];exact s5 _ _ (k4 _ _ cx oc)⟩ (k1.trans (k2.trans ((AG.keep s3).trans (k4.trans ((AG.keep s5).trans Ac.upd)))))
theorem Bc:Aa ["self","formula","sheet"] ["self","formula"] (AL BD):=BW
theorem Cg (T:Txt w K mg t):Ap P w K mg base Bj 2 t.bm t.bn ["self","formula"] (Ol t.cp):=by
 have D:=T.df
 refine D.fn.okX Bc ?_ (fun cdv A outer s H vs Q E hr h Z hZ=>?_)
 ·rintro _ _ _ _ ⟨u,d,a,sh,zs,l,rfl,_⟩
  rfl
 ·obtain⟨u,d,a,sh,zs,l,rfl,op,hl,hr0,k⟩:=h
  refine hZ ⟨_,((AF (Ao (i:=2) Bc.nd rfl (Or.inl rfl) (Ec (AO DC (Ab Ae (AI 1) AE (fun _ _=>rfl)) B3 (AR _)) (Ga (AI 0) rfl) (Ab Ae (AI 1) AE (fun _ _=>rfl))))
   (AF (Ah (AO Eg (AI 2) (Ga (AI 0) rfl) rfl) (AH (AK (AU (AD AJ (AD AJ AC))))) AM)
   (AF (Ah (AO At (Ab Ae (AI 1) AE (fun _ _=>rfl)) AJ (AR _)) (AH (AK (AW T.dd (EF T) (Bz hr) (AA (AI 2) (AY (Ab Ae (AI 1) AE (fun _ _=>rfl)) (AY (Ab Ae (AI 1) AE (fun _ _=>rfl)) AC)))))) AM)
   (AH (AK (Av LS (AU (AY (Ab Ae (AI 1) AE (fun _ _=>rfl)) (AA (AI 2) AC))) (Ee KJ (AI 1) (Fi AE) Fh)))))))),?_⟩
  try dsimp only[BR,Aw]
  obtain⟨t1,c,r,hu0,h1,h2⟩:=op
  obtain⟨w,s0,rs,ha,hs0,hno⟩:∃(w:Str) (s0:Option Str) (rs:List V),H a=some (.tup (.str w::JQ s0::rs))∧(match l with | .cell s _=>s0=s | .rng s _ _=>s0=s | .cols s _ _ _ _=>s0=s | _=>True)∧(EB sh s0∉zs→G8 sh zs l=.flt (zS "gone")):=by
   cases l with
   | cell s c=>obtain⟨q,ha,hq⟩:=hl;exact⟨_,s,_,ha,rfl,fun n=>if_neg n⟩
   | rng s c d=>obtain⟨q,q2,ha,hq,hq2⟩:=hl;exact⟨_,s,_,ha,rfl,fun n=>if_neg n⟩
   | cols s i x j y=>obtain⟨q,q2,ha,hq,hq2⟩:=hl;exact⟨_,s,_,ha,rfl,fun n=>if_neg n⟩
   | val v=>cases hr0
   | gone=>cases hr0
   | nam z=>cases hr0
   | par i=>cases hr0
   | flt z=>cases hr0
  refine Em (fun σ' H'=>σ'=[some (.ref u),some (.ref a),some (.str (EB sh s0))]∧H'=H) (fun N hN=>?_) (fun σ' H' hJ=>?_)
  ·refine⟨_,rfl,a,_,_,_,rfl,rfl,Am.of ha,El,rfl,?_⟩
   cases s0 with
   | none=>exact⟨true,rfl,Ax ⟨_,rfl,u,_,d,_,_,rfl,hu0,T.e2,T.e4,rfl,hN _ _ ⟨rfl,rfl⟩⟩⟩
   | some z=>exact⟨false,rfl,Af ⟨_,rfl,a,_,_,_,rfl,rfl,Am.of ha,El,hN _ _ ⟨rfl,rfl⟩⟩⟩
  obtain⟨rfl,rfl⟩:=hJ
  refine⟨_,rfl,_,rfl,u,_,d,_,_,rfl,hu0,T.e2,T.e5,rfl,t1,_,rfl,.inr (Am.of h1),rfl,(by simp[Au]),?_⟩
  rw[if_pos rfl,JU]
  by_cases hz:EB sh s0∈zs
  rotate_left
  ·rw[decide_eq_false hz]
   refine⟨true,rfl,Ax ⟨Ar,fun b hb=>k b _ ?_ (AG.new hb)⟩⟩
   rw[hno hz]
   exact AB
  rw[decide_eq_true hz]
  refine⟨false,rfl,Af ?_⟩
  clear ha hno w rs
  cases l with
  | cell s c0=>
   obtain⟨q,hA,hq⟩:=hl
   obtain rfl:s0=s:=hs0
   refine⟨_,rfl,a,_,_,_,rfl,rfl,Am.of hA,AV,rfl,false,(by nofun),Af ?_⟩
   refine⟨_,rfl,a,_,_,_,rfl,rfl,Am.of hA,AV,_,rfl,Ar,fun p hp=>?_⟩
   have s1:=AG.new (o:=.tup [.str (zS "cell"),.str (EB sh s0)]) hp
   refine⟨_,rfl,_,rfl,a,_,rfl,Am.of (s1 _ _ hA),(by simp[HT.Bq]),fun p2 hp2=>?_⟩
   have s2:=AG.new (o:=.tup [.ref q]) hp2
   refine⟨p,p2,_,_,rfl,rfl,Am.of (AG.new hp2 _ _ AB),Am.of AB,(by simp),(by show 3≤sizeLine;decide),(fun z=>by cases z),fun _ b hb=>?_⟩
   have s3:=((s1.trans s2).trans (AG.new (o:=.tup ([.str (zS "cell"),.str (EB sh s0)]++[.ref q])) hb))
   have s4:=AG.new (o:=.tup ([.str (zS "cell"),.str (EB sh s0)]++[.ref q])) hb
   refine k b _ ?_ s3
   rw[show G8 sh zs (.cell s0 c0)=.cell (some (EB sh s0)) c0 from if_pos hz]
   exact⟨q,AB,s3 _ _ hq⟩
  | rng s c0 d0=>
   obtain⟨q,q2,hA,hq,hq2⟩:=hl
   obtain rfl:s0=s:=hs0
   refine⟨_,rfl,a,_,_,_,rfl,rfl,Am.of hA,AV,rfl,false,(by nofun),Af ?_⟩
   refine⟨_,rfl,a,_,_,_,rfl,rfl,Am.of hA,AV,_,rfl,Ar,fun p hp=>?_⟩
   have s1:=AG.new (o:=.tup [.str (zS "range"),.str (EB sh s0)]) hp
   refine⟨_,rfl,_,rfl,a,_,rfl,Am.of (s1 _ _ hA),(by simp[HT.Bq]),fun p2 hp2=>?_⟩
   have s2:=AG.new (o:=.tup [.ref q,.ref q2]) hp2
   refine⟨p,p2,_,_,rfl,rfl,Am.of (AG.new hp2 _ _ AB),Am.of AB,(by simp),(by show 4≤sizeLine;decide),(fun z=>by cases z),fun _ b hb=>?_⟩
   have s3:=((s1.trans s2).trans (AG.new (o:=.tup ([.str (zS "range"),.str (EB sh s0)]++[.ref q,.ref q2])) hb))
   have s4:=AG.new (o:=.tup ([.str (zS "range"),.str (EB sh s0)]++[.ref q,.ref q2])) hb
   refine k b _ ?_ s3
   rw[show G8 sh zs (.rng s0 c0 d0)=.rng (some (EB sh s0)) c0 d0 from if_pos hz]
   exact⟨q,q2,AB,s3 _ _ hq,s3 _ _ hq2⟩
  | cols s i x j y=>
   obtain⟨q,q2,hA,hq,hq2⟩:=hl
   obtain rfl:s0=s:=hs0
   refine⟨_,rfl,a,_,_,_,rfl,rfl,Am.of hA,AV,rfl,true,(by nofun),Ax ?_⟩
   refine⟨_,rfl,_,rfl,a,_,_,_,rfl,rfl,Am.of hA,Hf,_,rfl,a,_,_,_,rfl,rfl,Am.of hA,Kw,EB sh s0,q,q2,i,j,x,y,rfl,hq,hq2,fun b G hb sG=>k b G ?_ sG⟩
   rw[show G8 sh zs (.cols s0 i x j y)=.rng (some (EB sh s0)) ⟨1,i,true,x⟩ ⟨16,j,true,y⟩from if_pos hz]
   exact hb
  | val v=>cases hr0
  | gone=>cases hr0
  | nam z=>cases hr0
  | par i=>cases hr0
  | flt z=>cases hr0
theorem B2:Aa ["self","formula","kind"] ["self","formula"] (AL BX):=BW
theorem DL (T:Txt w K mg t):Ap P w K mg base Bj 3 t.bo t.bp ["self","formula"] (Om t.cp):=by
 have D:=T.dg
 refine D.fn.okX B2 ?_ (fun cdv A outer s H vs Q E hr h Z hZ=>?_)
 ·rintro _ _ _ _ ⟨u,d,v,sh,zs,f,n,rfl,_⟩
  rfl
 ·obtain⟨u,d,v,sh,zs,f,n,rfl,op,hv,fo,nn,k⟩:=h
  refine hZ ⟨_,((AF (Ao (i:=2) B2.nd rfl (Or.inl rfl) (Ab Ae (AI 1) AE (fun _ _=>rfl)))
   (AF (Ah (AO At (AI 2) AJ (AR _)) (AH (AK (AU (AD AJ (AD AJ AC))))) AM)
   (AF (Ah (Ct (AO At (AI 2) AJ (AR _)) (Ct (AO At (AI 2) AJ (AR _)) (DB (AO At (AI 2) AJ (AR _))))).pt (AH (AK (Ci (AI 0) T.e2 T.ex (Cg T) (Bz hr) T.df.b .nil Db (AA (AI 1) AC)))) AM)
   (AH (AK (AI 1))))))),?_⟩
  try dsimp only[BR,Aw]
  obtain⟨t1,c,r,hu0,h1,h2⟩:=id op
  cases hv with
  | @lf a l hl=>
   cases l with
   | val v=>
    obtain⟨q,ha,hq⟩:=id hl
    refine⟨_,rfl,a,_,_,_,rfl,rfl,Am.of ha,AV,?_⟩
    refine⟨_,rfl,rfl,false,(by nofun),Af ?_⟩
    exact⟨_,rfl,rfl,false,(by nofun),Af ⟨_,rfl,rfl,false,(by nofun),Af ⟨_,rfl,rfl,false,(by nofun),Af ⟨_,rfl,k _ H (.lf hl) (AG.refl _)⟩⟩⟩⟩
   | par i=>
    have ha:H a=some (.tup [vS "param",.int i]):=hl
    refine⟨_,rfl,a,_,_,_,rfl,rfl,Am.of ha,AV,?_⟩
    refine⟨_,rfl,rfl,false,(by nofun),Af ?_⟩
    exact⟨_,rfl,rfl,false,(by nofun),Af ⟨_,rfl,rfl,false,(by nofun),Af ⟨_,rfl,rfl,false,(by nofun),Af ⟨_,rfl,k _ H (.lf hl) (AG.refl _)⟩⟩⟩⟩
   | flt z=>
    have ha:H a=some (.tup [vS "fault",.str z]):=hl
    refine⟨_,rfl,a,_,_,_,rfl,rfl,Am.of ha,AV,?_⟩
    refine⟨_,rfl,rfl,false,(by nofun),Af ?_⟩
    exact⟨_,rfl,rfl,false,(by nofun),Af ⟨_,rfl,rfl,false,(by nofun),Af ⟨_,rfl,rfl,false,(by nofun),Af ⟨_,rfl,k _ H (.lf hl) (AG.refl _)⟩⟩⟩⟩
   | nam z=>cases nn
   | gone=>
    have ha:H a=some (.tup [vS "gone"]):=hl
    refine⟨_,rfl,a,_,_,_,rfl,rfl,Am.of ha,AV,?_⟩
    exact⟨_,rfl,rfl,true,(by nofun),Ax ⟨Ar,fun b hb=>k _ _ (.lf (show upd H b _ b=_ from AB)) (AG.new hb)⟩⟩
   | cell s c0=>
    obtain⟨q,ha,hq⟩:=id hl
    refine⟨_,rfl,a,_,_,_,rfl,rfl,Am.of ha,AV,?_⟩
    refine⟨_,rfl,rfl,false,(by nofun),Af ?_⟩
    refine⟨_,rfl,rfl,true,(by nofun),Ax (Ax ?_)⟩
    exact⟨_,rfl,u,d,_,rfl,hu0,rfl,_,rfl,u,d,a,sh,zs,_,rfl,op,hl,rfl,fun b G hb sG=>k _ G (.lf hb) sG⟩
   | rng s c0 d0=>
    obtain⟨q,q2,ha,hq,hq2⟩:=id hl
    refine⟨_,rfl,a,_,_,_,rfl,rfl,Am.of ha,AV,?_⟩
    refine⟨_,rfl,rfl,false,(by nofun),Af ?_⟩
    refine⟨_,rfl,rfl,false,(by nofun),Af ⟨_,rfl,rfl,true,(by nofun),Ax (Ax ?_)⟩⟩
    exact⟨_,rfl,u,d,_,rfl,hu0,rfl,_,rfl,u,d,a,sh,zs,_,rfl,op,hl,rfl,fun b G hb sG=>k _ G (.lf hb) sG⟩
   | cols s i x j y=>
    obtain⟨q,q2,ha,hq,hq2⟩:=id hl
    refine⟨_,rfl,a,_,_,_,rfl,rfl,Am.of ha,AV,?_⟩
    refine⟨_,rfl,rfl,false,(by nofun),Af ?_⟩
    refine⟨_,rfl,rfl,false,(by nofun),Af ⟨_,rfl,rfl,false,(by nofun),Af ⟨_,rfl,rfl,true,(by nofun),Ax ?_⟩⟩⟩
    exact⟨_,rfl,u,d,_,rfl,hu0,rfl,_,rfl,u,d,a,sh,zs,_,rfl,op,hl,rfl,fun b G hb sG=>k _ G (.lf hb) sG⟩
  | @nd a t kd us ps ha ht hl hh=>
   have hv0:Az H (.ref a) (.nd kd ps):=.nd ha ht hl hh
   cases fo with
   | nd ok hps=>
   obtain⟨r0,er⟩:=Gn t kd us
   have ha0:H a=some (.tup (.str (kw kd)::r0)):=by rw[ha,er]
   have fm:=Az.parts hl hh
   have kb:=MT ok
   refine⟨_,rfl,a,_,_,_,rfl,rfl,Am.of ha0,AV,?_⟩
   refine⟨_,rfl,rfl,false,congrArg V.bl (F0 kb (by simp)),Af ?_⟩
   exact⟨_,rfl,rfl,false,congrArg V.bl (F0 kb (by simp)),Af ⟨_,rfl,rfl,false,congrArg V.bl (F0 kb (by simp)),Af ⟨_,rfl,rfl,false,congrArg V.bl (F0 kb (by simp)),Af ⟨_,rfl,k _ H hv0 (AG.refl _)⟩⟩⟩⟩
theorem BK:Aa ["self","formula","within","key","parts","row"] ["self","formula","within"] (AL Bg):=BW
theorem Dy (T:Txt w K mg t):Ap P w K mg base Bj 2 t.bq t.br ["self","formula","within"] (On t.cp):=by
 have D:=T.dh
 refine D.fn.okX BK ?_ (fun cdv A outer s H vs Q E hr h Z hZ=>?_)
 ·rintro _ _ _ _ ⟨u,d,w,v,sh,zs,f,n,rfl,_⟩
  rfl
 ·obtain⟨u,d,w,v,sh,zs,f,n,rfl,op,hv,fo,nn,hw,k⟩:=h
  have hu1:=MH hr
  refine hZ ⟨_,((AF (Ao (i:=3) BK.nd rfl (Or.inl rfl) (AU (AY (Ab Ae (AI 1) AE (fun _ _=>rfl)) (AY (Ab Ae (AI 1) AE (fun _ _=>rfl)) AC))))
   (AF (Ao (i:=4) BK.nd rfl (Or.inl rfl) (AW T.cs (Dv T) (Bz hr) (AA (AI 1) AC)))
   (AF (Ah (Ct (AO (Lh) (AI 3) (AI 2) rfl) (Ct (AO (Li hu1) (AI 3) (Ga (AI 0) rfl) rfl) (DB (AO KC (Ab Ae (La hu1 (Ga (AI 0) rfl) (AI 3) (fun _ _=>rfl)) AE (fun _ _=>rfl)) (AQ An (by rfl) T.dz PySem.boot_len (AA (AI 4) AC)) (AR _))))).pt (AH (AK (A5 (Ay (AU (AD AJ (AD AJ AC))) AC)))) AM)
   (AF (Ao (i:=5) BK.nd rfl (Or.inl rfl) (Ci (AI 0) T.e2 T.ev (Dw T) (Bz hr) T.da.b .nil Db (AA (AI 3) (AA (AI 2) AC))))
   (AH (AK (Ec (AO DC (AI 5) B3 (AR _)) B3 (Ci (AI 0) T.e2 T.ew (Dx T) (Bz hr) T.db.b .nil Db (AA (AI 5) (AA (AI 4) (AA (AI 2) AC)))))))))))),?_⟩
  try dsimp only[BR,Aw]
  obtain⟨a,w0,z,rs,rfl,ha⟩:∃(a:Addr) (w0 z:Str) (rs:List V),v=.ref a∧H a=some (.tup (.str w0::.str z::rs)):=by
   cases hv with
   | @lf a l hl=>
    cases l with
    | nam z=>exact⟨a,_,z,[],rfl,hl⟩
    | val v=>cases nn
    | cell s c=>cases nn
    | rng s c d=>cases nn
    | cols s i x j y=>cases nn
    | gone=>cases nn
    | par i=>cases nn
    | flt z=>cases nn
   | @nd a t0 kd us ps ha ht hl hh=>
    cases kd with
    | own z=>exact⟨a,_,z,_,rfl,ha⟩
    | op z=>cases nn
    | neg=>cases nn
    | sumif z=>cases nn
    | grid a b=>cases nn
    | wd z=>cases nn
  obtain⟨t1,c,r,hu0,h1,h2⟩:=op
  refine⟨_,rfl,a,_,_,_,rfl,rfl,Am.of ha,AV,_,rfl,a,_,_,_,rfl,rfl,Am.of ha,El,Ar,fun p hp=>?_⟩
  have s1:=AG.new (o:=.tup [.str w0,.str z]) hp
  have o1:upd H p (.tup [.str w0,.str z]) p=some (.tup [.str w0,.str z]):=AB
  generalize upd H p (.tup [.str w0,.str z])=H1 at *
  refine⟨_,rfl,.ref a,f,0,n,rfl,hv.kp (Kp.same s1),fo,fun lp ps H2 hlp0 hlp fmp s2=>?_⟩
  have s12:=s1.trans s2
  refine⟨_,rfl,_,rfl,w,rfl,Am.of (s12 _ _ hw),false,rfl,Af ?_⟩
  refine⟨_,rfl,_,rfl,u,_,d,_,_,rfl,(s12 _ _ hu0),T.e2,T.e6,rfl,c,none,rfl,EO.t (k:=[Sum.inr w0,Sum.inr z]) (s12 _ _ h2) (s2 _ _ o1),true,rfl,Ax (Ax ?_)⟩
  refine⟨Ar,fun p2 n2=>⟨Fz,fun l nl=>?_⟩⟩
  have s3:=AG.new (o:=.tup [vS "fault",vS "name"]) n2
  have s4:=AG.new (o:=.lst [.ref p2]) nl
  exact k l _ _ (AG.back0 (s12.trans s3) nl) AB (.cons (.lf (s4 _ _ (show upd H2 p2 _ p2=_ from AB))) .nil) ((s12.trans s3).trans s4)
theorem BS:Aa ["self","formula","within","row","part","more"] ["self","formula","within"] (AL CI):=BW
theorem FG (T:Txt w K mg t):∀ n:Nat,Ap P w K mg base Bj (n+5) t.bs t.bt ["self","formula","within"] (Oo t.cp n):=by
 have D:=T.di
 intro m
 induction m with
 | zero=>
  refine D.fn.okX BS ?_ (fun cdv A outer s H vs Q E hr h Z hZ=>?_)
  ·rintro _ _ _ _ ⟨u,d,w,v,sh,zs,f,rfl,_⟩
   rfl
  ·obtain⟨u,d,w,v,sh,zs,f,rfl,op,hv,fo,sz,hw,k⟩:=h
   cases fo
 | succ m ih=>
  refine D.fn.okX BS ?_ (fun cdv A outer s H vs Q E hr h Z hZ=>?_)
  ·rintro _ _ _ _ ⟨u,d,w,v,sh,zs,f,rfl,_⟩
   rfl
  ·obtain⟨u,d,w,v,sh,zs,f,rfl,op,hv,fo,sz,hw,k⟩:=h
   refine hZ ⟨_,((AF (Ah (Ct (AO At (Ab Ae (AI 1) AE (fun _ _=>rfl)) AJ (AR _)) (DB (AO At (Ab Ae (AI 1) AE (fun _ _=>rfl)) AJ (AR _)))).pt (AH (AK (Ci (AI 0) T.e2 T.ez (Dy T) (hr.mono (by omega)) T.dh.b .nil Db (AA (AI 1) (AA (AI 2) AC))))) AM)
   (AF (Ao (i:=3) BS.nd rfl (Or.inl rfl) (A5 AC))
   (AF (DV PassesOwn.never rfl (Ch (AW T.cs (Dv T) (hr.mono (by omega)) (AA (AI 1) AC))) (BG (i:=4) BS.nd rfl (Or.inl rfl))
   (AF (Ao (i:=5) BS.nd rfl (Or.inl rfl) (Ci (AI 0) T.e2 T.e0 ih (hr.mono (by omega)) T.di.b .nil Db (AA (AI 4) (AA (AI 2) AC))))
   (AF (Ah (AO DC (AI 5) B3 (AR _)) (AH (AK B3)) AM)
   (AH (Fd (JF PySem.F.plainAttrs_list PySem.F.slot_list_extend PySem.F.type_list_extend Jl (AI 3) (AA (AI 5) AC)))))))
   (AF (Fd (JF PySem.F.plainAttrs_list PySem.F.slot_list_append PySem.F.type_list_append Cv (AI 3) (BH (Ci (AI 0) T.e2 T.ey (DL T) (hr.mono (by omega)) T.dg.b .nil Db (AA (AI 1) AC)) AC)))
   (AH (AK (Ec (AO JB (AQ An (by rfl) T.dz PySem.boot_len (AA (AI 3) AC)) (Cl T.eh) (AR _)) (AI 3) B3)))))))),?_⟩
   try dsimp only[BR,Aw]
   obtain⟨a,w0,r0,rfl,ha,e1,e2⟩:=Lx hv fo
   obtain⟨t1,c,r,hu0,h1,h2⟩:=id op
   cases hb:(Gr f||Hh f)with
   | true=>
    have call:∀(ws:List V),A3 H ws (B0 sh zs f)→True:=fun _ _=>trivial
    have nn:K6 f=false:=by rw[JX,hb];rfl
    refine⟨_,rfl,a,_,_,_,rfl,rfl,Am.of ha,AV,rfl,Gr f,congrArg V.bl e1,?_⟩
    cases hn:Gr f with
    | true=>exact Ax (Ax ⟨_,rfl,u,d,_,rfl,hu0,rfl,_,rfl,_,rfl,u,d,w,.ref a,sh,zs,f,m+1,rfl,op,hv,fo,nn,hw,fun l ws H' h0 hl fm s'=>k l ws H' h0 hl (by rw[JV hb];exact fm) s'⟩)
    | false=>
     have ho:Hh f=true:=by rw[hn,Bool.false_or]at hb;exact hb
     exact Af ⟨_,rfl,a,_,_,_,rfl,rfl,Am.of ha,AV,rfl,true,congrArg V.bl (e2.trans ho),Ax ⟨_,rfl,u,d,_,rfl,hu0,rfl,_,rfl,_,rfl,u,d,w,.ref a,sh,zs,f,m+1,rfl,op,hv,fo,nn,hw,fun l ws H' h0 hl fm s'=>k l ws H' h0 hl (by rw[JV hb];exact fm) s'⟩⟩
   | false=>
   obtain⟨hn,ho⟩:=Bool.or_eq_false_iff.mp hb
   refine⟨_,rfl,a,_,_,_,rfl,rfl,Am.of ha,AV,rfl,false,congrArg V.bl (e1.trans hn),Af ⟨_,rfl,a,_,_,_,rfl,rfl,Am.of ha,AV,rfl,false,congrArg V.bl (e2.trans ho),Af ?_⟩⟩
   refine⟨Nat.zero_le _,fun l hl0=>?_⟩
   have s1:=AG.new (o:=.lst []) hl0
   have ol:upd H l (.lst []) l=some (.lst []):=AB
   generalize upd H l (.lst [])=H1 at *
   refine⟨_,rfl,.ref a,f,0,m+1,rfl,hv.kp (Kp.same s1),fo,fun lp ps H2 hlp0 hlp fmp s2=>?_⟩
   have szp:=Lq f
   have fop:=fo.prt1
   have s12:=s1.trans s2
   refine⟨lp,rfl,⟨_,Aq.of hlp⟩,?_⟩
   have hpl:ps.length=(Bi f).length:=Paired.length fmp
   refine Fp (xs:=ps) (fun i σ H5=>∃(ws:List V) (x4 x5:Option V),σ=[some (.ref u),some (.ref a),some (.ref w),some (.ref l),x4,x5]∧H5 l=some (.lst ws)∧A3 H5 ws (BA sh zs ((Bi f).take i))∧(∀ b o,b≠l→H2 b=some o→H5 b=some o)) ⟨[],none,none,rfl,s2 _ _ ol,(by rw[List.take_zero,BA];exact .nil),fun b o _ e=>e⟩ ?_ ?_ ?_
   ·rintro i σ H5 _ ⟨ws,x4,x5,rfl,o5,fm5,k5⟩
    exact Aq.of (k5 _ _ (fun e=>by rw[e]at hlp0;rw[hlp0]at ol;cases ol) hlp)
   ·rintro i x σ H5 hx ⟨ws,x4,x5,rfl,o5,fm5,k5⟩
    obtain⟨g,hg,xg⟩:=B6 fmp hx
    have gm:=List.mem_of_getElem? hg
    have szg:=K5 gm
    have s5:AG H H5:=fun b o e=>k5 b o (AX e hl0) (s12 _ _ e)
    have q5:Kp H2 H5:=fun b xs e=>k5 b _ (CL e (s2 _ _ ol) (by intro z;cases z)) e
    refine⟨_,rfl,u,d,_,rfl,s5 _ _ hu0,rfl,_,rfl,_,rfl,u,d,w,x,sh,zs,g,rfl,op.same s5,xg.kp q5,fop g gm,(by omega),s5 _ _ hw,fun l2 ws2 H6 n2 ol2 fm2 s6=>?_⟩
    have lw:ws.length≤200:=by
     rw[Paired.length fm5]
     refine Nat.le_trans (Eo sh zs _) ?_
     have e:=JS ((Bi f).take i) ((Bi f).drop i)
     rw[List.take_append_drop]at e
     omega
    have lw2:ws2.length≤200:=by
     rw[Paired.length fm2]
     exact Nat.le_trans (Gu sh zs _) (by omega)
    refine⟨_,rfl,rfl,false,rfl,Af ?_⟩
    refine⟨_,rfl,.inl ⟨rfl,_,Aq.of (s6 _ _ o5)⟩,_,rfl,l,l2,ws,ws2,rfl,rfl,s6 _ _ o5,ol2,Q0 (by omega),?_⟩
    have q7:Kp H6 (upd H6 l (.lst (ws++ws2))):=Kp.lst (s6 _ _ o5) Ac.upd
    refine⟨_,_,_,rfl,AB,?_,fun b o hb e=>?_⟩
    ·have e:(Bi f).take (i+1)=(Bi f).take i++[g]:=by rw[List.take_add_one,hg];rfl
     rw[e,GU,BA,BA,List.append_nil]
     exact Lr (A3.kp (A3.kp fm5 (Kp.same s6)) q7) (A3.kp fm2 q7)
    ·rw[AT hb];exact s6 _ _ (k5 b o hb e)
   ·rintro σ H5 ⟨ws,x4,x5,rfl,o5,fm5,k5⟩
    rw[hpl,List.take_length]at fm5
    have s5:AG H H5:=fun b o e=>k5 b o (AX e hl0) (s12 _ _ e)
    have lw:ws.length+1≤DS f:=by
     rw[Paired.length fm5]
     have:=Eo sh zs (Bi f)
     omega
    refine⟨_,rfl,.inl ⟨rfl,_,Aq.of o5⟩,_,rfl,u,d,_,rfl,s5 _ _ hu0,rfl,_,rfl,u,d,.ref a,sh,zs,f,m+1,rfl,op.same s5,hv.kp (Kp.same s5),fo,(by rw[JX,hb];rfl),fun x H6 hx s6=>?_⟩
    refine⟨l,ws,x,rfl,rfl,s6 _ _ o5,Q0 (by omega),?_⟩
    have q7:Kp H6 (upd H6 l (.lst (ws++[x]))):=Kp.lst (s6 _ _ o5) Ac.upd
    refine⟨_,rfl,l,_,rfl,.inl (Aq.of AB),_,_,rfl,rfl,true,congrArg V.bl (decide_eq_true (by rw[List.length_append,List.length_singleton];omega)),Ax ⟨_,rfl,?_⟩⟩
    refine k l _ _ hl0 AB ?_ fun b o e=>?_
    ·rw[Ly hn ho]
     exact Lr (A3.kp (A3.kp fm5 (Kp.same s6)) q7) (.cons (hx.kp q7) .nil)
    ·rw[AT (AX e hl0)];exact s6 _ _ (s5 _ _ e)
theorem BE:Aa ["row","tell_one","told","formula","first","one"] ["row","tell_one"] (AL CJ):=BW
theorem FH (T:Txt w K mg t):Ap P w K mg base Bj 3 t.bu t.bv ["row","tell_one"] (PB K t):=by
 have D:=T.dj
 refine D.fn.okX BE ?_ (fun cdv A outer s H vs Q E hr h Z hZ=>?_)
 ·rintro _ _ _ _ ⟨l,f,sh,zs,ws,n,rfl,_⟩
  rfl
 ·obtain⟨l,f,sh,zs,ws,n,rfl,hl,fm,fon,h200,k⟩:=h
  refine hZ ⟨_,((AF (Ao (i:=2) BE.nd rfl (Or.inl rfl) (A5 AC))
   (AF (DV PassesOwn.never rfl (Ch (AI 0)) (BG (i:=3) BE.nd rfl (Or.inl rfl))
   (AF (Ao (i:=4) BE.nd rfl (Or.inl rfl) (Av IE (AQ An (by rfl) T.dz PySem.boot_len (AA (AI 2) AC)) (AQ An (by rfl) T.dz PySem.boot_len (BH (AW T.cs (Dv T) (Bz hr) (AA (AI 3) AC)) AC))))
   (AF (Ao (i:=5) BE.nd rfl (Or.inl rfl) (KY (AI 1) (Q3 T (Bz hr)) (AA (AI 3) (AY (Ee JE (AI 2) (Fi (AI 4)) Fh) AC))))
   (AF (Ao (i:=2) BE.nd rfl (Or.inl rfl) (Ee JE (AI 2) Fh (Fi (AI 4))))
   (AH (Fd (JF PySem.F.plainAttrs_list PySem.F.slot_list_append PySem.F.type_list_append Cv (AI 2) (AA (AI 5) AC))))))))
   (AH (AK (Ab A6 (AI 2) AE (fun _ _=>rfl))))))),?_⟩
  try dsimp only[BR,Aw]
  have hwl:ws.length=(B0 sh zs f).length:=Paired.length fm
  refine⟨Nat.zero_le _,fun d0 hd0=>?_⟩
  have s0:=AG.new (o:=.lst []) hd0
  refine⟨_,rfl,l,rfl,⟨_,Aq.of (s0 _ _ hl)⟩,?_⟩
  refine Fp (xs:=ws) (fun i σ H5=>∃(d:Addr) (vs:List V) (x3 x4 x5:Option V),σ=[some (.ref l),some (.ref t.ac),some (.ref d),x3,x4,x5]∧H d=none∧H5 d=some (.lst vs)∧A3 H5 vs (((B0 sh zs f).take i).foldl Dl [])∧AG H H5)
   ⟨d0,[],none,none,none,rfl,hd0,AB,.nil,s0⟩ ?_ ?_ ?_
  ·rintro i σ H5 _ ⟨d,vs,x3,x4,x5,rfl,_,_,_,s5⟩
   exact Aq.of (s5 _ _ hl)
  ·rintro i x σ H5 hx ⟨d,vs,x3,x4,x5,rfl,hd,hd5,sh5,s5⟩
   obtain⟨g,hg,xg⟩:=B6 fm hx
   have xg5:=Az.kp xg (Kp.same s5)
   have fog:=fon g (List.mem_of_getElem? hg)
   obtain⟨st',est⟩:=MR sh zs f [] i g hg
   have hlen:vs.length=st'.length+(Bi g).length:=by rw[Paired.length sh5,est,List.length_append,Dk]
   have hi:i<ws.length:=(List.getElem?_eq_some_iff.mp hx).1
   have hlen2:vs.length≤i:=by
    rw[Paired.length sh5]
    refine Nat.le_trans (GV _ _) ?_
    rw[List.length_take,List.length_nil];omega
   refine⟨_,rfl,d,vs,rfl,.inl (Aq.of hd5),_,rfl,x,g,0,n,rfl,xg5,fog,fun lp ps H6 hlp0 hlp fmp s6=>?_⟩
   have hpl:ps.length=(Bi g).length:=Paired.length fmp
   have ej:((vs.length:Nat):Int)-((ps.length:Nat):Int)=((st'.length:Nat):Int):=by omega
   refine⟨lp,ps,rfl,.inl (Aq.of hlp),_,_,rfl,rfl,?_⟩
   have hd6:=s6 _ _ hd5
   have sh6:=A3.kp sh5 (Kp.same s6)
   rw[est]at sh6
   have ec:EE vs (some (((vs.length:Nat):Int)-((ps.length:Nat):Int))) none=vs.drop st'.length:=by rw[ej];exact NI (by omega)
   have el:EE vs none (some (((vs.length:Nat):Int)-((ps.length:Nat):Int)))=vs.take st'.length:=by rw[ej];exact NJ (by omega)
   have shd:A3 H6 (vs.drop st'.length) (Bu sh zs (Bi g)):=by
    have:=Ky st'.length sh6
    rwa [List.drop_left]at this
   have sht:A3 H6 (vs.take st'.length) st':=by
    have:=Kz st'.length sh6
    rwa [List.take_left]at this
   rw[← ec]at shd
   rw[← el]at sht
   refine⟨_,rfl,_,_,rfl,⟨rfl,rfl⟩,_,rfl,_,rfl,_,rfl,_,rfl,d,vs,rfl,Aq.of hd6,fun dq hdq=>?_⟩
   have sq:∀ o,AG H6 (upd H6 dq o):=fun o=>AG.new hdq
   refine⟨x,g,dq,_,0,n,rfl,Az.kp (Az.kp xg5 (Kp.same s6)) (Kp.same (sq _)),fog,AB,(by rw[ec,List.length_drop];omega),fun y H8 hy s8=>?_⟩
   have s68:=(sq (.lst (EE vs (some (((vs.length:Nat):Int)-((ps.length:Nat):Int))) none))).trans s8
   have hy8:Az H8 (.ref y) (Lw sh zs g):=NK hy (Az.kp xg5 (Kp.same (s6.trans s68))) (A3.kp shd (Kp.same s68))
   refine⟨_,rfl,_,rfl,_,rfl,d,vs,rfl,Aq.of (s68 _ _ hd6),fun de hde=>?_⟩
   have se:∀ o,AG H8 (upd H8 de o):=fun o=>AG.new hde
   have hlt:(EE vs none (some (((vs.length:Nat):Int)-((ps.length:Nat):Int)))).length≤vs.length:=DZ _ _ _
   refine⟨_,rfl,.inl ⟨rfl,_,Aq.of AB⟩,_,rfl,de,_,.ref y,rfl,rfl,AB,Q0 (by omega),?_⟩
   have s05:=(s5.trans s6).trans s68
   have q9:Kp H8 (upd (upd H8 de (.lst (EE vs none (some (((vs.length:Nat):Int)-((ps.length:Nat):Int)))))) de (.lst (EE vs none (some (((vs.length:Nat):Int)-((ps.length:Nat):Int)))++[.ref y]))):=(Kp.same (se _)).trans (Kp.lst AB Ac.upd)
   refine⟨de,_,_,_,_,rfl,AG.back0 s05 hde,AB,?_,fun b o e=>?_⟩
   ·have e1:((B0 sh zs f).take (i+1)).foldl Dl []=st'++[Lw sh zs g]:=by
     rw[List.take_add_one,hg,List.foldl_append,est]
     exact En sh zs st' g
    rw[e1]
    exact Lr (A3.kp (A3.kp sht (Kp.same s68)) q9) (.cons (hy8.kp q9) .nil)
   ·rw[AT (AX (s05 _ _ e) hde)]
    exact se _ _ _ (s05 _ _ e)
  ·rintro σ H5 ⟨d,vs,x3,x4,x5,rfl,hd,hd5,sh5,s5⟩
   rw[hwl,List.take_length,Ik,List.nil_append]at sh5
   cases sh5 with
   | cons h5 t5=>
    cases t5
    exact⟨_,rfl,d,_,_,_,rfl,rfl,Aq.of hd5,rfl,k _ _ h5 s5⟩
theorem Cm:Aa ["self","formula","row"] ["self","formula"] (AL Bx):=BW
theorem EZ (T:Txt w K mg t):Ap P w K mg base Bj 13 t.bw t.bx ["self","formula"] (Op t.cp):=by
 have D:=T.dk
 refine D.fn.okX Cm ?_ (fun cdv A outer s H vs Q E hr h Z hZ=>?_)
 ·rintro _ _ _ _ ⟨u,d,v,sh,zs,f,rfl,_⟩
  rfl
 ·obtain⟨u,d,v,sh,zs,f,rfl,op,hz,hs,hv,fo,sz,k⟩:=h
  refine hZ ⟨_,((AF (Ao (i:=2) Cm.nd rfl (Or.inl rfl) (Ci (AI 0) T.e2 T.e0 (FG T 6) (Bz hr) T.di.b .nil Db (AA (AI 1) (Ay (AU AC) AC))))
   (AH (AK (Ec (AO DC (AI 2) B3 (AR _)) (AU (AD AJ (AD AJ AC))) (AW T.dj (FH T) (Bz hr) (AA (AI 2) (AA (ND T.ct.gl) AC)))))))),?_⟩
  try dsimp only[BR,Aw]
  obtain⟨t1,c,r,hu0,h1,h2⟩:=id op
  refine⟨_,rfl,u,d,_,rfl,hu0,rfl,_,rfl,Nat.zero_le _,fun w hw=>?_⟩
  have s1:=AG.new (o:=.tup []) hw
  refine⟨u,d,w,v,sh,zs,f,rfl,op.same s1,hv.kp (Kp.same s1),fo,sz,AB,fun l ws H2 n2 ol fm s2=>?_⟩
  have lw:ws.length≤200:=by
   rw[Paired.length fm]
   exact Nat.le_trans (Gu sh zs f) sz
  refine⟨_,rfl,rfl,false,rfl,Af ?_⟩
  exact⟨_,rfl,l,f,sh,zs,ws,6,rfl,ol,fm,K9 hz f 6 fo,lw,fun x H3 hx s3=>k x H3 hx ((s1.trans s2).trans s3)⟩
theorem J6:Aa ["book","sheet","formula"] ["book","sheet","formula"] (AL FD):=BW
theorem F3 (T:Txt w K mg t):Ap P w K mg base Bj 14 t.bz t.b0 ["book","sheet","formula"] Oq:=by
 have D:=T.dl
 refine D.fn.okX J6 ?_ (fun cdv A outer s H vs Q E hr h Z hZ=>?_)
 ·rintro _ _ _ _ ⟨b,v,sh,zs,f,rfl,_⟩
  rfl
 ·obtain⟨b,v,sh,zs,f,rfl,bk,hz,hs,hv,fo,sz,k⟩:=h
  refine hZ ⟨_,((AH (AK (Ci (LP T.e3 (EY T) (Bz hr) (by rfl) T.ec T.de.b .nil Db (AA (AI 0) (AA (AI 1) AC))) T.e2 T.e1 (EZ T) (Bz hr) T.dk.b .nil Db (AA (AI 2) AC))))),?_⟩
  try dsimp only[BR,Aw]
  have new:∀(x dx:Addr) (o1 o2:HO),H x=none→H dx=none→AG H (upd (upd H dx o1) x o2):=fun x dx o1 o2 hx hdx b o e=>by
   rw[AT (AX e hx),AT (AX e hdx)];exact e
  refine⟨_,rfl,_,rfl,fun x dx hx0 hdx ndx=>⟨x,dx,b,sh,zs,rfl,AB,bk.kp (Kp.same (new x dx _ _ hx0 hdx)),fun H1 op k1=>⟨rfl,?_⟩⟩⟩
  have s1:AG H H1:=fun b o e=>k1 _ _ (AX e hx0) (new x dx _ _ hx0 hdx _ _ e)
  obtain⟨t1,c,r,hu0,h1,h2⟩:=id op
  exact⟨x,dx,_,rfl,hu0,rfl,_,rfl,x,dx,v,sh,zs,f,rfl,op,hz,hs,hv.kp (Kp.same s1),fo,sz,fun y H2 hy s2=>k y H2 hy (s1.trans s2)⟩
theorem Es:Aa ["_law_pen_here","_law_way"] ["_law_pen_here"] (AL DI):=BW
theorem GF (T:Txt w K mg t):Ap P w K mg base Bj 2 t.b1 t.b2 ["_law_pen_here"] (Ot K):=by
 have D:=T.dm
 refine D.fn.okX Es ?_ (fun cdv A outer s H vs Q E hr h Z hZ=>?_)
 ·rintro _ _ _ _ ⟨p,n,S,rfl,_⟩
  rfl
 ·obtain⟨p,n,S,rfl,hpen,hn,k⟩:=h
  refine hZ ⟨_,((AF (Ao (i:=1) Es.nd rfl (Or.inl rfl) (AW T.cv (AN T) (Bz hr) (AA (AI 0) (AD AE AC))))
   (AF (Ah (AO At (AI 1) AE (AR _)) (AH (AK (AU (AD AJ (AY (Ab A6 (A5 (AD AJ (AD AJ (AD AJ (AD AJ AC))))) (AW T.cv (AN T) (Bz hr) (AA (AI 0) (AD AE AC))) (fun _ _=>rfl)) AC))))) AM)
   (AF (Ah (AO At (AI 1) AE (AR _)) (AH (AK (AU (AD AJ (Dd (A4 At (AW T.cv (AN T) (Bz hr) (AA (AI 0) (AD AE AC))) AE (AR _)) AC))))) AM)
   (AH (AK (AU (AD AJ (AY (Ab A6 (A5 (AD AE (AD AE (AD AE (AD AE (AD AE AC)))))) (AW T.cv (AN T) (Bz hr) (AA (AI 0) (AD AE AC))) (fun _ _=>rfl)) (AD AE AC)))))))))),?_⟩
  try dsimp only[BR,Aw]
  refine⟨_,rfl,p,_,_,_,rfl,(by show(0:Int)<_;decide),Al (by decide) (by decide),hpen,(by omega),fun r1 H1 a1 b1 pen1 kp1=>?_⟩
  refine⟨_,rfl,rfl,_,rfl,CP (fun _=>?_) (fun _=>?_)⟩
  ·refine⟨(by show 4≤sizeLine;decide),fun q2 h2=>⟨_,rfl,p,_,_,_,rfl,(by show(0:Int)<_;decide),Al (by decide) (by decide),(pen1.same (AG.new h2)),(by omega),fun r2 H2 a2 b2 pen2 kp2=>?_⟩⟩
   obtain⟨z,ez,pz⟩:=EC (L:=[vS "",vS "ab",vS "a b",vS "b7"]) (P:=Q2) (by nofun) a2 b2
   refine⟨q2,_,_,_,rfl,rfl,Aq.of (kp2 _ _ (pen1.ne h2) AB),ez,Ar,fun q hq=>?_⟩
   exact k q (.txt z) _ AB (NM pz) trivial (pen2.same (AG.new hq)) (kp1.trans ((AG.keep (AG.new h2)).trans (kp2.trans (AG.keep (AG.new hq)))))
  refine⟨_,rfl,rfl,_,rfl,CP (fun _=>?_) (fun _=>?_)⟩
  ·refine⟨_,rfl,p,_,_,_,rfl,(by show(0:Int)<_;decide),Al (by decide) (by decide),pen1,(by omega),fun r2 H2 a2 b2 pen2 kp2=>⟨rfl,Ar,fun q hq=>?_⟩⟩
   exact k q (.tru _) _ AB trivial trivial (pen2.same (AG.new hq)) (kp1.trans (kp2.trans (AG.keep (AG.new hq))))
  ·refine⟨(by show 5≤sizeLine;decide),fun q2 h2=>⟨_,rfl,p,_,_,_,rfl,(by show(0:Int)<_;decide),Al (by decide) (by decide),(pen1.same (AG.new h2)),(by omega),fun r2 H2 a2 b2 pen2 kp2=>?_⟩⟩
   obtain⟨i,ei,i0,i9⟩:=Gv (L:=[.int 0,.int 1,.int 2,.int 7,.int 999999999]) (lo:=0) (hi:=999999999) (by nofun) a2 b2
   refine⟨q2,_,_,_,rfl,rfl,Aq.of (kp2 _ _ (pen1.ne h2) AB),ei,A2,fun q hq=>?_⟩
   exact k q (.num i 1) _ AB ⟨Lp,by omega,by decide⟩ ⟨rfl,i0,i9⟩ (pen2.same (AG.new hq)) (kp1.trans ((AG.keep (AG.new h2)).trans (kp2.trans (AG.keep (AG.new hq)))))
theorem Cq:Aa ["_law_pen_here","_law_row","_law_column"] ["_law_pen_here"] (AL Co):=BW
theorem F4 (T:Txt w K mg t):Ap P w K mg base Bj 2 t.b3 t.b4 ["_law_pen_here"] (Ou K):=by
 have D:=T.dn
 refine D.fn.okX Cq ?_ (fun cdv A outer s H vs Q E hr h Z hZ=>?_)
 ·rintro _ _ _ _ ⟨p,n,S,rfl,_⟩
  rfl
 ·obtain⟨p,n,S,rfl,hpen,hn,k⟩:=h
  refine hZ ⟨_,((AF (Ao (i:=1) Cq.nd rfl (Or.inl rfl) (Ab A6 (A5 (AD AE (AD AE (AD AE (AD AE (AD AE (AD AE (AD AE (AD AE AC))))))))) (AW T.cv (AN T) (Bz hr) (AA (AI 0) (AD AE AC))) (fun _ _=>rfl)))
   (AF (Ao (i:=2) Cq.nd rfl (Or.inl rfl) (Ab A6 (A5 (AD AE (AD AE (AD AE (AD AE (AD AE (AD AE (AD AE (AD AE AC))))))))) (AW T.cv (AN T) (Bz hr) (AA (AI 0) (AD AE AC))) (fun _ _=>rfl)))
   (AH (AK (AU (AA (AI 1) (AA (AI 2) (Dd (A4 At (AW T.cv (AN T) (Bz hr) (AA (AI 0) (AD AE AC))) AE (AR _)) (Dd (A4 At (AW T.cv (AN T) (Bz hr) (AA (AI 0) (AD AE AC))) AE (AR _)) AC)))))))))),?_⟩
  try dsimp only[BR,Aw]
  refine⟨(by show 8≤sizeLine;decide),fun q1 h1=>⟨_,rfl,p,_,_,_,rfl,(by show(0:Int)<_;decide),Al (by decide) (by decide),(hpen.same (AG.new h1)),(by omega),fun r1 H1 a1 b1 pen1 kp1=>?_⟩⟩
  obtain⟨i,ei,i0,i9⟩:=Gv (L:=[.int 1,.int 2,.int 3,.int 4,.int 16,.int 15,.int 2,.int 1]) (lo:=1) (hi:=16) (by nofun) a1 b1
  refine⟨q1,_,_,_,rfl,rfl,Aq.of (kp1 _ _ (hpen.ne h1) AB),ei,?_⟩
  refine⟨(by show 8≤sizeLine;decide),fun q2 h2=>⟨_,rfl,p,_,_,_,rfl,(by show(0:Int)<_;decide),Al (by decide) (by decide),(pen1.same (AG.new h2)),(by omega),fun r2 H2 a2 b2 pen2 kp2=>?_⟩⟩
  obtain⟨j,ej,j0,j9⟩:=Gv (L:=[.int 1,.int 2,.int 3,.int 4,.int 8,.int 7,.int 2,.int 1]) (lo:=1) (hi:=8) (by nofun) a2 b2
  refine⟨q2,_,_,_,rfl,rfl,Aq.of (kp2 _ _ (pen1.ne h2) AB),ej,?_⟩
  refine⟨_,rfl,_,rfl,_,rfl,p,_,_,_,rfl,(by show(0:Int)<_;decide),Al (by decide) (by decide),pen2,(by omega),fun r3 H3 a3 b3 pen3 kp3=>⟨rfl,_,rfl,p,_,_,_,rfl,(by show(0:Int)<_;decide),Al (by decide) (by decide),pen3,(by omega),fun r4 H4 a4 b4 pen4 kp4=>⟨rfl,(by show 4≤sizeLine;decide),fun q hq=>?_⟩⟩⟩
  exact k q ⟨i,j,decide (V.int r3=V.int 1),decide (V.int r4=V.int 1)⟩ _ AB ⟨i0,i9,j0,j9⟩ (pen4.same (AG.new hq)) ((AG.keep (AG.new h1)).trans (kp1.trans ((AG.keep (AG.new h2)).trans (kp2.trans (kp3.trans (kp4.trans (AG.keep (AG.new hq))))))))
theorem Et:Aa ["_law_pen_here","_law_sheets_here","_law_told_on"] ["_law_pen_here","_law_sheets_here","_law_told_on"] (AL By):=BW
theorem Ea (T:Txt w K mg t):Ap P w K mg base Bj 2 t.b5 t.b6 ["_law_pen_here","_law_sheets_here","_law_told_on"] (Ov K):=by
 have D:=T.dp
 refine D.fn.okX Et ?_ (fun cdv A outer s H vs Q E hr h Z hZ=>?_)
 ·rintro _ _ _ _ ⟨p,sl,zs,n,S,rfl,_⟩
  rfl
 ·obtain⟨p,sl,zs,n,S,rfl,hpen,hn,hsl,ok,k⟩:=h
  refine hZ ⟨_,((AF (Ah (J9 (Bl (BB (AI 2))) (Ix (AO At (AW T.cv (AN T) (Bz hr) (AA (AI 0) (AD AE AC))) AE (AR _)))).pt (AH (AK B3)) AM)
   (AH (AK (Ab A6 (Av Mn (Bp DD (by rfl) T.d6 EA (AA (AI 1) AC)) (A5 (AD AJ AC))) (Av Ff (AW T.cv (AN T) (Bz hr) (AA (AI 0) (CC (Av Bt (Av Ei AE (AQ An (by rfl) T.dz PySem.boot_len (AA (AI 1) AC))) AE) AC))) AE) (fun _ _=>rfl)))))),?_⟩
  try dsimp only[BR,Aw]
  have nsl:=Hi hpen hsl ok
  obtain⟨l1,l4,_,nm⟩:=ok
  have hl:(zs.map V.str).length=zs.length:=List.length_map ..
  refine⟨_,rfl,false,rfl,Ax ⟨_,rfl,p,_,_,_,rfl,(by show(0:Int)<_;decide),Al (by decide) (by decide),hpen,(by omega),fun r1 H1 a1 b1 pen1 kp1=>⟨rfl,_,rfl,CP (fun _=>?_) (fun _=>?_)⟩⟩⟩
  ·exact k none H1 trivial (pen1.mono (by omega)) kp1
  have hs1:=kp1 _ _ nsl hsl
  refine⟨_,rfl,sl,_,rfl,.inl (Aq.of hs1),fun d hd=>?_⟩
  have s2:=AG.new (o:=.lst (zs.map V.str)) hd
  refine⟨Fz,fun e he=>⟨d,e,_,_,rfl,rfl,AG.new he _ _ AB,AB,(by rw[hl];show _+1≤_;exact MN (by omega)),fun q hq=>?_⟩⟩
  have s3:=(s2.trans (AG.new (o:=.lst [vS "lost"]) he)).trans (AG.new (o:=.lst (zs.map V.str++[vS "lost"])) hq)
  have pen2:=pen1.same s3
  have o2:upd (upd (upd H1 d (.lst (zs.map V.str))) e (.lst [vS "lost"])) q (.lst (zs.map V.str++[vS "lost"])) q=some (.lst (zs.map V.str++[vS "lost"])):=AB
  have nq:q≠p:=fun z=>by
   obtain⟨vs,ez⟩:=pen1.ob
   have:=AG.back0 (s2.trans (AG.new (o:=.lst [vS "lost"]) he)) hq
   rw[z,ez]at this;cases this
  generalize upd (upd (upd H1 d (.lst (zs.map V.str))) e (.lst [vS "lost"])) q (.lst (zs.map V.str++[vS "lost"]))=H2 at *
  have hs2:=s3 _ _ hs1
  refine⟨_,rfl,_,rfl,sl,_,rfl,.inl (Aq.of hs2),_,_,rfl,rfl,⟨Al (by decide) (by decide),Al (by omega) (by omega)⟩,_,_,rfl,rfl,?_⟩
  rw[hl]
  refine⟨p,_,_,_,rfl,(by omega),Al (by omega) (by omega),pen2,(by omega),fun r3 H3 a3 b3 pen3 kp3=>⟨_,_,rfl,rfl,⟨by decide,by decide⟩,?_⟩⟩
  obtain⟨z,ez,nz⟩:=NN (r:=r3 / 3) nm (by omega) (by omega)
  exact⟨q,_,_,_,rfl,rfl,Aq.of (kp3 _ _ nq o2),ez,k (some z) H3 nz (pen3.mono (by omega)) (kp1.trans ((AG.keep s3).trans kp3))⟩
theorem Bb:Aa ["_law_pen_here","_law_sheets_here","_law_told_on","_law_way","_law_sheet","_law_one","_law_high","_law_wide"] ["_law_pen_here","_law_sheets_here","_law_told_on"] (AL DJ):=BW
theorem GG (T:Txt w K mg t):Ap P w K mg base Bj 3 t.b7 t.b8 ["_law_pen_here","_law_sheets_here","_law_told_on"] (Ow K):=by
 have D:=T.dq
 refine D.fn.okX Bb ?_ (fun cdv A outer s H vs Q E hr h Z hZ=>?_)
 ·rintro _ _ _ _ ⟨p,sl,zs,n,S,rfl,_⟩
  rfl
 ·obtain⟨p,sl,zs,n,S,rfl,hpen,hn,hsl,ok,k⟩:=h
  refine hZ ⟨_,((AF (Ao (i:=3) Bb.nd rfl (Or.inl rfl) (AW T.cv (AN T) (Bz hr) (AA (AI 0) (AD AE AC))))
   (AF (Ao (i:=4) Bb.nd rfl (Or.inl rfl) (AW T.dp (Ea T) (Bz hr) (AA (AI 0) (AA (AI 1) (AA (AI 2) AC)))))
   (AF (Ao (i:=5) Bb.nd rfl (Or.inl rfl) (AW T.dn (F4 T) (Bz hr) (AA (AI 0) AC)))
   (AF (Ah (AO DW (AI 3) AE (AR _)) (AH (AK (AU (AD AJ (AA (AI 4) (AA (AI 5) AC)))))) AM)
   (AF (Ao (i:=6) Bb.nd rfl (Or.inl rfl) (AQ (GI rfl) (by rfl) T.d9 He (AD AE (CC (Av Bt (Ab Ae (AI 5) AE (fun _ _=>rfl)) (AW T.cv (AN T) (Bz hr) (AA (AI 0) (AD AE AC)))) AC))))
   (AF (Ao (i:=7) Bb.nd rfl (Or.inl rfl) (AQ (GI rfl) (by rfl) T.d9 He (AD AE (CC (Av Bt (Ab Ae (AI 5) AE (fun _ _=>rfl)) (AW T.cv (AN T) (Bz hr) (AA (AI 0) (AD AE AC)))) AC))))
   (AF (Ah (AO DW (AI 3) AE (AR _)) (AH (AK (AU (AD AJ (AA (AI 4) (AA (AI 5) (Ay (AU (AA (AI 6) (AA (AI 7) (Dd (A4 At (AW T.cv (AN T) (Bz hr) (AA (AI 0) (AD AE AC))) AE (AR _)) (Dd (A4 At (AW T.cv (AN T) (Bz hr) (AA (AI 0) (AD AE AC))) AE (AR _)) AC))))) AC))))))) AM)
   (AH (AK (AU (AD AJ (AA (AI 4) (Ay (AU (AY (Ab Ae (AI 5) AE (fun _ _=>rfl)) (AY (Ab Ae (AI 5) AE (fun _ _=>rfl)) AC))) (Ay (AU (AA (AI 7) (AY (Ab Ae (AI 5) AE (fun _ _=>rfl)) AC))) AC))))))))))))))),?_⟩
  try dsimp only[BR,Aw]
  have nsl:=Hi hpen hsl ok
  refine⟨_,rfl,p,_,_,_,rfl,(by show(0:Int)<_;decide),Al (by decide) (by decide),hpen,(by omega),fun r1 H1 a1 b1 pen1 kp1=>?_⟩
  refine⟨_,rfl,_,rfl,_,rfl,p,sl,zs,_,S,rfl,pen1,(by omega),kp1 _ _ nsl hsl,ok,fun s H2 sok pen2 kp2=>?_⟩
  refine⟨_,rfl,p,_,S,rfl,pen2,(by omega),fun q c H3 hq cok pen3 kp3=>?_⟩
  obtain⟨c1,c2,c3,c4⟩:=cok
  have kp03:=kp1.trans (kp2.trans kp3)
  refine⟨_,rfl,_,_,rfl,rfl,_,rfl,CP (fun _=>?_) (fun _=>?_)⟩
  ·refine⟨_,rfl,_,rfl,A2,fun a ha=>?_⟩
   exact k a (.cell s c) _ ⟨q,AB,AG.new ha _ _ hq⟩ ⟨sok,c1,c2,c3,c4⟩ ((pen3.same (AG.new ha)).mono (by omega)) (kp03.trans (AG.keep (AG.new ha)))
  obtain⟨vs3,ob3⟩:=pen3.ob
  have nq:q≠p:=CL hq ob3 (by intro z;cases z)
  refine⟨_,rfl,q,_,_,_,rfl,rfl,Am.of hq,AV,_,rfl,p,_,_,_,rfl,(by show(0:Int)<_;decide),Al (by decide) (by decide),pen3,(by omega),fun r4 H4 a4 b4 pen4 kp4=>⟨_,_,rfl,rfl,_,_,rfl,?_⟩⟩
  have hq4:=kp4 _ _ nq hq
  have hh:c.r≤(if c.r+r4<16 then c.r+r4 else(16:Int))∧(if c.r+r4<16 then c.r+r4 else(16:Int))≤16:=by split <;> omega
  generalize (if c.r+r4<16 then c.r+r4 else(16:Int))=hi at hh
  refine⟨_,rfl,q,_,_,_,rfl,rfl,Am.of hq4,El,_,rfl,p,_,_,_,rfl,(by show(0:Int)<_;decide),Al (by decide) (by decide),pen4,(by omega),fun r5 H5 a5 b5 pen5 kp5=>⟨_,_,rfl,rfl,_,_,rfl,?_⟩⟩
  have hq5:=kp5 _ _ nq hq4
  have hw:c.c≤(if c.c+r5<8 then c.c+r5 else(8:Int))∧(if c.c+r5<8 then c.c+r5 else(8:Int))≤8:=by split <;> omega
  generalize (if c.c+r5<8 then c.c+r5 else(8:Int))=wi at hw
  have kp05:=kp03.trans (kp4.trans kp5)
  refine⟨_,rfl,_,_,rfl,rfl,_,rfl,CP (fun _=>?_) (fun _=>?_)⟩
  ·refine⟨_,rfl,_,rfl,_,rfl,_,rfl,_,rfl,p,_,_,_,rfl,(by show(0:Int)<_;decide),Al (by decide) (by decide),pen5,(by omega),fun r6 H6 a6 b6 pen6 kp6=>⟨rfl,_,rfl,p,_,_,_,rfl,(by show(0:Int)<_;decide),Al (by decide) (by decide),pen6,(by omega),fun r7 H7 a7 b7 pen7 kp7=>⟨rfl,(by show 4≤sizeLine;decide),fun q2 h2=>⟨(by show 4≤sizeLine;decide),fun a ha=>?_⟩⟩⟩⟩
   have hq7:=kp7 _ _ nq (kp6 _ _ nq hq5)
   have s8:=AG.new (o:=.tup [.int hi,.int wi,.bl (decide (V.int r6=V.int 1)),.bl (decide (V.int r7=V.int 1))]) h2
   have s9:=AG.new (o:=.tup [vS "range",JQ s,.ref q,.ref q2]) ha
   exact k a (.rng s c ⟨hi,wi,decide (V.int r6=V.int 1),decide (V.int r7=V.int 1)⟩) _ ⟨q,q2,AB,s9 _ _ (s8 _ _ hq7),s9 _ _ AB⟩ ⟨sok,⟨c1,c2,c3,c4⟩,⟨by show 1≤hi;omega,hh.2,by show 1≤wi;omega,hw.2⟩,hh.1,hw.1⟩ (((pen7.same s8).same s9).mono (by omega)) (kp05.trans (kp6.trans (kp7.trans ((AG.keep s8).trans (AG.keep s9)))))
  ·refine⟨_,rfl,_,rfl,q,_,_,_,rfl,rfl,Am.of hq5,El,_,rfl,q,_,_,_,rfl,rfl,Am.of hq5,Hf,Ar,fun q2 h2=>?_⟩
   have s8:=AG.new (o:=.tup [.int c.c,.bl c.x]) h2
   refine⟨_,rfl,_,rfl,q,_,_,_,rfl,rfl,Am.of (s8 _ _ hq5),Kw,Ar,fun q3 h3=>⟨(by show 4≤sizeLine;decide),fun a ha=>?_⟩⟩
   have s9:=AG.new (o:=.tup [.int wi,.bl c.y]) h3
   have s10:=AG.new (o:=.tup [vS "columns",JQ s,.ref q2,.ref q3]) ha
   exact k a (.cols s c.c c.x wi c.y) _ ⟨q2,q3,AB,s10 _ _ (s9 _ _ AB),s10 _ _ AB⟩ ⟨sok,c3,hw.1,hw.2⟩ ((((pen5.same s8).same s9).same s10).mono (by omega)) (kp05.trans ((AG.keep s8).trans ((AG.keep s9).trans (AG.keep s10))))
theorem FS:Aa ["_law_pen_here","_law_sheets_here","_law_told_on","_law_params","_law_way"] ["_law_pen_here","_law_sheets_here","_law_told_on","_law_params"] (AL Dt):=BW
theorem DM (T:Txt w K mg t):Ap P w K mg base Bj 4 t.b9 t.ca ["_law_pen_here","_law_sheets_here","_law_told_on","_law_params"] (Ox K):=by
 have D:=T.dr
 refine D.fn.okX FS ?_ (fun cdv A outer s H vs Q E hr h Z hZ=>?_)
 ·rintro _ _ _ _ ⟨p,sl,zs,n,S,rfl,_⟩
  rfl
 ·obtain⟨p,sl,zs,n,S,rfl,hpen,hn,hsl,ok,k⟩:=h
  refine hZ ⟨_,((AF (Ao (i:=4) FS.nd rfl (Or.inl rfl) (AW T.cv (AN T) (Bz hr) (AA (AI 0) (AD AE AC))))
   (AF (Ah (AO DW (AI 4) AE (AR _)) (AH (AK (AU (AD AJ (BH (AW T.dm (GF T) (Bz hr) (AA (AI 0) AC)) AC))))) AM)
   (AF (Ah (J9 (AO At (AI 4) AE (AR _)) (Ix (AO KD (AI 3) AE (AR _)))).pt (AH (AK (AU (AD AJ (BH (AW T.cv (AN T) (Bz hr) (AA (AI 0) (AA (AI 3) AC))) AC))))) AM)
   (AF (Ah (AO At (AI 4) AE (AR _)) (AH (AK (Ab A6 (A5 (Ay (AU (AD AJ AC)) (Ay (AU (AD AJ (AD AJ AC))) (Ay (AU (AD AJ (AD AJ AC))) (Ay (AU (AD AJ (AD AJ AC))) AC))))) (AW T.cv (AN T) (Bz hr) (AA (AI 0) (AD AE AC))) (fun _ _=>rfl)))) AM)
   (AH (AK (AW T.dq (GG T) (Bz hr) (AA (AI 0) (AA (AI 1) (AA (AI 2) AC))))))))))),?_⟩
  try dsimp only[BR,Aw]
  have nsl:=Hi hpen hsl ok
  refine⟨_,rfl,p,_,_,_,rfl,(by show(0:Int)<_;decide),Al (by decide) (by decide),hpen,(by omega),fun r1 H1 a1 b1 pen1 kp1=>?_⟩
  refine⟨_,rfl,_,_,rfl,rfl,_,rfl,CP (fun _=>?_) (fun _=>?_)⟩
  ·refine⟨_,rfl,p,_,S,rfl,pen1,(by omega),fun q v H2 hq vok vw pen2 kp2=>⟨Ar,fun a ha=>?_⟩⟩
   exact k a (.val v) _ ⟨q,AB,CQ.same hq (AG.new ha)⟩ ⟨vok,vw⟩ ((pen2.same (AG.new ha)).mono (by omega)) (kp1.trans (kp2.trans (AG.keep (AG.new ha))))
  refine Em (fun σ' H'=>σ'=[some (.ref p),some (.ref sl),some (.bl false),some (.int 0),some (.int r1)]∧H'=H1) (fun N hN=>hN [some (.ref p),some (.ref sl),some (.bl false),some (.int 0),some (.int r1)] H1 ⟨rfl,rfl⟩) (fun σ' H'0 hJ=>?_)
  obtain⟨rfl,rfl⟩:=hJ
  refine Em (fun σ' H'=>σ'=[some (.ref p),some (.ref sl),some (.bl false),some (.int 0),some (.int r1)]∧H'=H'0) (fun N hN=>?_) (fun σ' H' hJ=>?_)
  ·refine⟨_,rfl,rfl,_,rfl,CP (fun _=>?_) (fun _=>Af (hN _ _ ⟨rfl,rfl⟩))⟩
   exact⟨_,rfl,_,_,rfl,rfl,false,rfl,Af (hN _ _ ⟨rfl,rfl⟩)⟩
  obtain⟨rfl,rfl⟩:=hJ
  refine⟨_,rfl,rfl,_,rfl,CP (fun _=>?_) (fun _=>?_)⟩
  ·refine⟨Fz,fun q1 h1=>⟨Ar,fun q2 h2=>⟨Ar,fun q3 h3=>⟨Ar,fun q4 h4=>⟨(by show 4≤sizeLine;decide),fun q5 h5=>?_⟩⟩⟩⟩⟩
   have s1:=AG.new (o:=.tup [vS "gone"]) h1
   have o1:upd H' q1 (.tup [vS "gone"]) q1=some (.tup [vS "gone"]):=AB
   generalize upd H' q1 (.tup [vS "gone"])=G1 at *
   have s2:=AG.new (o:=.tup [vS "name",vS "n"]) h2
   have o2:upd G1 q2 (.tup [vS "name",vS "n"]) q2=some (.tup [vS "name",vS "n"]):=AB
   generalize upd G1 q2 (.tup [vS "name",vS "n"])=G2 at *
   have s3:=AG.new (o:=.tup [vS "name",vS "m"]) h3
   have o3:upd G2 q3 (.tup [vS "name",vS "m"]) q3=some (.tup [vS "name",vS "m"]):=AB
   generalize upd G2 q3 (.tup [vS "name",vS "m"])=G3 at *
   have s4:=AG.new (o:=.tup [vS "name",vS "k"]) h4
   have o4:upd G3 q4 (.tup [vS "name",vS "k"]) q4=some (.tup [vS "name",vS "k"]):=AB
   generalize upd G3 q4 (.tup [vS "name",vS "k"])=G4 at *
   have s5:=AG.new (o:=.lst [.ref q1,.ref q2,.ref q3,.ref q4]) h5
   have o5:upd G4 q5 (.lst [.ref q1,.ref q2,.ref q3,.ref q4]) q5=some (.lst [.ref q1,.ref q2,.ref q3,.ref q4]):=AB
   generalize upd G4 q5 (.lst [.ref q1,.ref q2,.ref q3,.ref q4])=G5 at *
   have s15:=((((s1.trans s2).trans s3).trans s4).trans s5)
   have pen5:=pen1.same s15
   have n5:q5≠p:=fun z=>by
    obtain⟨vs,ez⟩:=pen1.ob
    have:=AG.back0 (((s1.trans s2).trans s3).trans s4) h5
    rw[z,ez]at this;cases this
   refine⟨_,rfl,p,_,_,_,rfl,(by show(0:Int)<_;decide),Al (by decide) (by decide),pen5,(by omega),fun r6 H6 a6 b6 pen6 kp6=>?_⟩
   have q6:Kp G5 H6:=pen5.kp kp6
   obtain⟨a,l,ea,hl,lok⟩:∃ a l,Gc [V.ref q1,.ref q2,.ref q3,.ref q4] r6=some (.ref a)∧CD H6 a l∧E8 0 l:=by
    have:r6=0∨r6=1∨r6=2∨r6=3:=by omega
    rcases this with rfl | rfl | rfl | rfl
    ·exact⟨q1,.gone,rfl,q6 _ _ (s5 _ _ (s4 _ _ (s3 _ _ (s2 _ _ o1)))),trivial⟩
    ·exact⟨q2,.nam (zS "n"),rfl,q6 _ _ (s5 _ _ (s4 _ _ (s3 _ _ o2))),Cd (by nofun),by nofun⟩
    ·exact⟨q3,.nam (zS "m"),rfl,q6 _ _ (s5 _ _ (s4 _ _ o3)),Cd (by nofun),by nofun⟩
    ·exact⟨q4,.nam (zS "k"),rfl,q6 _ _ (s5 _ _ o4),Cd (by nofun),by nofun⟩
   exact⟨q5,_,_,_,rfl,rfl,Aq.of (kp6 _ _ n5 o5),ea,k a l H6 hl lok (pen6.mono (by omega)) (kp1.trans ((AG.keep s15).trans kp6))⟩
  refine⟨_,rfl,_,rfl,_,rfl,p,sl,zs,_,S,rfl,pen1,(by omega),kp1 _ _ nsl hsl,ok,fun a l H2 hl lok pen2 kp2=>k a l H2 hl lok (pen2.mono (by omega)) (kp1.trans kp2)⟩
theorem Ht:Aa ["_law_pen_here","_law_sheets_here","_law_told_on","_law_params","_law_deep"] ["_law_pen_here","_law_sheets_here","_law_told_on","_law_params","_law_deep"] (AL Du):=BW
theorem G0 (T:Txt w K mg t){n k:Nat}(F:Ap P w K mg base Bj k t.cd t.ce ["_law_pen_here","_law_sheets_here","_law_told_on","_law_params","_law_deep"] (MV K n))(hk:4≤k):Ap P w K mg base Bj (k+1) t.cb t.cc ["_law_pen_here","_law_sheets_here","_law_told_on","_law_params","_law_deep"] (Oy K n):=by
 have D:=T.ds
 refine D.fn.okX Ht ?_ (fun cdv A outer s H vs Q E hr h Z hZ=>?_)
 ·rintro _ _ _ _ ⟨p,sl,zs,c,S,rfl,_⟩
  rfl
 ·obtain⟨p,sl,zs,c,S,rfl,hpen,hn,hsl,ok,kk⟩:=h
  refine hZ ⟨_,((AF (Ah (AO At (AI 4) AE (AR _)) (AH (AK (AW T.dr (DM T) (hr.mono (by omega)) (AA (AI 0) (AA (AI 1) (AA (AI 2) (AA (AI 3) AC))))))) AM)
   (AH (AK (AW T.dt F (hr.mono (by omega)) (AA (AI 0) (AA (AI 1) (AA (AI 2) (AA (AI 3) (AA (AI 4) AC)))))))))),?_⟩
  try dsimp only[BR,Aw]
  cases n with
  | zero=>
   refine⟨_,rfl,rfl,true,rfl,Ax ?_⟩
   have:uB 0=14:=rfl
   exact⟨_,rfl,_,rfl,_,rfl,_,rfl,p,sl,zs,c,S,rfl,hpen,(by omega),hsl,ok,fun a l H' hl lok pen' kp'=>kk (.ref a) (.lf l) H' (.lf hl) (.lf lok) (by rw[NW];exact Nat.le_refl _) pen' kp'⟩
  | succ n=>
   refine⟨_,rfl,rfl,false,congrArg V.bl (decide_eq_false fun e=>by injection e with e;omega),Af ?_⟩
   exact⟨_,rfl,_,rfl,_,rfl,_,rfl,_,rfl,p,sl,zs,c,S,rfl,Nat.succ_le_succ (Nat.zero_le _),hpen,hn,hsl,ok,kk⟩
theorem BO:Aa ["_law_pen_here","_law_sheets_here","_law_told_on","_law_params","_law_deep","_law_way","_law_a","_law_b","_law_c"] ["_law_pen_here","_law_sheets_here","_law_told_on","_law_params","_law_deep"] (AL Cf):=BW
theorem Fb (T:Txt w K mg t):∀ n:Nat,Ap P w K mg base Bj (2*n+5) t.cd t.ce ["_law_pen_here","_law_sheets_here","_law_told_on","_law_params","_law_deep"] (MV K n):=by
 have D:=T.dt
 intro m
 induction m with
 | zero=>
  refine D.fn.okX BO ?_ (fun cdv A outer s H vs Q E hr h Z hZ=>?_)
  ·rintro _ _ _ _ ⟨p,sl,zs,c,S,rfl,_⟩
   rfl
  ·obtain⟨p,sl,zs,c,S,rfl,h1,_⟩:=h
   exact absurd h1 (by decide)
 | succ m ih=>
  have M:=G0 T ih (by omega)
  refine D.fn.okX BO ?_ (fun cdv A outer s H vs Q E hr h Z hZ=>?_)
  ·rintro _ _ _ _ ⟨p,sl,zs,c,S,rfl,_⟩
   rfl
  ·obtain⟨p,sl,zs,c,S,rfl,h1,hpen,hn,hsl,ok,k⟩:=h
   refine hZ ⟨_,((AF (Ao (i:=5) BO.nd rfl (Or.inl rfl) (AW T.cv (AN T) (hr.mono (by omega)) (AA (AI 0) (AD AE AC))))
   (AF (Ah (AO DW (AI 5) AE (AR _)) (AH (AK (AW T.dr (DM T) (hr.mono (by omega)) (AA (AI 0) (AA (AI 1) (AA (AI 2) (AA (AI 3) AC))))))) AM)
   (AF (Ao (i:=6) BO.nd rfl (Or.inl rfl) (AW T.ds M (hr.mono (by omega)) (AA (AI 0) (AA (AI 1) (AA (AI 2) (AA (AI 3) (CC (Av IE (AI 4) AE) AC)))))))
   (AF (Ah (AO At (AI 5) AE (AR _)) (AH (AK (AU (AD AJ (AA (AI 6) AC))))) AM)
   (AF (Ah (AO DW (AI 5) AE (AR _)) (AH (AK (AU (AY (Ab A6 (A5 (AD AJ (AD AJ (AD AJ (AD AJ AC))))) (AW T.cv (AN T) (hr.mono (by omega)) (AA (AI 0) (AD AE AC))) (fun _ _=>rfl)) (AA (AI 6) AC))))) AM)
   (AF (Ah (AO DW (AI 5) AE (AR _)) (AH (AK (AU (AY (Ab A6 (A5 (AD AJ (AD AJ AC))) (Av Cn (AI 5) AE) (fun _ _=>rfl)) (AA (AI 6) AC))))) AM)
   (AF (Ah (AO At (AI 5) AE (AR _)) (AH (AK (AU (AD AJ (AY (Ab A6 (A5 (AD AJ (AD AJ (AD AJ AC)))) (AW T.cv (AN T) (hr.mono (by omega)) (AA (AI 0) (AD AE AC))) (fun _ _=>rfl)) (AY (Ab A6 (A5 (Ay (AU AC) (Ay (AU (AA (AI 6) AC)) AC))) (AW T.cv (AN T) (hr.mono (by omega)) (AA (AI 0) (AD AE AC))) (fun _ _=>rfl)) AC)))))) AM)
   (AF (Ao (i:=7) BO.nd rfl (Or.inl rfl) (AW T.ds M (hr.mono (by omega)) (AA (AI 0) (AA (AI 1) (AA (AI 2) (AA (AI 3) (CC (Av IE (AI 4) AE) AC)))))))
   (AF (Ah (AO DW (AI 5) AE (AR _)) (AH (AK (AU (AD AJ (AY (Ab KK AJ (AW T.cv (AN T) (hr.mono (by omega)) (AA (AI 0) (AD AE AC))) (fun _ _=>rfl)) (AA (AI 6) (AA (AI 7) AC))))))) AM)
   (AF (Ah (AO DW (AI 5) AE (AR _)) (AH (AK (AU (AD AJ (AA (AI 6) (AA (AI 7) AC)))))) AM)
   (AF (Ah (AO DW (AI 5) AE (AR _)) (AH (AK (AU (AD AJ (CC (Av Bt AE (AW T.cv (AN T) (hr.mono (by omega)) (AA (AI 0) (AD AE AC)))) (CC (Av Bt AE (AW T.cv (AN T) (hr.mono (by omega)) (AA (AI 0) (AD AE AC)))) (AA (AI 6) (AA (AI 7) AC)))))))) AM)
   (AF (Ah (AO At (AI 5) AE (AR _)) (AH (AK (AU (AD AJ (AY (Ab A6 (A5 (AD AJ (AD AJ (AD AJ AC)))) (AW T.cv (AN T) (hr.mono (by omega)) (AA (AI 0) (AD AE AC))) (fun _ _=>rfl)) (Ay (AU (AA (AI 6) (AA (AI 7) AC))) AC)))))) AM)
   (AF (Ao (i:=8) BO.nd rfl (Or.inl rfl) (AW T.dr (DM T) (hr.mono (by omega)) (AA (AI 0) (AA (AI 1) (AA (AI 2) (AA (AI 3) AC))))))
   (AF (Ah (AO At (AI 5) AE (AR _)) (AH (AK (AU (AD AJ (AY (Ab A6 (A5 (AD AJ (AD AJ (AD AJ AC)))) (AW T.cv (AN T) (hr.mono (by omega)) (AA (AI 0) (AD AE AC))) (fun _ _=>rfl)) (Ay (AU (AA (AI 6) (AA (AI 7) (AA (AI 8) AC)))) AC)))))) AM)
   (AF (Ah (AO At (AI 5) AE (AR _)) (AH (AK (AU (AD AJ (AA (AI 6) (AA (AI 7) (AA (AI 8) AC))))))) AM)
   (AF (Ah (AO At (AI 5) AE (AR _)) (AH (AK (AU (AD AJ (AA (AI 6) (AY (Ab KK AJ (AW T.cv (AN T) (hr.mono (by omega)) (AA (AI 0) (AD AE AC))) (fun _ _=>rfl)) (AA (AI 7) (AA (AI 8) AC)))))))) AM)
   (AH (AK (AU (AD AJ (AA (AI 6) (AA (AI 7) (AA (AI 8) AC)))))))))))))))))))))))),?_⟩
   try dsimp only[BR,Aw]
   have nsl:=Hi hpen hsl ok
   have eu:uB (m+1)=2*uB m+20:=rfl
   have es:sB (m+1)=2*sB m+2:=rfl
   have lo:=O2 m
   refine⟨_,rfl,p,_,_,_,rfl,(by show(0:Int)<_;decide),Al (by decide) (by decide),hpen,(by omega),fun r1 H1 a1 b1 pen1 kp1=>?_⟩
   refine⟨_,rfl,_,_,rfl,rfl,_,rfl,CP (fun _=>?_) (fun w3=>?_)⟩
   ·exact⟨_,rfl,_,rfl,_,rfl,_,rfl,p,sl,zs,_,S,rfl,pen1,(by omega),kp1 _ _ nsl hsl,ok,fun a l H2 hl lok pen2 kp2=>k (.ref a) (.lf l) H2 (.lf hl) (.lf lok) (by rw[NW];omega) (pen2.mono (by omega)) (kp1.trans kp2)⟩
   have w3:¬ r1<3:=fun z=>w3 (decide_eq_true z)
   refine⟨_,rfl,_,rfl,_,rfl,_,rfl,_,rfl,_,_,rfl,rfl,p,sl,zs,_,S,(congrArg (fun i=>[V.ref p,.ref sl,.bl false,.int 0,.int i]) (by omega)),pen1,(by omega),kp1 _ _ nsl hsl,ok,fun a fa H2 fa' oa za pena kpa=>?_⟩
   have hs2:=kpa _ _ nsl (kp1 _ _ nsl hsl)
   have k2:=kp1.trans kpa
   refine⟨_,rfl,rfl,_,rfl,CP (fun _=>?_) (fun w4=>?_)⟩
   ·refine⟨_,rfl,Ar,fun q hq=>?_⟩
    obtain⟨x,y⟩:=Cz (a:=q) (t:=q) (k:=.neg) (n:=m+1) (ps:=[fa]) (us:=[a]) (show upd H2 q _ q=_ from AB) (fun z=>by cases z) (.cons (fa'.kp (Kp.new0 hq)) .nil) rfl (Pq oa)
    exact k _ _ _ x y (by rw[Pn];omega) ((pena.same (AG.new hq)).mono (by omega)) (k2.trans (AG.keep (AG.new hq)))
   refine⟨_,rfl,_,_,rfl,rfl,_,rfl,CP (fun _=>?_) (fun w5=>?_)⟩
   ·refine⟨(by show 4≤sizeLine;decide),fun q3 h3=>⟨_,rfl,p,_,_,_,rfl,(by show(0:Int)<_;decide),Al (by decide) (by decide),(pena.same (AG.new h3)),(by omega),fun r3 H3 a3 b3 pen3 kp3=>?_⟩⟩
    obtain⟨w,ew,pw⟩:=EC (L:=[vS "sum",vS "count",vS "least",vS "most"]) (P:=fun z=>decide ((z,1)∈G7)) (by nofun) a3 b3
    refine⟨q3,_,_,_,rfl,rfl,Aq.of (kp3 _ _ (pena.ne h3) AB),ew,_,rfl,Ar,fun q hq=>?_⟩
    have q34:=(Kp.same (AG.new (o:=.lst [vS "sum",vS "count",vS "least",vS "most"]) h3)).trans ((pena.same (AG.new h3)).kp kp3)
    obtain⟨x,y⟩:=Cz (a:=q) (t:=q) (k:=.wd w) (n:=m+1) (ps:=[fa]) (us:=[a]) (show upd H3 q _ q=_ from AB) (fun z=>by cases z) (.cons ((fa'.kp q34).kp (Kp.new0 hq)) .nil) (show(w,1)∈G7 from of_decide_eq_true pw) (Pq oa)
    exact k _ _ _ x y (by rw[Pn];omega) ((pen3.same (AG.new hq)).mono (by omega)) (k2.trans ((AG.keep (AG.new h3)).trans (kp3.trans (AG.keep (AG.new hq)))))
   refine⟨_,rfl,_,_,rfl,rfl,_,rfl,CP (fun _=>?_) (fun w6=>?_)⟩
   ·refine⟨Ar,fun q3 h3=>⟨_,rfl,_,_,rfl,rfl,(by show(0:Int)<2;decide),?_⟩⟩
    obtain⟨w,ew,pw⟩:=EC (L:=[vS "turn",vS "outer"]) (P:=fun z=>decide ((z,1)∈G7)) (r:=r1%2) (by nofun) (by omega) (by show r1%2<2;omega)
    refine⟨q3,_,_,_,rfl,rfl,Aq.of AB,ew,_,rfl,Ar,fun q hq=>?_⟩
    have q34:=(Kp.same (AG.new (o:=.lst [vS "turn",vS "outer"]) h3))
    obtain⟨x,y⟩:=Cz (a:=q) (t:=q) (k:=.wd w) (n:=m+1) (ps:=[fa]) (us:=[a]) (show upd (upd H2 q3 _) q _ q=_ from AB) (fun z=>by cases z) (.cons ((fa'.kp q34).kp (Kp.new0 hq)) .nil) (show(w,1)∈G7 from of_decide_eq_true pw) (Pq oa)
    exact k _ _ _ x y (by rw[Pn];omega) (((pena.same (AG.new h3)).same (AG.new hq)).mono (by omega)) (k2.trans ((AG.keep (AG.new h3)).trans (AG.keep (AG.new hq))))
   refine⟨_,rfl,rfl,_,rfl,CP (fun _=>?_) (fun w7=>?_)⟩
   ·refine⟨A2,fun q3 h3=>⟨_,rfl,p,_,_,_,rfl,(by show(0:Int)<_;decide),Al (by decide) (by decide),(pena.same (AG.new h3)),(by omega),fun r3 H3 a3 b3 pen3 kp3=>?_⟩⟩
    obtain⟨w,ew,pw⟩:=EC (L:=[vS "f",vS "g",vS "h"]) (P:=Hj) (by nofun) a3 b3
    obtain⟨nw,rw_⟩:=F1 pw
    refine⟨q3,_,_,_,rfl,rfl,Aq.of (kp3 _ _ (pena.ne h3) AB),ew,?_⟩
    have q34:=(Kp.same (AG.new (o:=.lst [vS "f",vS "g",vS "h"]) h3)).trans ((pena.same (AG.new h3)).kp kp3)
    have fa3:=fa'.kp q34
    have k3:=k2.trans ((AG.keep (AG.new (o:=.lst [vS "f",vS "g",vS "h"]) h3)).trans kp3)
    refine⟨Nat.zero_le _,fun e1 n1=>⟨_,rfl,Fz,fun e2 n2=>⟨Ar,fun q5 n5=>?_⟩⟩⟩
    have s1:=AG.new (o:=.tup []) n1
    have o1:upd H3 e1 (.tup []) e1=some (.tup []):=AB
    generalize upd H3 e1 (.tup [])=G1 at *
    have s2:=AG.new (o:=.tup [a]) n2
    have o2:upd G1 e2 (.tup [a]) e2=some (.tup [a]):=AB
    generalize upd G1 e2 (.tup [a])=G2 at *
    have s3:=AG.new (o:=.lst [.ref e1,.ref e2]) n5
    have o3:upd G2 q5 (.lst [.ref e1,.ref e2]) q5=some (.lst [.ref e1,.ref e2]):=AB
    generalize upd G2 q5 (.lst [.ref e1,.ref e2])=G3 at *
    have s13:=(s1.trans s2).trans s3
    have pen4:=pen3.same s13
    have nq5:q5≠p:=fun z=>by
     obtain⟨vs,ez⟩:=pen3.ob
     have:=AG.back0 (s1.trans s2) n5
     rw[z,ez]at this;cases this
    refine⟨_,rfl,p,_,_,_,rfl,(by show(0:Int)<_;decide),Al (by decide) (by decide),pen4,(by omega),fun r6 H6 a6 b6 pen6 kp6=>?_⟩
    have q6:Kp G3 H6:=pen4.kp kp6
    have k6:=k3.trans ((AG.keep s13).trans kp6)
    have:r6=0∨r6=1:=by omega
    rcases this with rfl | rfl
    ·refine⟨q5,_,_,_,rfl,rfl,Aq.of (kp6 _ _ nq5 o3),rfl,A2,fun q hq=>?_⟩
     have sq:=AG.new (o:=.tup [vS "own",.str w,.ref e1]) hq
     obtain⟨x,y⟩:=Cz (a:=q) (t:=e1) (k:=.own w) (n:=m+1) (ps:=[]) (us:=[]) (show upd H6 q _ q=_ from AB) (fun _=>sq _ _ (q6 _ _ (s3 _ _ (s2 _ _ o1)))) .nil ⟨nw,rw_,by simp⟩ (fun g hg=>by cases hg)
     exact k _ _ _ x y (by rw[TF];omega) ((pen6.same (AG.new hq)).mono (by omega)) (k6.trans (AG.keep (AG.new hq)))
    ·refine⟨q5,_,_,_,rfl,rfl,Aq.of (kp6 _ _ nq5 o3),rfl,A2,fun q hq=>?_⟩
     have sq:=AG.new (o:=.tup [vS "own",.str w,.ref e2]) hq
     obtain⟨x,y⟩:=Cz (a:=q) (t:=e2) (k:=.own w) (n:=m+1) (ps:=[fa]) (us:=[a]) (show upd H6 q _ q=_ from AB) (fun _=>sq _ _ (q6 _ _ (s3 _ _ o2))) (.cons (((fa3.kp (Kp.same s13)).kp q6).kp (Kp.same sq)) .nil) ⟨nw,rw_,by simp⟩ (Pq oa)
     exact k _ _ _ x y (by rw[Pn];omega) ((pen6.same (AG.new hq)).mono (by omega)) (k6.trans (AG.keep (AG.new hq)))
   refine⟨_,rfl,_,rfl,_,rfl,_,rfl,_,rfl,_,_,rfl,rfl,p,sl,zs,_,S,(congrArg (fun i=>[V.ref p,.ref sl,.bl false,.int 0,.int i]) (by omega)),pena,(by omega),hs2,ok,fun b fb H3 fb' ob zb penb kpb=>?_⟩
   have fa3:=fa'.kp (pena.kp kpb)
   have hs3:=kpb _ _ nsl hs2
   have k3:=k2.trans kpb
   refine⟨_,rfl,_,_,rfl,rfl,_,rfl,CP (fun _=>?_) (fun w8=>?_)⟩
   ·refine⟨_,rfl,p,_,_,_,rfl,(by show(0:Int)<_;decide),Al (by decide) (by decide),penb,(by omega),fun r4 H4 a4 b4 pen4 kp4=>?_⟩
    obtain⟨ch,hc,hin⟩:=TC a4 b4
    refine⟨_,_,ch,rfl,rfl,(by nofun),hc,_,rfl,_,rfl,(by show 4≤sizeLine;decide),fun q hq=>?_⟩
    have q4:=(penb.kp kp4).trans (Kp.new0 (o:=.tup [vS "op",.str ⟨#[ch]⟩,a,b]) hq)
    obtain⟨x,y⟩:=Cz (a:=q) (t:=q) (k:=.op ⟨#[ch]⟩) (n:=m+1) (ps:=[fa,fb]) (us:=[a,b]) (show upd H4 q _ q=_ from AB) (fun z=>by cases z) (.cons (fa3.kp q4) (.cons (fb'.kp q4) .nil)) ⟨hin,rfl⟩ (O1 oa ob)
    exact k _ _ _ x y (by rw[Po];omega) ((pen4.same (AG.new hq)).mono (by omega)) (k3.trans (kp4.trans (AG.keep (AG.new hq))))
   refine⟨_,rfl,_,_,rfl,rfl,_,rfl,CP (fun _=>?_) (fun w9=>?_)⟩
   ·refine⟨_,rfl,_,rfl,A2,fun q hq=>?_⟩
    have q4:=(Kp.new0 (o:=.tup [vS "stack",a,b]) hq)
    obtain⟨x,y⟩:=Cz (a:=q) (t:=q) (k:=.wd (zS "stack")) (n:=m+1) (ps:=[fa,fb]) (us:=[a,b]) (show upd H3 q _ q=_ from AB) (fun z=>by cases z) (.cons (fa3.kp q4) (.cons (fb'.kp q4) .nil)) (show(zS "stack",2)∈G7 by nofun) (O1 oa ob)
    exact k _ _ _ x y (by rw[Po];omega) ((penb.same (AG.new hq)).mono (by omega)) (k3.trans (AG.keep (AG.new hq)))
   refine⟨_,rfl,_,_,rfl,rfl,_,rfl,CP (fun _=>?_) (fun w10=>?_)⟩
   ·refine⟨_,rfl,p,_,_,_,rfl,(by show(0:Int)<_;decide),Al (by decide) (by decide),penb,(by omega),fun r4 H4 a4 b4 pen4 kp4=>⟨_,_,rfl,rfl,_,rfl,p,_,_,_,rfl,(by show(0:Int)<_;decide),Al (by decide) (by decide),pen4,(by omega),fun r5 H5 a5 b5 pen5 kp5=>⟨_,_,rfl,rfl,_,rfl,_,rfl,(by show 5≤sizeLine;decide),fun q hq=>?_⟩⟩⟩
    have q4:=((penb.kp kp4).trans (pen4.kp kp5)).trans (Kp.new0 (o:=.tup [vS "grid",.int (1+r4),.int (1+r5),a,b]) hq)
    obtain⟨x,y⟩:=Cz (a:=q) (t:=q) (k:=.grid (1+r4) (1+r5)) (n:=m+1) (ps:=[fa,fb]) (us:=[a,b]) (show upd H5 q _ q=_ from AB) (fun z=>by cases z) (.cons (fa3.kp q4) (.cons (fb'.kp q4) .nil)) ⟨by omega,by omega,by omega,by omega,rfl⟩ (O1 oa ob)
    exact k _ _ _ x y (by rw[Po];omega) ((pen5.same (AG.new hq)).mono (by omega)) (k3.trans (kp4.trans (kp5.trans (AG.keep (AG.new hq)))))
   refine⟨_,rfl,rfl,_,rfl,CP (fun _=>?_) (fun w11=>?_)⟩
   ·refine⟨A2,fun q3 h3=>⟨_,rfl,p,_,_,_,rfl,(by show(0:Int)<_;decide),Al (by decide) (by decide),(penb.same (AG.new h3)),(by omega),fun r4 H4 a4 b4 pen4 kp4=>?_⟩⟩
    obtain⟨w,ew,pw⟩:=EC (L:=[vS "f",vS "g",vS "h"]) (P:=Hj) (by nofun) a4 b4
    obtain⟨nw,rw_⟩:=F1 pw
    refine⟨q3,_,_,_,rfl,rfl,Aq.of (kp4 _ _ (penb.ne h3) AB),ew,_,rfl,_,rfl,Ar,fun e1 n1=>⟨A2,fun q hq=>?_⟩⟩
    have s1:=AG.new (o:=.tup [a,b]) n1
    have sq:=AG.new (o:=.tup [vS "own",.str w,.ref e1]) hq
    have q4:=(Kp.new0 (o:=.lst [vS "f",vS "g",vS "h"]) h3).trans (((penb.same (AG.new h3)).kp kp4).trans ((Kp.same s1).trans (Kp.same sq)))
    obtain⟨x,y⟩:=Cz (a:=q) (t:=e1) (k:=.own w) (n:=m+1) (ps:=[fa,fb]) (us:=[a,b]) (show upd (upd H4 e1 _) q _ q=_ from AB) (fun _=>sq _ _ AB) (.cons (fa3.kp q4) (.cons (fb'.kp q4) .nil)) ⟨nw,rw_,by simp⟩ (O1 oa ob)
    exact k _ _ _ x y (by rw[Po];omega) (((pen4.same s1).same sq).mono (by omega)) (k3.trans ((AG.keep (AG.new h3)).trans (kp4.trans ((AG.keep s1).trans (AG.keep sq)))))
   refine⟨_,rfl,_,rfl,_,rfl,_,rfl,p,sl,zs,_,S,rfl,penb,(by omega),hs3,ok,fun c l H4 hc lok penc kpc=>?_⟩
   have q34:=penb.kp kpc
   have fa4:=fa3.kp q34
   have fb4:=fb'.kp q34
   have fc4:Az H4 (.ref c) (.lf l):=.lf hc
   have oc:FO 0 (m+1) (.lf l):=.lf lok
   have k4:=k3.trans kpc
   refine⟨_,rfl,rfl,_,rfl,CP (fun _=>?_) (fun w12=>?_)⟩
   ·refine⟨A2,fun q3 h3=>⟨_,rfl,p,_,_,_,rfl,(by show(0:Int)<_;decide),Al (by decide) (by decide),(penc.same (AG.new h3)),(by omega),fun r5 H5 a5 b5 pen5 kp5=>?_⟩⟩
    obtain⟨w,ew,pw⟩:=EC (L:=[vS "f",vS "g",vS "h"]) (P:=Hj) (by nofun) a5 b5
    obtain⟨nw,rw_⟩:=F1 pw
    refine⟨q3,_,_,_,rfl,rfl,Aq.of (kp5 _ _ (penc.ne h3) AB),ew,_,rfl,_,rfl,_,rfl,A2,fun e1 n1=>⟨A2,fun q hq=>?_⟩⟩
    have s1:=AG.new (o:=.tup [a,b,.ref c]) n1
    have sq:=AG.new (o:=.tup [vS "own",.str w,.ref e1]) hq
    have q4:=(Kp.new0 (o:=.lst [vS "f",vS "g",vS "h"]) h3).trans (((penc.same (AG.new h3)).kp kp5).trans ((Kp.same s1).trans (Kp.same sq)))
    obtain⟨x,y⟩:=Cz (a:=q) (t:=e1) (k:=.own w) (n:=m+1) (ps:=[fa,fb,.lf l]) (us:=[a,b,.ref c]) (show upd (upd H5 e1 _) q _ q=_ from AB) (fun _=>sq _ _ AB) (.cons (fa4.kp q4) (.cons (fb4.kp q4) (.cons (fc4.kp q4) .nil))) ⟨nw,rw_,by simp⟩ (Pr oa ob oc)
    exact k _ _ _ x y (by rw[Pp,NW];omega) (((pen5.same s1).same sq).mono (by omega)) (k4.trans ((AG.keep (AG.new h3)).trans (kp5.trans ((AG.keep s1).trans (AG.keep sq)))))
   refine⟨_,rfl,rfl,_,rfl,CP (fun _=>?_) (fun w13=>?_)⟩
   ·refine⟨_,rfl,_,rfl,_,rfl,(by show 4≤sizeLine;decide),fun q hq=>?_⟩
    have q4:=(Kp.new0 (o:=.tup [vS "if",a,b,.ref c]) hq)
    obtain⟨x,y⟩:=Cz (a:=q) (t:=q) (k:=.wd (zS "if")) (n:=m+1) (ps:=[fa,fb,.lf l]) (us:=[a,b,.ref c]) (show upd H4 q _ q=_ from AB) (fun z=>by cases z) (.cons (fa4.kp q4) (.cons (fb4.kp q4) (.cons (fc4.kp q4) .nil))) (show(zS "if",3)∈G7 by nofun) (Pr oa ob oc)
    exact k _ _ _ x y (by rw[Pp,NW];omega) ((penc.same (AG.new hq)).mono (by omega)) (k4.trans (AG.keep (AG.new hq)))
   refine⟨_,rfl,rfl,_,rfl,CP (fun _=>?_) (fun w14=>?_)⟩
   ·refine⟨_,rfl,_,rfl,p,_,_,_,rfl,(by show(0:Int)<_;decide),Al (by decide) (by decide),penc,(by omega),fun r5 H5 a5 b5 pen5 kp5=>?_⟩
    obtain⟨ch,hc2,hin⟩:=TH a5 b5
    refine⟨_,_,ch,rfl,rfl,(by nofun),hc2,_,rfl,_,rfl,(by show 5≤sizeLine;decide),fun q hq=>?_⟩
    have q4:=(penc.kp kp5).trans (Kp.new0 (o:=.tup [vS "sumif",a,.str ⟨#[ch]⟩,b,.ref c]) hq)
    obtain⟨x,y⟩:=Cz (a:=q) (t:=q) (k:=.sumif ⟨#[ch]⟩) (n:=m+1) (ps:=[fa,fb,.lf l]) (us:=[a,b,.ref c]) (show upd H5 q _ q=_ from AB) (fun z=>by cases z) (.cons (fa4.kp q4) (.cons (fb4.kp q4) (.cons (fc4.kp q4) .nil))) ⟨hin,rfl⟩ (Pr oa ob oc)
    exact k _ _ _ x y (by rw[Pp,NW];omega) ((pen5.same (AG.new hq)).mono (by omega)) (k4.trans (kp5.trans (AG.keep (AG.new hq))))
   ·refine⟨_,rfl,_,rfl,_,rfl,(by show 4≤sizeLine;decide),fun q hq=>?_⟩
    have q4:=(Kp.new0 (o:=.tup [vS "find",a,b,.ref c]) hq)
    obtain⟨x,y⟩:=Cz (a:=q) (t:=q) (k:=.wd (zS "find")) (n:=m+1) (ps:=[fa,fb,.lf l]) (us:=[a,b,.ref c]) (show upd H4 q _ q=_ from AB) (fun z=>by cases z) (.cons (fa4.kp q4) (.cons (fb4.kp q4) (.cons (fc4.kp q4) .nil))) (show(zS "find",3)∈G7 by nofun) (Pr oa ob oc)
    exact k _ _ _ x y (by rw[Pp,NW];omega) ((penc.same (AG.new hq)).mono (by omega)) (k4.trans (AG.keep (AG.new hq)))
theorem Eu:Aa ["_law_found","_law_due_here"] ["_law_found","_law_due_here"] (AL DK):=BW
theorem EK (T:Txt w K mg t):∀ n:Nat,Ap P w K mg base Bj (n+1) t.cf t.cg ["_law_found","_law_due_here"] (O3 n):=by
 have D:=T.du
 intro m
 induction m with
 | zero=>
  have ih:Ap P w K mg base Bj 0 t.cf t.cg ["_law_found","_law_due_here"] (fun _ _ _ _=>False):=⟨fun _ _ _ _ z=>z.elim,fun _ _ _ _ _ _ _ _ _ _ _ _ _ z=>z.elim⟩
  refine D.fn.okX Eu ?_ (fun cdv A outer s H vs Q E hr h Z hZ=>?_)
  ·rintro _ _ _ _ ⟨x,y,rfl,_⟩
   rfl
  ·obtain⟨x,y,rfl,ak,k⟩:=h
   refine hZ ⟨_,((AF (Ah (BB (AQ Ai (by rfl) T.d1 AS (AA (AI 1) (AA (BC T.d5 A8) AC)))) (AF (Ah (Ct (Bl (BB (AQ Ai (by rfl) T.d1 AS (AA (AI 0) (AA (BC T.d5 A8) AC))))) (DB (AO KC (AQ An (by rfl) T.dz PySem.boot_len (AA (AI 0) AC)) (AQ An (by rfl) T.dz PySem.boot_len (AA (AI 1) AC)) (AR _)))).pt (AH (AK Cs)) AM)
   (AH (AK (AQ (CY rfl) (by rfl) T.d7 CZ (CW (HU (x:="_law_one") (y:="_law_other") (fv:=[]) (js:=[]) (cl:=[]) rfl (by with_unfolding_all rfl) ⟨⟨rfl,by nofun,by nofun,rfl,by nofun,by nofun,(List.forall_mem_nil _),(List.forall_mem_nil _),.nil⟩,rfl,by nofun⟩ (JP rfl T.d8 Ij (AA (AI 0) (AA (AI 1) AC))) (fun _ _ _ _ _=>DE) (fun _ _ _ _ _=>(AW T.du ih (hr.mono (by omega)) (AA (AI 0) (AA (AI 1) AC))))) AC))))) AM)
   (AF (Ah (AO DC (AI 1) B3 (AR _)) (AH (AK (A4 DC (AI 0) B3 (AR _)))) AM)
   (AF (Ah (BB (AQ Ai (by rfl) T.d1 AS (AA (AI 1) (AA (BC T.d3 B8) AC)))) (AH (AK (Bd (AQ Ai (by rfl) T.d1 AS (AA (AI 0) (AA (BC T.d3 B8) AC))) (CT (A4 At (AI 0) (AI 1) (AR _)))))) AM)
   (AF (Ah (BB (AQ Ai (by rfl) T.d1 AS (AA (AI 1) (AA (BC T.d4 Dj) AC)))) (AH (AK (Bd (AQ Ai (by rfl) T.d1 AS (AA (AI 0) (AA (BC T.d4 Dj) AC))) (CT (A4 At (AI 0) (AI 1) (AR _)))))) AM)
   (AH (AK (Bd (AQ Ai (by rfl) T.d1 AS (AA (AI 0) (AA (BC T.d2 Fx) AC))) (Bd (Hx (AQ Ai (by rfl) T.d1 AS (AA (AI 0) (AA (BC T.d3 B8) AC)))) (CT (A4 At (AI 0) (AI 1) (AR _)))))))))))),?_⟩
   try dsimp only[BR,Aw]
   cases ak with
   | fl fx=>
    cases x with
    | non=>exact⟨_,rfl,_,_,_,_,false,rfl,.non,rfl,(fun _=>.inr trivial),T.eq,false,rfl,Af ⟨_,rfl,rfl,true,rfl,Ax ⟨_,rfl,rfl,k H (AG.refl _)⟩⟩⟩
    | bl b0=>exact⟨_,rfl,_,_,_,_,false,rfl,.bl _,rfl,(fun _=>.inr trivial),T.er,false,rfl,Af ⟨_,rfl,rfl,false,rfl,Af ⟨_,rfl,_,_,_,_,true,rfl,.bl _,rfl,(fun _=>.inr trivial),Bm _ _,true,rfl,Ax ⟨_,rfl,_,_,_,_,true,rfl,.bl _,rfl,(fun _=>.inr trivial),Bm _ _,true,rfl,Ax ⟨_,rfl,_,rfl,rfl,J8 (congrArg V.bl (decide_eq_true rfl)) (k H (AG.refl _))⟩⟩⟩⟩⟩
    | str z=>exact⟨_,rfl,_,_,_,_,false,rfl,.str _,rfl,(fun _=>.inr trivial),T.en,false,rfl,Af ⟨_,rfl,rfl,false,rfl,Af ⟨_,rfl,_,_,_,_,false,rfl,.str _,rfl,(fun _=>.inr trivial),T.es,false,rfl,Af ⟨_,rfl,_,_,_,_,true,rfl,.str _,rfl,(fun _=>.inr trivial),Bm _ _,true,rfl,Ax ⟨_,rfl,_,_,_,_,true,rfl,.str _,rfl,(fun _=>.inr trivial),Bm _ _,true,rfl,Ax ⟨_,rfl,_,rfl,rfl,J8 (congrArg V.bl (decide_eq_true rfl)) (k H (AG.refl _))⟩⟩⟩⟩⟩⟩
    | int i=>exact⟨_,rfl,_,_,_,_,false,rfl,.int _,rfl,(fun _=>.inr trivial),T.eo,false,rfl,Af ⟨_,rfl,rfl,false,rfl,Af ⟨_,rfl,_,_,_,_,false,rfl,.int _,rfl,(fun _=>.inr trivial),T.ep,false,rfl,Af ⟨_,rfl,_,_,_,_,false,rfl,.int _,rfl,(fun _=>.inr trivial),T.et,false,rfl,Af ⟨_,rfl,_,_,_,_,true,rfl,.int _,rfl,(fun _=>.inr trivial),Bm _ _,true,rfl,Ax ⟨_,rfl,_,_,_,_,false,rfl,.int _,rfl,(fun _=>.inr trivial),T.ep,false,rfl,true,rfl,Ax ⟨_,rfl,_,rfl,rfl,J8 (congrArg V.bl (decide_eq_true rfl)) (k H (AG.refl _))⟩⟩⟩⟩⟩⟩⟩
    | byt b=>cases fx
    | flt b=>cases fx
    | ref b=>cases fx
    | ty b=>cases fx
 | succ m ih=>
  refine D.fn.okX Eu ?_ (fun cdv A outer s H vs Q E hr h Z hZ=>?_)
  ·rintro _ _ _ _ ⟨x,y,rfl,_⟩
   rfl
  ·obtain⟨x,y,rfl,ak,k⟩:=h
   refine hZ ⟨_,((AF (Ah (BB (AQ Ai (by rfl) T.d1 AS (AA (AI 1) (AA (BC T.d5 A8) AC)))) (AF (Ah (Ct (Bl (BB (AQ Ai (by rfl) T.d1 AS (AA (AI 0) (AA (BC T.d5 A8) AC))))) (DB (AO KC (AQ An (by rfl) T.dz PySem.boot_len (AA (AI 0) AC)) (AQ An (by rfl) T.dz PySem.boot_len (AA (AI 1) AC)) (AR _)))).pt (AH (AK Cs)) AM)
   (AH (AK (AQ (CY rfl) (by rfl) T.d7 CZ (CW (HU (x:="_law_one") (y:="_law_other") (fv:=[]) (js:=[]) (cl:=[]) rfl (by with_unfolding_all rfl) ⟨⟨rfl,by nofun,by nofun,rfl,by nofun,by nofun,(List.forall_mem_nil _),(List.forall_mem_nil _),.nil⟩,rfl,by nofun⟩ (JP rfl T.d8 Ij (AA (AI 0) (AA (AI 1) AC))) (fun _ _ _ _ _=>DE) (fun _ _ _ _ _=>(AW T.du ih (hr.mono (by omega)) (AA (AI 0) (AA (AI 1) AC))))) AC))))) AM)
   (AF (Ah (AO DC (AI 1) B3 (AR _)) (AH (AK (A4 DC (AI 0) B3 (AR _)))) AM)
   (AF (Ah (BB (AQ Ai (by rfl) T.d1 AS (AA (AI 1) (AA (BC T.d3 B8) AC)))) (AH (AK (Bd (AQ Ai (by rfl) T.d1 AS (AA (AI 0) (AA (BC T.d3 B8) AC))) (CT (A4 At (AI 0) (AI 1) (AR _)))))) AM)
   (AF (Ah (BB (AQ Ai (by rfl) T.d1 AS (AA (AI 1) (AA (BC T.d4 Dj) AC)))) (AH (AK (Bd (AQ Ai (by rfl) T.d1 AS (AA (AI 0) (AA (BC T.d4 Dj) AC))) (CT (A4 At (AI 0) (AI 1) (AR _)))))) AM)
   (AH (AK (Bd (AQ Ai (by rfl) T.d1 AS (AA (AI 0) (AA (BC T.d2 Fx) AC))) (Bd (Hx (AQ Ai (by rfl) T.d1 AS (AA (AI 0) (AA (BC T.d3 B8) AC)))) (CT (A4 At (AI 0) (AI 1) (AR _)))))))))))),?_⟩
   try dsimp only[BR,Aw]
   cases ak with
   | fl fx=>
    cases x with
    | non=>exact⟨_,rfl,_,_,_,_,false,rfl,.non,rfl,(fun _=>.inr trivial),T.eq,false,rfl,Af ⟨_,rfl,rfl,true,rfl,Ax ⟨_,rfl,rfl,k H (AG.refl _)⟩⟩⟩
    | bl b0=>exact⟨_,rfl,_,_,_,_,false,rfl,.bl _,rfl,(fun _=>.inr trivial),T.er,false,rfl,Af ⟨_,rfl,rfl,false,rfl,Af ⟨_,rfl,_,_,_,_,true,rfl,.bl _,rfl,(fun _=>.inr trivial),Bm _ _,true,rfl,Ax ⟨_,rfl,_,_,_,_,true,rfl,.bl _,rfl,(fun _=>.inr trivial),Bm _ _,true,rfl,Ax ⟨_,rfl,_,rfl,rfl,J8 (congrArg V.bl (decide_eq_true rfl)) (k H (AG.refl _))⟩⟩⟩⟩⟩
    | str z=>exact⟨_,rfl,_,_,_,_,false,rfl,.str _,rfl,(fun _=>.inr trivial),T.en,false,rfl,Af ⟨_,rfl,rfl,false,rfl,Af ⟨_,rfl,_,_,_,_,false,rfl,.str _,rfl,(fun _=>.inr trivial),T.es,false,rfl,Af ⟨_,rfl,_,_,_,_,true,rfl,.str _,rfl,(fun _=>.inr trivial),Bm _ _,true,rfl,Ax ⟨_,rfl,_,_,_,_,true,rfl,.str _,rfl,(fun _=>.inr trivial),Bm _ _,true,rfl,Ax ⟨_,rfl,_,rfl,rfl,J8 (congrArg V.bl (decide_eq_true rfl)) (k H (AG.refl _))⟩⟩⟩⟩⟩⟩
    | int i=>exact⟨_,rfl,_,_,_,_,false,rfl,.int _,rfl,(fun _=>.inr trivial),T.eo,false,rfl,Af ⟨_,rfl,rfl,false,rfl,Af ⟨_,rfl,_,_,_,_,false,rfl,.int _,rfl,(fun _=>.inr trivial),T.ep,false,rfl,Af ⟨_,rfl,_,_,_,_,false,rfl,.int _,rfl,(fun _=>.inr trivial),T.et,false,rfl,Af ⟨_,rfl,_,_,_,_,true,rfl,.int _,rfl,(fun _=>.inr trivial),Bm _ _,true,rfl,Ax ⟨_,rfl,_,_,_,_,false,rfl,.int _,rfl,(fun _=>.inr trivial),T.ep,false,rfl,true,rfl,Ax ⟨_,rfl,_,rfl,rfl,J8 (congrArg V.bl (decide_eq_true rfl)) (k H (AG.refl _))⟩⟩⟩⟩⟩⟩⟩
    | byt b=>cases fx
    | flt b=>cases fx
    | ref b=>cases fx
    | ty b=>cases fx
   | @tp _ a b xs ys h1 h2 h5 hl hh=>
    refine⟨_,rfl,_,_,_,_,true,rfl,.tup h2,rfl,(fun _=>.inr trivial),Bm _ _,true,rfl,Ax ?_⟩
    refine⟨_,rfl,_,_,_,_,true,rfl,.tup h1,rfl,(fun _=>.inr trivial),Bm _ _,true,rfl,Af ?_⟩
    refine⟨_,rfl,a,_,rfl,.inr (Am.of h1),_,rfl,b,_,rfl,.inr (Am.of h2),rfl,false,congrArg (fun b=>V.bl (!b)) (decide_eq_true (by rw[hl])),Af ?_⟩
    refine⟨_,rfl,_,rfl,a,b,rfl,⟨_,Am.of h1⟩,⟨_,Am.of h2⟩,fun D0 hD=>?_⟩
    refine⟨fun i m' H4=>m'=xs.length-i∧i≤xs.length∧H4 D0=some (.lst ((List.replicate i true).map V.bl))∧∀ c o,H c=some o→H4 c=some o,⟨xs.length,rfl,Nat.zero_le _,AB,fun c o e=>AG.new hD _ _ e⟩,?_⟩
    rintro i m' H4 ⟨rfl,hi,hD4,s4⟩
    by_cases hlt:i<xs.length
    ·have hy:i<ys.length:=by omega
     have gx:xs[i]?=some xs[i]:=List.getElem?_eq_getElem hlt
     have gy:ys[i]?=some ys[i]:=List.getElem?_eq_getElem hy
     refine .inr ⟨⟨xs,ys,_,_,Am.of (s4 _ _ h1),Am.of (s4 _ _ h2),gx,gy⟩,fun v H' o1 o2 yl=>?_⟩
     obtain⟨x0,y0,b0,ex,ey,hb0,rfl,rfl⟩:=yl
     have ex':=ex _ (Am.of (s4 _ _ h1))
     have ey':=ey _ (Am.of (s4 _ _ h2))
     have sb:=AG.new (o:=.tup [x0,y0]) hb0
     have ak:=(hh i x0 y0 ex' ey').same (fun c o e=>sb _ _ (s4 c o e))
     refine⟨b0,_,rfl,Am.of AB,rfl,_,_,rfl,_,_,rfl,rfl,⟨_,_,rfl⟩,?_⟩
     refine⟨_,rfl,_,rfl,x0,y0,rfl,ak,fun H5 s5=>?_⟩
     refine⟨_,s5 _ _ (sb _ _ hD4),Ek (by rw[List.length_map,List.length_replicate];omega),xs.length-(i+1),by omega,rfl,hlt,?_,fun c o e=>?_⟩
     ·rw[AB,List.replicate_succ',List.map_append];rfl
     ·rw[AT (AX e hD)];exact s5 _ _ (sb _ _ (s4 _ _ e))
    have e:i=xs.length:=by omega
    subst e
    refine .inl ⟨⟨xs,ys,Am.of (s4 _ _ h1),Am.of (s4 _ _ h2),.inl (Nat.le_refl _)⟩,?_⟩
    exact⟨D0,_,rfl,Aq.of hD4,J8 (congrArg V.bl (by simp)) (k _ fun c o e=>s4 c o e)⟩
theorem GH:Aa ["_law_pen_here"] ["_law_pen_here"] (AL Cp):=BW
theorem F5 (T:Txt w K mg t):Ap P w K mg base Bj 2 t.ch t.ci ["_law_pen_here"] (O4 K):=by
 have D:=T.dv
 refine D.fn.okX GH ?_ (fun cdv A outer s H vs Q E hr h Z hZ=>?_)
 ·rintro _ _ _ _ ⟨p,n,S,rfl,_⟩
  rfl
 ·obtain⟨p,n,S,rfl,hpen,hn,k⟩:=h
  refine hZ ⟨_,((AH (AK (Ab A6 (A5 (Cw (A5 (AD AJ AC)) (Cw (A5 (AD AJ (AD AJ AC))) (Cw (A5 (AD AJ (AD AJ (AD AJ AC)))) AC)))) (AW T.cv (AN T) (Bz hr) (AA (AI 0) (AD AE AC))) (fun _ _=>rfl))))),?_⟩
  try dsimp only[BR,Aw]
  refine⟨Fz,fun l1 h1=>⟨Ar,fun l2 h2=>⟨A2,fun l3 h3=>⟨A2,fun q hq=>?_⟩⟩⟩⟩
  have s1:=AG.new (o:=.lst [vS "main"]) h1
  have o1:upd H l1 (.lst [vS "main"]) l1=some (.lst [vS "main"]):=AB
  have p1:=hpen.same s1
  generalize upd H l1 (.lst [vS "main"])=G1 at *
  have s2:=AG.new (o:=.lst [vS "main",vS "two"]) h2
  have o2:upd G1 l2 (.lst [vS "main",vS "two"]) l2=some (.lst [vS "main",vS "two"]):=AB
  have p2:=p1.same s2
  generalize upd G1 l2 (.lst [vS "main",vS "two"])=G2 at *
  have s3:=AG.new (o:=.lst [vS "two",vS "main",vS "a"]) h3
  have o3:upd G2 l3 (.lst [vS "two",vS "main",vS "a"]) l3=some (.lst [vS "two",vS "main",vS "a"]):=AB
  have p3:=p2.same s3
  generalize upd G2 l3 (.lst [vS "two",vS "main",vS "a"])=G3 at *
  have s4:=AG.new (o:=.lst [.ref l1,.ref l2,.ref l3]) hq
  have o4:upd G3 q (.lst [.ref l1,.ref l2,.ref l3]) q=some (.lst [.ref l1,.ref l2,.ref l3]):=AB
  have p4:=p3.same s4
  have n1:=hpen.ne h1
  have n2:=p1.ne h2
  have n3:=p2.ne h3
  have n4:=p3.ne hq
  generalize upd G3 q (.lst [.ref l1,.ref l2,.ref l3])=G4 at *
  refine⟨_,rfl,p,_,_,_,rfl,(by show(0:Int)<_;decide),Al (by decide) (by decide),p4,(by omega),fun r1 H1 a1 b1 pen1 kp1=>?_⟩
  have kk:=AG.keep (p:=p) (((s1.trans s2).trans s3).trans s4)
  have:r1=0∨r1=1∨r1=2:=by omega
  rcases this with rfl | rfl | rfl
  ·exact⟨q,_,_,_,rfl,rfl,Aq.of (kp1 _ _ n4 o4),rfl,k l1 [zS "main"] _ (kp1 _ _ n1 (s4 _ _ (s3 _ _ (s2 _ _ o1)))) L4 pen1 (kk.trans kp1)⟩
  ·exact⟨q,_,_,_,rfl,rfl,Aq.of (kp1 _ _ n4 o4),rfl,k l2 [zS "main",zS "two"] _ (kp1 _ _ n2 (s4 _ _ (s3 _ _ o2))) L5 pen1 (kk.trans kp1)⟩
  ·exact⟨q,_,_,_,rfl,rfl,Aq.of (kp1 _ _ n4 o4),rfl,k l3 [zS "two",zS "main",zS "a"] _ (kp1 _ _ n3 (s4 _ _ o3)) L6 pen1 (kk.trans kp1)⟩
theorem BU:Aa ["_law_sheets_here","_law_sheet","_law_leaf_here","_law_here","_law_low","_law_high"] ["_law_sheets_here","_law_sheet","_law_leaf_here"] (AL CK):=BW
theorem FI (T:Txt w K mg t):Ap P w K mg base Bj 1 t.cj t.ck ["_law_sheets_here","_law_sheet","_law_leaf_here"] O6:=by
 have D:=T.dw
 refine D.fn.okX BU ?_ (fun cdv A outer s H vs Q E hr h Z hZ=>?_)
 ·rintro _ _ _ _ ⟨sl,a,sh,zs,l,rfl,_⟩
  rfl
 ·obtain⟨sl,a,sh,zs,l,rfl,hsl,hl,hr0,k⟩:=h
  refine hZ ⟨_,((AF (Ah (AO At (Ab Ae (AI 2) AE (fun _ _=>rfl)) AJ (AR _)) (AH (AK (AU (AD AJ (AD AJ AC))))) AM)
   (AF (Ao (i:=3) BU.nd rfl (Or.inl rfl) (Ab Ae (AI 2) AE (fun _ _=>rfl)))
   (AF (Ah (AO DC (AI 3) B3 (AR _)) (AH (Ao (i:=3) BU.nd rfl (Or.inl rfl) (AI 1))) AM)
   (AF (Ah (AO Eg (AI 3) (AI 0) rfl) (AH (AK (AU (AD AJ (AD AJ AC))))) AM)
   (AF (Ah (AO At (Ab Ae (AI 2) AE (fun _ _=>rfl)) AJ (AR _)) (AH (AK (AU (AD AJ (AA (AI 3) (AY (Ab Ae (AI 2) AE (fun _ _=>rfl)) AC)))))) AM)
   (AF (Ah (AO At (Ab Ae (AI 2) AE (fun _ _=>rfl)) AJ (AR _)) (AH (AK (AU (AD AJ (AA (AI 3) (AY (Ab Ae (AI 2) AE (fun _ _=>rfl)) (AY (Ab Ae (AI 2) AE (fun _ _=>rfl)) AC))))))) AM)
   (AF (Fo (Ee KJ (AI 2) (Fi AE) Fh) (Hy rfl (Br (BG (i:=4) BU.nd rfl (Or.inl rfl)) (Br (BG (i:=5) BU.nd rfl (Or.inl rfl)) Fe))))
   (AH (AK (AU (AD AJ (AA (AI 3) (Ay (AU (AD AE (AY (Ab Ae (AI 4) AE (fun _ _=>rfl)) (AD Cs (AY (Ab Ae (AI 4) AE (fun _ _=>rfl)) AC))))) (Ay (AU (AD AE (AY (Ab Ae (AI 5) AE (fun _ _=>rfl)) (AD Cs (AY (Ab Ae (AI 5) AE (fun _ _=>rfl)) AC))))) AC))))))))))))))),?_⟩
  try dsimp only[BR,Aw]
  by_cases hg:l=.gone
  ·subst hg
   have ha:H a=some (.tup [vS "gone"]):=hl
   exact⟨_,rfl,a,_,_,_,rfl,rfl,Am.of ha,AV,rfl,true,(by nofun),Ax ⟨Ar,fun b hb=>k b _ AB (AG.new hb)⟩⟩
  obtain⟨w,s0,rs,ha,hw,hs0,hno⟩:∃(w:Str) (s0:Option Str) (rs:List V),H a=some (.tup (.str w::JQ s0::rs))∧w≠Str.ofString "gone"∧(match l with | .cell s _=>s0=s | .rng s _ _=>s0=s | .cols s _ _ _ _=>s0=s | _=>True)∧(EB sh s0∉zs→G8 sh zs l=.flt (zS "gone")):=by
   cases l with
   | cell s c=>obtain⟨q,ha,hq⟩:=hl;exact⟨_,s,_,ha,by nofun,rfl,fun n=>if_neg n⟩
   | rng s c d=>obtain⟨q,q2,ha,hq,hq2⟩:=hl;exact⟨_,s,_,ha,by nofun,rfl,fun n=>if_neg n⟩
   | cols s i x j y=>obtain⟨q,q2,ha,hq,hq2⟩:=hl;exact⟨_,s,_,ha,by nofun,rfl,fun n=>if_neg n⟩
   | val v=>cases hr0
   | gone=>exact absurd rfl hg
   | nam z=>cases hr0
   | par i=>cases hr0
   | flt z=>cases hr0
  refine⟨_,rfl,a,_,_,_,rfl,rfl,Am.of ha,AV,rfl,false,congrArg V.bl (decide_eq_false fun z=>hw (V.str.inj z)),Af ?_⟩
  refine⟨_,rfl,a,_,_,_,rfl,rfl,Am.of ha,El,?_⟩
  refine Em (fun σ' H'=>σ'=[some (.ref sl),some (.str sh),some (.ref a),some (JQ s0),none,none]∧H'=H) (fun N hN=>hN [some (.ref sl),some (.str sh),some (.ref a),some (JQ s0),none,none] H ⟨rfl,rfl⟩) (fun σ' H'0 hJ=>?_)
  obtain⟨rfl,rfl⟩:=hJ
  refine Em (fun σ' H'=>σ'=[some (.ref sl),some (.str sh),some (.ref a),some (.str (EB sh s0)),none,none]∧H'=H'0) (fun N hN=>?_) (fun σ' H' hJ=>?_)
  ·refine⟨_,rfl,rfl,?_⟩
   cases s0 with
   | none=>exact⟨true,rfl,Ax ⟨_,rfl,hN _ _ ⟨rfl,rfl⟩⟩⟩
   | some z=>exact⟨false,rfl,Af (hN _ _ ⟨rfl,rfl⟩)⟩
  obtain⟨rfl,rfl⟩:=hJ
  refine⟨_,rfl,_,rfl,sl,_,rfl,.inl (Aq.of hsl),rfl,(by simp[Au]),?_⟩
  rw[if_pos rfl,JU]
  by_cases hz:EB sh s0∈zs
  rotate_left
  ·rw[decide_eq_false hz]
   refine⟨true,rfl,Ax ⟨Ar,fun b hb=>k b _ ?_ (AG.new hb)⟩⟩
   rw[hno hz]
   exact AB
  rw[decide_eq_true hz]
  refine⟨false,rfl,Af ?_⟩
  clear ha hno hw w rs
  cases l with
  | cell s c0=>
   obtain⟨q,hA,hq⟩:=hl
   obtain rfl:s0=s:=hs0
   refine⟨_,rfl,a,_,_,_,rfl,rfl,Am.of hA,AV,rfl,true,(by nofun),Ax ?_⟩
   refine⟨_,rfl,_,rfl,a,_,_,_,rfl,rfl,Am.of hA,Hf,A2,fun b hb=>k b _ ?_ (AG.new hb)⟩
   rw[show G8 sh zs (.cell s0 c0)=.cell (some (EB sh s0)) c0 from if_pos hz]
   exact⟨q,AB,AG.new hb _ _ hq⟩
  | rng s c0 d0=>
   obtain⟨q,q2,hA,hq,hq2⟩:=hl
   obtain rfl:s0=s:=hs0
   refine⟨_,rfl,a,_,_,_,rfl,rfl,Am.of hA,AV,rfl,false,(by nofun),Af ?_⟩
   refine⟨_,rfl,a,_,_,_,rfl,rfl,Am.of hA,AV,rfl,true,(by nofun),Ax ?_⟩
   refine⟨_,rfl,_,rfl,a,_,_,_,rfl,rfl,Am.of hA,Hf,_,rfl,a,_,_,_,rfl,rfl,Am.of hA,Kw,(by show 4≤sizeLine;decide),fun b hb=>k b _ ?_ (AG.new hb)⟩
   rw[show G8 sh zs (.rng s0 c0 d0)=.rng (some (EB sh s0)) c0 d0 from if_pos hz]
   exact⟨q,q2,AB,AG.new hb _ _ hq,AG.new hb _ _ hq2⟩
  | cols s i x j y=>
   obtain⟨q,q2,hA,hq,hq2⟩:=hl
   obtain rfl:s0=s:=hs0
   refine⟨_,rfl,a,_,_,_,rfl,rfl,Am.of hA,AV,rfl,false,(by nofun),Af ?_⟩
   refine⟨_,rfl,a,_,_,_,rfl,rfl,Am.of hA,AV,rfl,false,(by nofun),Af ?_⟩
   refine⟨_,rfl,_,rfl,a,_,rfl,Am.of hA,(by simp[HT.Bq]),fun p2 hp2=>?_⟩
   have s2:=AG.new (o:=.tup [.ref q,.ref q2]) hp2
   have hq':=s2 _ _ hq
   have hq2':=s2 _ _ hq2
   refine⟨p2,_,rfl,Am.of AB,rfl,_,_,rfl,_,_,rfl,rfl,?_⟩
   refine⟨_,rfl,_,rfl,q,_,_,_,rfl,rfl,Am.of hq',AV,_,rfl,q,_,_,_,rfl,rfl,Am.of hq',El,(by show 4≤sizeLine;decide),fun t1 h1=>?_⟩
   have s3:=AG.new (o:=.tup [.int 1,.int i,.bl true,.bl x]) h1
   refine⟨_,rfl,q2,_,_,_,rfl,rfl,Am.of (s3 _ _ hq2'),AV,_,rfl,q2,_,_,_,rfl,rfl,Am.of (s3 _ _ hq2'),El,(by show 4≤sizeLine;decide),fun t2 h2=>?_⟩
   have s4:=AG.new (o:=.tup [.int 16,.int j,.bl true,.bl y]) h2
   refine⟨(by show 4≤sizeLine;decide),fun b hb=>k b _ ?_ (((s2.trans s3).trans s4).trans (AG.new hb))⟩
   rw[show G8 sh zs (.cols s0 i x j y)=.rng (some (EB sh s0)) ⟨1,i,true,x⟩ ⟨16,j,true,y⟩from if_pos hz]
   exact⟨t1,t2,AB,AG.new hb _ _ (s4 _ _ AB),AG.new hb _ _ AB⟩
  | val v=>cases hr0
  | gone=>exact absurd rfl hg
  | nam z=>cases hr0
  | par i=>cases hr0
  | flt z=>cases hr0
theorem DN:Aa ["_law_sheets_here","_law_sheet","_law_tree","_law_found","_law_part"] ["_law_sheets_here","_law_sheet","_law_tree"] (AL EW):=BW
theorem FT (T:Txt w K mg t):∀ n:Nat,Ap P w K mg base Bj (n+1) t.cl t.cm ["_law_sheets_here","_law_sheet","_law_tree"] (O8 n):=by
 have D:=T.dx
 intro m
 induction m with
 | zero=>exact⟨fun _ _ _ _ z=>z.elim,fun _ _ _ _ _ _ _ _ _ _ _ _ _ z=>z.elim⟩
 | succ m ih=>
  refine D.fn.okX DN ?_ (fun cdv A outer s H vs Q E hr h Z hZ=>?_)
  ·rintro _ _ _ _ ⟨sl,v,sh,zs,f,rfl,_⟩
   rfl
  ·obtain⟨sl,v,sh,zs,f,rfl,hsl,hv,fo,k⟩:=h
   refine hZ ⟨_,((AF (Ah (AO At (Ab Ae (AI 2) AE (fun _ _=>rfl)) AJ (AR _)) (AH (AK (AI 2))) AM)
   (AF (Ah (AO GO (Ab Ae (AI 2) AE (fun _ _=>rfl)) (AU (AD AJ (AD AJ AC))) rfl) (AH (AK (AU (AD AJ (AD AJ AC))))) AM)
   (AF (Ah (AO GO (Ab Ae (AI 2) AE (fun _ _=>rfl)) (AU (AD AJ (AD AJ (AD AJ (AD AJ AC))))) rfl) (AH (AK (AW T.dw (FI T) (hr.mono (by omega)) (AA (AI 0) (AA (AI 1) (AA (AI 2) AC)))))) AM)
   (AF (Ao (i:=3) DN.nd rfl (Or.inl rfl) (A5 AC))
   (AF (DV PassesOwn.never rfl (GX (AI 2)) (BG (i:=4) DN.nd rfl (Or.inl rfl))
   (AF (Ah (BB (AQ Ai (by rfl) T.d1 AS (AA (AI 4) (AA (BC T.d5 A8) AC)))) (AH (Ao (i:=4) DN.nd rfl (Or.inl rfl) (AW T.dx ih (hr.mono (by omega)) (AA (AI 0) (AA (AI 1) (AA (AI 4) AC)))))) AM)
   (AH (Fd (JF PySem.F.plainAttrs_list PySem.F.slot_list_append PySem.F.type_list_append Cv (AI 3) (AA (AI 4) AC))))))
   (AH (AK (Bp Bh (by rfl) T.d5 A8 (AA (AI 3) AC)))))))))),?_⟩
   try dsimp only[BR,Aw]
   have cs:(∃ a l,v=.ref a∧f=.lf l∧CD H a l∧E8 0 l∧∀ z,l≠.flt z)∨(∃ a k ps us t,v=.ref a∧f=.nd k ps∧BN k=true∧H a=some (.tup (Ce t k us)))∨(∃ a,v=.ref a∧L7 sh zs m f H a):=by
    cases hv with
    | @lf a l hl=>
     cases fo with
     | lf ok=>
      by_cases c:∃ z,l=.flt z
      ·obtain⟨z,rfl⟩:=c
       exact .inr (.inr ⟨a,rfl,MA hl⟩)
      ·exact .inl ⟨a,l,rfl,rfl,hl,ok,fun z e=>c ⟨z,e⟩⟩
    | @nd a t kd us ps ha ht hl hh=>
     cases fo with
     | nd ok hps=>
      by_cases c:BN kd=true
      ·exact .inr (.inl ⟨a,kd,ps,us,t,rfl,rfl,c,ha⟩)
      ·exact .inr (.inr ⟨a,rfl,L9 ha ok (by simpa using c) (Az.parts hl hh) hps⟩)
   rcases cs with⟨a,l,rfl,rfl,hl,ok,nf⟩ | ⟨a,kd,ps,us,t,rfl,rfl,c,ha⟩ | ⟨a,rfl,w,its,sps,ha,hw,pr,h13,hfo,fin⟩
   ·cases l with
    | val v=>
     obtain⟨q,ha,hq⟩:=id hl
     exact⟨_,rfl,a,_,_,_,rfl,rfl,Am.of ha,AV,rfl,true,(by nofun),Ax ⟨_,rfl,k _ H hv (AG.refl _)⟩⟩
    | nam z=>
     have ha:H a=some (.tup [vS "name",.str z]):=hl
     refine⟨_,rfl,a,_,_,_,rfl,rfl,Am.of ha,AV,rfl,false,(by nofun),Af ?_⟩
     refine⟨_,rfl,a,_,_,_,rfl,rfl,Am.of ha,AV,Ar,fun p0 hp0=>⟨p0,_,rfl,.inr (Am.of AB),rfl,(by simp[Au]),true,(by nofun),Ax ?_⟩⟩
     exact⟨Ar,fun b hb=>k _ _ (.lf (show upd _ b _ b=_ from AB)) ((AG.new hp0).trans (AG.new hb))⟩
    | gone=>
     have ha:H a=some (.tup [vS "gone"]):=hl
     refine⟨_,rfl,a,_,_,_,rfl,rfl,Am.of ha,AV,rfl,false,(by nofun),Af ?_⟩
     refine⟨_,rfl,a,_,_,_,rfl,rfl,Am.of ha,AV,Ar,fun p0 hp0=>⟨p0,_,rfl,.inr (Am.of AB),rfl,(by simp[Au]),false,(by nofun),Af ?_⟩⟩
     have s1:=AG.new (o:=.tup [vS "name",vS "own"]) hp0
     refine⟨_,rfl,a,_,_,_,rfl,rfl,Am.of (s1 _ _ ha),AV,(by show 4≤sizeLine;decide),fun p1 hp1=>⟨p1,_,rfl,.inr (Am.of AB),rfl,(by simp[Au]),true,(by nofun),Ax ?_⟩⟩
     have s2:=s1.trans (AG.new (o:=.tup [vS "gone",vS "cell",vS "range",vS "columns"]) hp1)
     exact⟨_,rfl,_,rfl,_,rfl,sl,a,sh,zs,_,rfl,s2 _ _ hsl,CD.kp hl (Kp.same s2),rfl,fun b H3 hb s3=>k _ H3 (.lf hb) (s2.trans s3)⟩
    | cell s0 c0=>
     obtain⟨q,ha,hq⟩:=id hl
     refine⟨_,rfl,a,_,_,_,rfl,rfl,Am.of ha,AV,rfl,false,(by nofun),Af ?_⟩
     refine⟨_,rfl,a,_,_,_,rfl,rfl,Am.of ha,AV,Ar,fun p0 hp0=>⟨p0,_,rfl,.inr (Am.of AB),rfl,(by simp[Au]),false,(by nofun),Af ?_⟩⟩
     have s1:=AG.new (o:=.tup [vS "name",vS "own"]) hp0
     refine⟨_,rfl,a,_,_,_,rfl,rfl,Am.of (s1 _ _ ha),AV,(by show 4≤sizeLine;decide),fun p1 hp1=>⟨p1,_,rfl,.inr (Am.of AB),rfl,(by simp[Au]),true,(by nofun),Ax ?_⟩⟩
     have s2:=s1.trans (AG.new (o:=.tup [vS "gone",vS "cell",vS "range",vS "columns"]) hp1)
     exact⟨_,rfl,_,rfl,_,rfl,sl,a,sh,zs,_,rfl,s2 _ _ hsl,CD.kp hl (Kp.same s2),rfl,fun b H3 hb s3=>k _ H3 (.lf hb) (s2.trans s3)⟩
    | rng s0 c0 d0=>
     obtain⟨q,q2,ha,hq,hq2⟩:=id hl
     refine⟨_,rfl,a,_,_,_,rfl,rfl,Am.of ha,AV,rfl,false,(by nofun),Af ?_⟩
     refine⟨_,rfl,a,_,_,_,rfl,rfl,Am.of ha,AV,Ar,fun p0 hp0=>⟨p0,_,rfl,.inr (Am.of AB),rfl,(by simp[Au]),false,(by nofun),Af ?_⟩⟩
     have s1:=AG.new (o:=.tup [vS "name",vS "own"]) hp0
     refine⟨_,rfl,a,_,_,_,rfl,rfl,Am.of (s1 _ _ ha),AV,(by show 4≤sizeLine;decide),fun p1 hp1=>⟨p1,_,rfl,.inr (Am.of AB),rfl,(by simp[Au]),true,(by nofun),Ax ?_⟩⟩
     have s2:=s1.trans (AG.new (o:=.tup [vS "gone",vS "cell",vS "range",vS "columns"]) hp1)
     exact⟨_,rfl,_,rfl,_,rfl,sl,a,sh,zs,_,rfl,s2 _ _ hsl,CD.kp hl (Kp.same s2),rfl,fun b H3 hb s3=>k _ H3 (.lf hb) (s2.trans s3)⟩
    | cols s0 i x j y=>
     obtain⟨q,q2,ha,hq,hq2⟩:=id hl
     refine⟨_,rfl,a,_,_,_,rfl,rfl,Am.of ha,AV,rfl,false,(by nofun),Af ?_⟩
     refine⟨_,rfl,a,_,_,_,rfl,rfl,Am.of ha,AV,Ar,fun p0 hp0=>⟨p0,_,rfl,.inr (Am.of AB),rfl,(by simp[Au]),false,(by nofun),Af ?_⟩⟩
     have s1:=AG.new (o:=.tup [vS "name",vS "own"]) hp0
     refine⟨_,rfl,a,_,_,_,rfl,rfl,Am.of (s1 _ _ ha),AV,(by show 4≤sizeLine;decide),fun p1 hp1=>⟨p1,_,rfl,.inr (Am.of AB),rfl,(by simp[Au]),true,(by nofun),Ax ?_⟩⟩
     have s2:=s1.trans (AG.new (o:=.tup [vS "gone",vS "cell",vS "range",vS "columns"]) hp1)
     exact⟨_,rfl,_,rfl,_,rfl,sl,a,sh,zs,_,rfl,s2 _ _ hsl,CD.kp hl (Kp.same s2),rfl,fun b H3 hb s3=>k _ H3 (.lf hb) (s2.trans s3)⟩
    | par i=>exact absurd ok.2 (by have:=ok.1;omega)
    | flt z=>exact absurd rfl (nf z)
   ·cases kd with
    | own z=>
     refine⟨_,rfl,a,_,_,_,rfl,rfl,Am.of ha,AV,rfl,false,(by nofun),Af ?_⟩
     refine⟨_,rfl,a,_,_,_,rfl,rfl,Am.of ha,AV,Ar,fun p0 hp0=>⟨p0,_,rfl,.inr (Am.of AB),rfl,(by simp[Au]),true,(by nofun),Ax ?_⟩⟩
     refine⟨Ar,fun b hb=>k _ _ ?_ ((AG.new hp0).trans (AG.new hb))⟩
     rw[Gp,if_pos c]
     exact .lf (show upd _ b _ b=_ from AB)
    | op z=>cases c
    | neg=>cases c
    | sumif z=>cases c
    | grid i j=>cases c
    | wd z=>cases c
   obtain⟨w1,w2,w3⟩:=O9 hw
   have hlen:(.str w::its:List V).length=sps.length:=Paired.length pr
   refine⟨_,rfl,a,_,_,_,rfl,rfl,Am.of ha,AV,rfl,false,congrArg V.bl (decide_eq_false fun z=>w1 (V.str.inj z)),Af ?_⟩
   refine⟨_,rfl,a,_,_,_,rfl,rfl,Am.of ha,AV,Ar,fun p0 hp0=>⟨p0,_,rfl,.inr (Am.of AB),rfl,(by simp[Au]),false,congrArg V.bl w2,Af ?_⟩⟩
   have s1:=AG.new (o:=.tup [vS "name",vS "own"]) hp0
   refine⟨_,rfl,a,_,_,_,rfl,rfl,Am.of (s1 _ _ ha),AV,(by show 4≤sizeLine;decide),fun p1 hp1=>⟨p1,_,rfl,.inr (Am.of AB),rfl,(by simp[Au]),false,congrArg V.bl w3,Af ?_⟩⟩
   have s2:=s1.trans (AG.new (o:=.tup [vS "gone",vS "cell",vS "range",vS "columns"]) hp1)
   refine⟨Nat.zero_le _,fun lg hg=>?_⟩
   have s3:=s2.trans (AG.new (o:=.lst []) hg)
   have ng:H lg=none:=AG.back0 s2 hg
   refine⟨_,rfl,a,rfl,⟨_,Am.of (s3 _ _ ha)⟩,?_⟩
   refine GY (xs:=.str w::its) (fun i σ H5=>∃(ms:List V) (x4:Option V),σ=[some (.ref sl),some (.str sh),some (.ref a),some (.ref lg),x4]∧H5 lg=some (.lst ms)∧Paired (Ca H5) ms ((sps.take i).map (ID sh zs))∧AG H H5)
    ⟨[],none,rfl,AB,.nil,s3⟩ ?_ ?_ ?_
   ·rintro i σ H5 _ ⟨_,_,rfl,_,_,s⟩
    exact Am.of (s _ _ ha)
   ·rintro i x σ H5 hx ⟨ms,x4,rfl,hg5,pm,s5⟩
    have hi:i<(.str w::its:List V).length:=(List.getElem?_eq_some_iff.mp hx).1
    have lm:ms.length≤13:=by
     rw[Paired.length pm,List.length_map,List.length_take];omega
    obtain⟨s0,hs0,it⟩:=B6 pr hx
    have done:∀(y:V) (H6:Hp),H6 lg=some (.lst ms)→AG H5 H6→Ca H6 y (ID sh zs s0)→Paired (Ca (upd H6 lg (.lst (ms++[y])))) (ms++[y]) ((sps.take (i+1)).map (ID sh zs))∧AG H (upd H6 lg (.lst (ms++[y]))):=fun y H6 h6 s6 iy=>by
     have q9:Kp H6 (upd H6 lg (.lst (ms++[y]))):=Kp.lst h6 Ac.upd
     refine⟨?_,fun b o e=>?_⟩
     ·rw[List.take_add_one,hs0,List.map_append]
      exact JY (Gw q9 (Gw (Kp.same s6) pm)) (.cons (Ca.kp iy q9) .nil)
     ·rw[AT (AX e ng)]
      exact s6 _ _ (s5 _ _ e)
    cases s0 with
    | inl v0=>
     obtain⟨rfl,fl⟩:=it
     have d:=done x H5 hg5 (AG.refl _) ⟨rfl,fl⟩
     have fi:∀{N:Prop},N→N:=fun h=>h
     cases x with
     | non=>
      refine⟨_,rfl,_,_,_,_,false,rfl,.non,rfl,(fun _=>.inr trivial),T.eq,false,rfl,Af ?_⟩
      refine⟨_,rfl,.inl ⟨rfl,_,Aq.of hg5⟩,_,rfl,lg,ms,_,rfl,rfl,hg5,Ek (by omega),?_⟩
      exact⟨ms++[_],_,rfl,AB,d.1,d.2⟩
     | bl b0=>
      refine⟨_,rfl,_,_,_,_,false,rfl,.bl _,rfl,(fun _=>.inr trivial),T.er,false,rfl,Af ?_⟩
      refine⟨_,rfl,.inl ⟨rfl,_,Aq.of hg5⟩,_,rfl,lg,ms,_,rfl,rfl,hg5,Ek (by omega),?_⟩
      exact⟨ms++[_],_,rfl,AB,d.1,d.2⟩
     | str z=>
      refine⟨_,rfl,_,_,_,_,false,rfl,.str _,rfl,(fun _=>.inr trivial),T.en,false,rfl,Af ?_⟩
      refine⟨_,rfl,.inl ⟨rfl,_,Aq.of hg5⟩,_,rfl,lg,ms,_,rfl,rfl,hg5,Ek (by omega),?_⟩
      exact⟨ms++[_],_,rfl,AB,d.1,d.2⟩
     | int z=>
      refine⟨_,rfl,_,_,_,_,false,rfl,.int _,rfl,(fun _=>.inr trivial),T.eo,false,rfl,Af ?_⟩
      refine⟨_,rfl,.inl ⟨rfl,_,Aq.of hg5⟩,_,rfl,lg,ms,_,rfl,rfl,hg5,Ek (by omega),?_⟩
      exact⟨ms++[_],_,rfl,AB,d.1,d.2⟩
     | byt b=>cases fl
     | flt b=>cases fl
     | ref b=>cases fl
     | ty b=>cases fl
    | inr g=>
     obtain⟨m',rfl,fog⟩:=hfo g (List.mem_of_getElem? hs0)
     have fm5:Az H5 x g:=Az.kp it (Kp.same s5)
     obtain⟨b,ys,rfl,hb⟩:=fm5.tup
     refine⟨_,rfl,_,_,_,_,true,rfl,.tup hb,rfl,(fun _=>.inr trivial),Bm _ _,true,rfl,Ax ?_⟩
     refine⟨_,rfl,_,rfl,_,rfl,sl,.ref b,sh,zs,g,rfl,s5 _ _ hsl,fm5,fog,fun y H6 hy s6=>?_⟩
     have h6:=s6 _ _ hg5
     have d:=done y H6 h6 s6 hy
     refine⟨_,rfl,.inl ⟨rfl,_,Aq.of h6⟩,_,rfl,lg,ms,_,rfl,rfl,h6,Ek (by omega),?_⟩
     exact⟨ms++[y],_,rfl,AB,d.1,d.2⟩
   ·rintro σ H5 ⟨ms,x4,rfl,hg5,pm,s5⟩
    rw[hlen,List.take_length]at pm
    refine⟨_,rfl,lg,ms,rfl,.inl ⟨Aq.of hg5,fun b hb=>?_⟩⟩
    exact k _ _ (fin b ms _ AB (Gw (Kp.new0 hb) pm)) (s5.trans (AG.new hb))
theorem FU:Aa ["_law_script","_law_pen_here","_law_sheets_here","_law_book","_law_k","_law_formula_here","_law_sheet","_law_due_here"] ["_law_script"] (AL LD):=BW
theorem NO (T:Txt w K mg t)(hC:∀ q∈[(t.c8,t.cr)],PySem.W.CodeHd base q.1 q.2)(hB:BM mg base):Ap P w K mg base Bj 60 t.cn t.co ["_law_script"] (K0 K t.cr):=by
 have D:=T.dy
 refine D.fn.okX FU ?_ (fun cdv A outer s H vs Q E hr h Z hZ=>?_)
 ·rintro _ _ _ _ ⟨a,ns,rfl,_⟩
  rfl
 ·obtain⟨a,ns,rfl,hS,hlen,hP,k⟩:=h
  have hC1:PySem.W.CodeHd base t.c8 t.cr:=hC (t.c8,t.cr) (by simp)
  refine hZ ⟨_,((AF (Ao (i:=1) FU.nd rfl (Or.inl rfl) (AW T.cu (Hm T) (Bz hr) (AA (AI 0) AC)))
   (AF (Ao (i:=2) FU.nd rfl (Or.inl rfl) (AW T.dv (F5 T) (Bz hr) (AA (AI 1) AC)))
   (AF (Ao (i:=3) FU.nd rfl (Or.inl rfl) (AW T.c9 (Iu T hC1 hB) (hr.mono (by omega)) (AA (AI 2) (Cw (A5 AC) (Cw (A5 AC) (Cw (A5 AC) (AD AE AC)))))))
   (AF (DV PassesOwn.never rfl (Je rfl T.d0 (CC (Av Bt AE (AW T.cv (AN T) (Bz hr) (AA (AI 1) (AD AE AC)))) AC)) (BG (i:=4) FU.nd rfl (Or.inl rfl))
   (AF (Ao (i:=5) FU.nd rfl (Or.inl rfl) (AW T.dt (Fb T 3) (hr.mono (by omega)) (AA (AI 1) (AA (AI 2) (AD Cs (AD AE (AD AE AC)))))))
   (AF (DV PassesOwn.never rfl (Ch (AI 2)) (BG (i:=6) FU.nd rfl (Or.inl rfl))
   (AF (Ao (i:=7) FU.nd rfl (Or.inl rfl) (AW T.dx (FT T 5) (hr.mono (by omega)) (AA (AI 2) (AA (AI 6) (AA (AI 5) AC)))))
   (AH (Ah (Bl (BB (AW T.du (EK T 8) (hr.mono (by omega)) (BH (AW T.dl (F3 T) (Bz hr) (AA (AI 3) (AA (AI 6) (AA (AI 5) AC)))) (AA (AI 7) AC))))) (AH (AK Cs)) AM))))
   (AH (Ah (Bl (BB (AW T.du (EK T 8) (hr.mono (by omega)) (BH (AW T.dl (F3 T) (Bz hr) (AA (AI 3) (AY (Ab A6 (AI 2) AE (fun _ _=>rfl)) (AA (AI 5) AC)))) (BH (AW T.dx (FT T 5) (hr.mono (by omega)) (AA (AI 2) (AY (Ab A6 (AI 2) AE (fun _ _=>rfl)) (AA (AI 5) AC)))) AC))))) (AH (AK Cs)) AM)))))
   (AH (AK Cs))))))),?_⟩
  try dsimp only[BR,Aw]
  refine⟨_,rfl,a,ns,rfl,hS,hlen,fun p H0 hp pen0 s0=>?_⟩
  have nP:t.cr≠p:=AX hP hp
  refine⟨_,rfl,p,_,_,rfl,pen0,(by omega),fun sl zs H1 hsl ok pen1 kp1=>?_⟩
  have hP1:=kp1 _ _ nP (s0 _ _ hP)
  refine⟨_,rfl,Nat.zero_le _,fun l1 h1=>⟨Nat.zero_le _,fun l2 h2=>⟨Nat.zero_le _,fun l3 h3=>?_⟩⟩⟩
  have s1:=AG.new (o:=.lst []) h1
  have o1:upd H1 l1 (.lst []) l1=some (.lst []):=AB
  have hsl2:=s1 _ _ hsl
  have pen2:=pen1.same s1
  have hP2:=s1 _ _ hP1
  generalize upd H1 l1 (.lst [])=G1 at *
  have s2:=AG.new (o:=.lst []) h2
  have o2:upd G1 l2 (.lst []) l2=some (.lst []):=AB
  have hsl3:=s2 _ _ hsl2
  have pen3:=pen2.same s2
  have hP3:=s2 _ _ hP2
  have o1':=s2 _ _ o1
  generalize upd G1 l2 (.lst [])=G2 at *
  have s3:=AG.new (o:=.lst []) h3
  have o3:upd G2 l3 (.lst []) l3=some (.lst []):=AB
  have hsl4:=s3 _ _ hsl3
  have pen4:=pen3.same s3
  have hP4:=s3 _ _ hP3
  have o1'':=s3 _ _ o1'
  have o2':=s3 _ _ o2
  generalize upd G2 l3 (.lst [])=G3 at *
  refine⟨sl,l1,l2,l3,zs,rfl,hsl4,o1'',o2',o3,ok,DO.nil hP4,fun b H2 bk kx=>?_⟩
  have nsl:sl≠t.cr:=CL hsl4 hP4 (by intro z;cases z)
  have hsl5:=kx _ _ nsl hsl4
  have pen5:=pen4.tb hP4 kx
  refine⟨_,rfl,p,_,_,_,rfl,(by show(0:Int)<_;decide),Al (by decide) (by decide),pen5,(by omega),fun r6 H6 a6 b6 pen6 kp6=>⟨_,_,rfl,rfl,_,rfl,(by omega),(by omega),?_⟩⟩
  have nsp:=Hi pen5 hsl5 ok
  have hsl6:=kp6 _ _ nsp hsl5
  have bk6:=bk.kp (pen5.kp kp6)
  have u3:uB 3=252:=rfl
  have b3:sB 3=22:=rfl
  have hz:=ok.2.2.2
  refine Jg (n:=(1+r6).toNat) (fun i σ H7=>∃(x4 x5 x6 x7:Option V),σ=[some (.ref a),some (.ref p),some (.ref sl),some (.ref b),x4,x5,x6,x7]∧H7 sl=some (.lst (zs.map V.str))∧FR H7 b zs∧BP K (a,ns) H7 p (2+252*i))
   ⟨none,none,none,none,rfl,hsl6,bk6,pen6⟩ ?_ ?_
  ·rintro i σ H7 hi ⟨x4,x5,x6,x7,rfl,hsl7,bk7,pen7⟩
   have hi8:i<8:=by omega
   refine⟨_,rfl,_,rfl,p,sl,zs,_,_,rfl,by decide,pen7,(by omega),hsl7,ok,fun v f H8 hv fo sz pen8 kp8=>?_⟩
   have hsl8:=kp8 _ _ nsp hsl7
   have bk8:=bk7.kp (pen7.kp kp8)
   have al:∀(sh:Str) (H9:Hp) (x y:V),Az H9 x (Gp sh zs f)→Az H9 y (Gp sh zs f)→Ak H9 8 x y:=fun sh H9 x y hx hy=>(MW hz f 4 fo).ak hx hy
   refine⟨_,rfl,sl,rfl,⟨_,Aq.of hsl8⟩,?_⟩
   refine Fp (xs:=zs.map V.str) (fun i σ H9=>∃(x6 x7:Option V),σ=[some (.ref a),some (.ref p),some (.ref sl),some (.ref b),_,some v,x6,x7]∧AG H8 H9) ⟨_,_,rfl,AG.refl _⟩ (fun i σ H9 _ ⟨_,_,_,s9⟩=>Aq.of (s9 _ _ hsl8)) ?_ ?_
   ·rintro j x σ H9 hx ⟨x6,x7,rfl,s9⟩
    obtain⟨sh,hsh,rfl⟩:=List.mem_map.mp (List.mem_of_getElem? hx)
    refine⟨_,rfl,_,rfl,_,rfl,sl,v,sh,zs,f,rfl,s9 _ _ hsl8,hv.kp (Kp.same s9),fo,fun y HA hy sA=>?_⟩
    have sA8:=s9.trans sA
    refine⟨_,rfl,_,rfl,_,rfl,b,v,sh,zs,f,rfl,bk8.kp (Kp.same sA8),hz,hz _ hsh,hv.kp (Kp.same sA8),fo.mono (by decide),(by omega),fun x HB hx sB=>?_⟩
    refine⟨_,rfl,x,y,rfl,al sh HB x y hx (hy.kp (Kp.same sB)),fun HC sC=>?_⟩
    exact⟨true,rfl,Af ⟨_,_,rfl,(sA8.trans sB).trans sC⟩⟩
   ·rintro σ H9 ⟨x6,x7,rfl,s9⟩
    obtain⟨z0,zr,ez⟩:∃ z0 zr,zs=z0::zr:=by
     have:=ok.1
     cases zs with
     | nil=>cases this
     | cons z0 zr=>exact⟨z0,zr,rfl⟩
    have hm:z0∈zs:=by rw[ez];exact List.mem_cons_self ..
    have at0:∀ HX:Hp,AG H8 HX→Aq K HX sl (.str z0::zr.map V.str):=fun HX sX=>by
     have:=sX _ _ hsl8
     rw[ez]at this
     exact Aq.of this
    refine⟨_,rfl,_,rfl,sl,_,_,_,rfl,rfl,at0 _ s9,AV,_,rfl,?_⟩
    refine⟨b,v,z0,zs,f,rfl,bk8.kp (Kp.same s9),hz,hz _ hm,hv.kp (Kp.same s9),fo.mono (by decide),(by omega),fun x HA hx sA=>?_⟩
    have sA8:=s9.trans sA
    refine⟨_,rfl,_,rfl,sl,_,_,_,rfl,rfl,at0 _ sA8,AV,_,rfl,?_⟩
    refine⟨sl,v,z0,zs,f,rfl,sA8 _ _ hsl8,hv.kp (Kp.same sA8),fo,fun y HB hy sB=>?_⟩
    refine⟨x,y,rfl,al z0 HB x y (hx.kp (Kp.same sB)) hy,fun HC sC=>?_⟩
    have sC8:=(sA8.trans sB).trans sC
    exact⟨true,rfl,Af ⟨_,_,_,_,rfl,sC8 _ _ hsl8,bk8.kp (Kp.same sC8),(pen8.same sC8).mono (by omega)⟩⟩
  ·rintro σ H7 ⟨x4,x5,x6,x7,rfl,_⟩
   exact k H7
end
def G6:Nat→(List Value→Prop)→Prop
 | 0,p=>p []
 | n+1,p=>∀ a,G6 n fun us=>p (a::us)
theorem G6.of:∀(n:Nat) {p:List Value→Prop},G6 n p→∀ us,us.length=n→p us
 | 0,_,h,us,e=>by
  obtain rfl:=List.length_eq_zero_iff.mp e
  exact h
 | n+1,_,h,us,e=>by
  cases us with
  | nil=>cases e
  | cons a r=>exact G6.of n (h a) r (Nat.succ.inj e)
def Ck (K:PySem.W.Frag)(n:Str)(s:Stmt):Prop:=∃(f:Addr) (od an:Option Addr) (sl:Array (Option Value)) (oc kV dc pm cd ct:Value),PySem.W.nsIn K mainGlobals n=some (some (.ref f))∧K.lookup f=some ⟨oc,od,.func (PySem.W.fnOf n n (CB s) (BY s) (AL s) .none kV dc pm an cd ct),sl⟩∧PySem.W.codeIn K cd n=true∧PySem.W.keepIn K (.ref f)=true
theorem PD {K:PySem.W.Frag}{n:Str}{s:Stmt}{f:Addr}{od an:Option Addr}{sl:Array (Option Value)}{oc kV dc pm cd ct:Value}(a:PySem.W.nsIn K mainGlobals n=some (some (.ref f)))(l:K.lookup f=some ⟨oc,od,.func (PySem.W.fnOf n n (CB s) (BY s) (AL s) .none kV dc pm an cd ct),sl⟩)(c:PySem.W.codeIn K cd n=true)(k:PySem.W.keepIn K (.ref f)=true):Ck K n s:=⟨_,_,_,_,_,_,_,_,_,_,a,l,c,k⟩
theorem A1 {K:PySem.W.Frag}{h:Heap}{mg:Str→Option Value}{n:Str}{s:Stmt}(X:K.In h)(G:h.Ns mainGlobals mg)(C:Ck K n s)(ps:List Str)
 (b:∀(kV doc pm:Value) (an:Option Addr) (cdv ct:Value),G6 ps.length fun us=>bindArgs (PySem.W.fnOf n n (CB s) (BY s) (AL s) .none kV doc pm an cdv ct) ⟨us,[]⟩=pure (ps.zip us)):
 ∃ f fd,Df K mg n s ps f fd∧(∀ us,us.length=ps.length→bindArgs fd ⟨us,[]⟩=pure (ps.zip us))∧∀ c T,PySem.W.tabIn K n=some (c,T)→fd.code=.ref c:=by
 obtain⟨f,od,an,sl,oc,kV,dc,pm,cd,ct,ha,hl,hc,hk⟩:=C
 have F:=KP (st:=s) hl hc hk
 exact⟨f,_,⟨F,PySem.W.mg_of X G ha,F.binds fun _ _ _ _ _ _ us hl=>G6.of _ (b _ _ _ _ _ _) us hl⟩,G6.of _ (b _ _ _ _ _ _),fun c T ht=>Ld F ha ht⟩
def LG (K:PySem.W.Frag)(C:Addr)(n q:Str)(s:Stmt):Prop:=∃(f:Addr) (od an:Option Addr) (sl:Array (Option Value)) (oc kV dc pm cd ct:Value),PySem.W.findIn K (.ref C) n=some (some (.ref f))∧PySem.W.isFn K (.ref f)=true∧K.lookup f=some ⟨oc,od,.func (PySem.W.fnOf n q (CB s) (BY s) (AL s) .none kV dc pm an cd ct),sl⟩∧PySem.W.codeIn K cd q=true∧PySem.W.keepIn K (.ref f)=true
theorem NP {K:PySem.W.Frag}{C:Addr}{n q:Str}{s:Stmt}{f:Addr}{od an:Option Addr}{sl:Array (Option Value)}{oc kV dc pm cd ct:Value}(a:PySem.W.findIn K (.ref C) n=some (some (.ref f)))(i:PySem.W.isFn K (.ref f)=true)(l:K.lookup f=some ⟨oc,od,.func (PySem.W.fnOf n q (CB s) (BY s) (AL s) .none kV dc pm an cd ct),sl⟩)(c:PySem.W.codeIn K cd q=true)(k:PySem.W.keepIn K (.ref f)=true):LG K C n q s:=⟨_,_,_,_,_,_,_,_,_,_,a,i,l,c,k⟩
theorem Dz {K:PySem.W.Frag}{C:Addr}{n q:Str}{s:Stmt}(M:LG K C n q s)(ps:List Str)
 (b:∀(kV doc pm:Value) (an:Option Addr) (cdv ct:Value),G6 ps.length fun us=>bindArgs (PySem.W.fnOf n q (CB s) (BY s) (AL s) .none kV doc pm an cdv ct) ⟨us,[]⟩=pure (ps.zip us)):
 ∃ f fd,Dq K n q s ps f fd∧PySem.W.findIn K (.ref C) n=some (some (.ref f))∧PySem.W.isFn K (.ref f)=true∧PySem.W.keepIn K (.ref f)=true:=by
 obtain⟨f,od,an,sl,oc,kV,dc,pm,cd,ct,ha,hi,hl,hc,hk⟩:=M
 have F:=KP (st:=s) hl hc hk
 exact⟨f,_,⟨F,F.binds fun _ _ _ _ _ _ us hl=>G6.of _ (b _ _ _ _ _ _) us hl⟩,ha,hi,hk⟩
theorem NQ {l:PySem.W.OpenLaw}{w:World}{K:PySem.W.Frag}{h:Heap}{q:Program}{loose:List Str}{mean:ExcName→Option Value}{mg mb:Str→Option Value}{fa:Addr}(X:K.In h)(T0:PyProof.Rows.Top q loose mean mg mb h)(hfa:mg "law"=some (.ref fa))
 {w_PART_PLACES:Addr} {o_PART_PLACES:Obj} {u_LETTERS:Value} {u_LONGEST_NAME:Value} {u_LAST_ROW:Value} {u_MOST_OPENED:Value} {u_MOST_SHEETS:Value} {u_MOST_CELLS:Value} {u_MOST_NAMES:Value} {u_MOST_OWNS:Value} {u_MOST_ROUNDS:Value} {e_Opener:Addr}  {cc_sorted_by_first pp_sorted_by_first:Addr}
 (C0:Ck K "parts_of" ER)
 (C1:Ck K "with_parts" DG)
 (C2:Ck K "_law_pen" ES)
 (C3:Ck K "_law_next" Dm)
 (C4:Ck K "is_whole" ET)
 (C5:Ck K "is_sheet_name" CF)
 (C6:Ck K "is_cell_pair" Do)
 (C7:Ck K "is_name_pair" Dp)
 (C8:Ck K "is_own" Hl)
 (C9:Ck K "is_row" F2)
 (C10:Ck K "is_up_to" EU)
 (C11:Ck K "are_sheets" DH)
 (C12:Ck K "has_each_once" CG)
 (C13:Ck K "are_cells" Dr)
 (C14:Ck K "are_names" Ds)
 (C15:Ck K "are_owns" EV)
 (C16:Ck K "sorted_by_first" Bv)
 (C17:Ck K "book_of" FC)
 (C20:Ck K "things_called" CH)
 (C21:Ck K "range_of_columns" Bn)
 (C27:Ck K "told_by_parts" CJ)
 (C29:Ck K "open_up" FD)
 (C30:Ck K "_law_plain" DI)
 (C31:Ck K "_law_corner" Co)
 (C32:Ck K "_law_sheet_told" By)
 (C33:Ck K "_law_place" DJ)
 (C34:Ck K "_law_leaf" Dt)
 (C35:Ck K "_law_many" Du)
 (C36:Ck K "_law_formula" Cf)
 (C37:Ck K "_law_alike" DK)
 (C38:Ck K "_law_sheets" Cp)
 (C39:Ck K "_law_due_leaf" CK)
 (C40:Ck K "_law_due" EW)
 (C41:Ck K "law" LD)
 (z_len:PySem.W.nsIn K mainGlobals "len"=some none)
 (z_range:PySem.W.nsIn K mainGlobals "range"=some none)
 (z_isinstance:PySem.W.nsIn K mainGlobals "isinstance"=some none)
 (z_int:PySem.W.nsIn K mainGlobals "int"=some none)
 (z_bool:PySem.W.nsIn K mainGlobals "bool"=some none)
 (z_str:PySem.W.nsIn K mainGlobals "str"=some none)
 (z_tuple:PySem.W.nsIn K mainGlobals "tuple"=some none)
 (z_list:PySem.W.nsIn K mainGlobals "list"=some none)
 (z_all:PySem.W.nsIn K mainGlobals "all"=some none)
 (z_zip:PySem.W.nsIn K mainGlobals "zip"=some none)
 (z_min:PySem.W.nsIn K mainGlobals "min"=some none)
 (z_sorted:PySem.W.nsIn K mainGlobals "sorted"=some none)
 (z_set:PySem.W.nsIn K mainGlobals "set"=some none)
 (q_Opener:PySem.W.nsIn K mainGlobals "Opener"=some (some (.ref e_Opener)))
 (C18:LG K e_Opener "row_called" "Opener.row_called" CM)
 (C19:LG K e_Opener "row_filled" "Opener.row_filled" CN)
 (C22:LG K e_Opener "__init__" "Opener.__init__" Bw)
 (C23:LG K e_Opener "opened_reference" "Opener.opened_reference" BD)
 (C24:LG K e_Opener "opened_alone" "Opener.opened_alone" BX)
 (C25:LG K e_Opener "row_put_in" "Opener.row_put_in" Bg)
 (C26:LG K e_Opener "row_of" "Opener.row_of" CI)
 (C28:LG K e_Opener "whole_of" "Opener.whole_of" Bx)
 (k1_Opener:PySem.W.plainGet K e_Opener Str.empty=true)
 (k2_Opener:PySem.W.hasDictIn K e_Opener=true)
 (k3_Opener:PySem.W.plainOver K e_Opener=true)
 (k4_Opener:PySem.W.findIn K (.ref e_Opener) "__setattr__"=some (some (.builtin "object.__setattr__")))
 (k5_Opener:PySem.W.makesIn K e_Opener=true)
 (k6_Opener:PySem.W.keepIn K (.ref e_Opener)=true)
 (nf_Opener_sheet:PySem.W.findIn K (.ref e_Opener) "sheet"=some none)
 (nf_Opener_sheets:PySem.W.findIn K (.ref e_Opener) "sheets"=some none)
 (nf_Opener_called:PySem.W.findIn K (.ref e_Opener) "called"=some none)
 (nf_Opener_known_rows:PySem.W.findIn K (.ref e_Opener) "known_rows"=some none)
 (g_PART_PLACES:PySem.W.nsIn K mainGlobals "PART_PLACES"=some (some (.ref w_PART_PLACES)))
 (h_PART_PLACES:K.lookup w_PART_PLACES=some o_PART_PLACES)
 (r_PART_PLACES:∃ kvs,OC w o_PART_PLACES kvs∧Paired (fun(kv:BI×V) (kt:BI×List V)=>kv.1=kt.1∧∃ a,kv.2=.ref a∧∀ H,Am K H a kt.2) kvs Q1)
 (n_PART_PLACES:(w_PART_PLACES==sysModules)=false)
 (g_LETTERS:PySem.W.nsIn K mainGlobals "LETTERS"=some (some u_LETTERS))
 (r_LETTERS:Aj (.str (Str.ofString "abcdefghijklmnopqrstuvwxyz")) u_LETTERS)
 (g_LONGEST_NAME:PySem.W.nsIn K mainGlobals "LONGEST_NAME"=some (some u_LONGEST_NAME))
 (r_LONGEST_NAME:Aj (.int 6) u_LONGEST_NAME)
 (g_LAST_ROW:PySem.W.nsIn K mainGlobals "LAST_ROW"=some (some u_LAST_ROW))
 (r_LAST_ROW:Aj (.int 16) u_LAST_ROW)
 (g_MOST_OPENED:PySem.W.nsIn K mainGlobals "MOST_OPENED"=some (some u_MOST_OPENED))
 (r_MOST_OPENED:Aj (.int 200) u_MOST_OPENED)
 (g_MOST_SHEETS:PySem.W.nsIn K mainGlobals "MOST_SHEETS"=some (some u_MOST_SHEETS))
 (r_MOST_SHEETS:Aj (.int 4) u_MOST_SHEETS)
 (g_MOST_CELLS:PySem.W.nsIn K mainGlobals "MOST_CELLS"=some (some u_MOST_CELLS))
 (r_MOST_CELLS:Aj (.int 60) u_MOST_CELLS)
 (g_MOST_NAMES:PySem.W.nsIn K mainGlobals "MOST_NAMES"=some (some u_MOST_NAMES))
 (r_MOST_NAMES:Aj (.int 8) u_MOST_NAMES)
 (g_MOST_OWNS:PySem.W.nsIn K mainGlobals "MOST_OWNS"=some (some u_MOST_OWNS))
 (r_MOST_OWNS:Aj (.int 6) u_MOST_OWNS)
 (g_MOST_ROUNDS:PySem.W.nsIn K mainGlobals "MOST_ROUNDS"=some (some u_MOST_ROUNDS))
 (r_MOST_ROUNDS:Aj (.int 4) u_MOST_ROUNDS)
 (kist:PySem.W.kitOne K (.type "str") (.type "tuple")=some false)
 (kiit:PySem.W.kitOne K (.type "int") (.type "tuple")=some false)
 (kib:PySem.W.kitOne K (.type "int") (.type "bool")=some false)
 (ki_NoneType_tuple:PySem.W.kitOne K (.type "NoneType") (.type "tuple")=some false)
 (ki_bool_tuple:PySem.W.kitOne K (.type "bool") (.type "tuple")=some false)
 (ki_str_bool:PySem.W.kitOne K (.type "str") (.type "bool")=some false)
 (ki_int_str:PySem.W.kitOne K (.type "int") (.type "str")=some false)
 (t_sorted_by_first:PySem.W.tabIn K "sorted_by_first"=some (cc_sorted_by_first,pp_sorted_by_first)) (rr_sorted_by_first:(PyProof.Rows.recsOf q).any (fun e=>e.name == "sorted_by_first")=true):
 ∃(fd:FuncData) (tabs:List (Addr×Addr)) (sp:Sp),(∀(s:Shared) (v:Value),BindsTo s fd ⟨[v],[]⟩ [("_law_script",v)])∧PySem.W.TabsAt tabs h∧(∀(H:Hp) (a:Addr) (ns:List Int),ns.length≤63→(∀ q∈tabs,H q.2=some (.tbl #[]))→Aq K H a (ns.map V.int)→sp [.ref a] H (fun v _=>v=.bl true) E0)∧∀ base:Heap,K.In base→base.Ns mainGlobals mg→(∀ q∈tabs,PySem.W.CodeHd base q.1 q.2)→BM mg base→Ap l.prog w K mg base Bj 60 fa fd ["_law_script"] sp:=by
 have G:=T0.g
 refine OY fun X_ hX_=>?_
 obtain⟨f0,d0,D0,_⟩:=A1 X G C0 ["formula"] fun _ _ _ _ _ _ _=>rfl
 obtain⟨f1,d1,D1,_⟩:=A1 X G C1 ["formula","parts"] fun _ _ _ _ _ _ _ _=>rfl
 obtain⟨f2,d2,D2,_⟩:=A1 X G C2 ["_law_script"] fun _ _ _ _ _ _ _=>rfl
 obtain⟨f3,d3,D3,_⟩:=A1 X G C3 ["_law_pen_here","_law_many_here"] fun _ _ _ _ _ _ _ _=>rfl
 obtain⟨f4,d4,D4,_⟩:=A1 X G C4 ["thing"] fun _ _ _ _ _ _ _=>rfl
 obtain⟨f5,d5,D5,_⟩:=A1 X G C5 ["thing"] fun _ _ _ _ _ _ _=>rfl
 obtain⟨f6,d6,D6,_⟩:=A1 X G C6 ["thing","sheets"] fun _ _ _ _ _ _ _ _=>rfl
 obtain⟨f7,d7,D7,_⟩:=A1 X G C7 ["thing"] fun _ _ _ _ _ _ _=>rfl
 obtain⟨f8,d8,D8,_⟩:=A1 X G C8 ["thing"] fun _ _ _ _ _ _ _=>rfl
 obtain⟨f9,d9,D9,_⟩:=A1 X G C9 ["thing","most"] fun _ _ _ _ _ _ _ _=>rfl
 obtain⟨f10,d10,D10,_⟩:=A1 X G C10 ["thing","most"] fun _ _ _ _ _ _ _ _=>rfl
 obtain⟨f11,d11,D11,_⟩:=A1 X G C11 ["thing"] fun _ _ _ _ _ _ _=>rfl
 obtain⟨f12,d12,D12,_⟩:=A1 X G C12 ["pairs"] fun _ _ _ _ _ _ _=>rfl
 obtain⟨f13,d13,D13,_⟩:=A1 X G C13 ["thing","sheets"] fun _ _ _ _ _ _ _ _=>rfl
 obtain⟨f14,d14,D14,_⟩:=A1 X G C14 ["thing"] fun _ _ _ _ _ _ _=>rfl
 obtain⟨f15,d15,D15,_⟩:=A1 X G C15 ["thing"] fun _ _ _ _ _ _ _=>rfl
 obtain⟨f16,d16,D16,_,E16⟩:=A1 X G C16 ["pairs"] fun _ _ _ _ _ _ _=>rfl
 obtain⟨f17,d17,D17,_⟩:=A1 X G C17 ["sheets","cells","names","owns","rounds"] fun _ _ _ _ _ _ _ _ _ _ _=>rfl
 obtain⟨f18,d18,D18,A18,I18,K18⟩:=Dz C18 ["self","key","within"] fun _ _ _ _ _ _ _ _ _=>rfl
 obtain⟨f19,d19,D19,A19,I19,K19⟩:=Dz C19 ["self","row","parts","within"] fun _ _ _ _ _ _ _ _ _ _=>rfl
 obtain⟨f20,d20,D20,_⟩:=A1 X G C20 ["book"] fun _ _ _ _ _ _ _=>rfl
 obtain⟨f21,d21,D21,_⟩:=A1 X G C21 ["sheet","first","last"] fun _ _ _ _ _ _ _ _ _=>rfl
 obtain⟨f22,d22,D22,A22,I22,K22⟩:=Dz C22 ["self","book","sheet"] fun _ _ _ _ _ _ _ _ _=>rfl
 obtain⟨f23,d23,D23,A23,I23,K23⟩:=Dz C23 ["self","formula"] fun _ _ _ _ _ _ _ _=>rfl
 obtain⟨f24,d24,D24,A24,I24,K24⟩:=Dz C24 ["self","formula"] fun _ _ _ _ _ _ _ _=>rfl
 obtain⟨f25,d25,D25,A25,I25,K25⟩:=Dz C25 ["self","formula","within"] fun _ _ _ _ _ _ _ _ _=>rfl
 obtain⟨f26,d26,D26,A26,I26,K26⟩:=Dz C26 ["self","formula","within"] fun _ _ _ _ _ _ _ _ _=>rfl
 obtain⟨f27,d27,D27,_⟩:=A1 X G C27 ["row","tell_one"] fun _ _ _ _ _ _ _ _=>rfl
 obtain⟨f28,d28,D28,A28,I28,K28⟩:=Dz C28 ["self","formula"] fun _ _ _ _ _ _ _ _=>rfl
 obtain⟨f29,d29,D29,_⟩:=A1 X G C29 ["book","sheet","formula"] fun _ _ _ _ _ _ _ _ _=>rfl
 obtain⟨f30,d30,D30,_⟩:=A1 X G C30 ["_law_pen_here"] fun _ _ _ _ _ _ _=>rfl
 obtain⟨f31,d31,D31,_⟩:=A1 X G C31 ["_law_pen_here"] fun _ _ _ _ _ _ _=>rfl
 obtain⟨f32,d32,D32,_⟩:=A1 X G C32 ["_law_pen_here","_law_sheets_here","_law_told_on"] fun _ _ _ _ _ _ _ _ _=>rfl
 obtain⟨f33,d33,D33,_⟩:=A1 X G C33 ["_law_pen_here","_law_sheets_here","_law_told_on"] fun _ _ _ _ _ _ _ _ _=>rfl
 obtain⟨f34,d34,D34,_⟩:=A1 X G C34 ["_law_pen_here","_law_sheets_here","_law_told_on","_law_params"] fun _ _ _ _ _ _ _ _ _ _=>rfl
 obtain⟨f35,d35,D35,_⟩:=A1 X G C35 ["_law_pen_here","_law_sheets_here","_law_told_on","_law_params","_law_deep"] fun _ _ _ _ _ _ _ _ _ _ _=>rfl
 obtain⟨f36,d36,D36,_⟩:=A1 X G C36 ["_law_pen_here","_law_sheets_here","_law_told_on","_law_params","_law_deep"] fun _ _ _ _ _ _ _ _ _ _ _=>rfl
 obtain⟨f37,d37,D37,_⟩:=A1 X G C37 ["_law_found","_law_due_here"] fun _ _ _ _ _ _ _ _=>rfl
 obtain⟨f38,d38,D38,_⟩:=A1 X G C38 ["_law_pen_here"] fun _ _ _ _ _ _ _=>rfl
 obtain⟨f39,d39,D39,_⟩:=A1 X G C39 ["_law_sheets_here","_law_sheet","_law_leaf_here"] fun _ _ _ _ _ _ _ _ _=>rfl
 obtain⟨f40,d40,D40,_⟩:=A1 X G C40 ["_law_sheets_here","_law_sheet","_law_tree"] fun _ _ _ _ _ _ _ _ _=>rfl
 obtain⟨f41,d41,D41,BL,E41⟩:=A1 X G C41 ["_law_script"] fun _ _ _ _ _ _ _=>rfl
 have e:=hfa.symm.trans D41.gl
 cases e
 have T:Txt w K mg ⟨f0,d0,f1,d1,f2,d2,f3,d3,f4,d4,f5,d5,f6,d6,f7,d7,f8,d8,f9,d9,f10,d10,f11,d11,f12,d12,f13,d13,f14,d14,f15,d15,f16,d16,f17,d17,f18,d18,f19,d19,f20,d20,f21,d21,f22,d22,f23,d23,f24,d24,f25,d25,f26,d26,f27,d27,f28,d28,f29,d29,f30,d30,f31,d31,f32,d32,f33,d33,f34,d34,f35,d35,f36,d36,f37,d37,f38,d38,f39,d39,f40,d40,_,_,e_Opener,cc_sorted_by_first,pp_sorted_by_first⟩:=⟨D0,D1,D2,D3,D4,D5,D6,D7,D8,D9,D10,D11,D12,D13,D14,D15,D16,D17,D18,D19,D20,D21,D22,D23,D24,D25,D26,D27,D28,D29,D30,D31,D32,D33,D34,D35,D36,D37,D38,D39,D40,D41,PySem.W.mg_none_of X G z_len,PySem.W.mg_none_of X G z_range,PySem.W.mg_none_of X G z_isinstance,PySem.W.mg_none_of X G z_int,PySem.W.mg_none_of X G z_bool,PySem.W.mg_none_of X G z_str,PySem.W.mg_none_of X G z_tuple,PySem.W.mg_none_of X G z_list,PySem.W.mg_none_of X G z_all,PySem.W.mg_none_of X G z_zip,PySem.W.mg_none_of X G z_min,PySem.W.mg_none_of X G z_sorted,PySem.W.mg_none_of X G z_set,PySem.W.mg_of X G q_Opener,(let ⟨k,d,p⟩:=r_PART_PLACES;⟨k,⟨_,PySem.W.mg_of X G g_PART_PLACES,_,h_PART_PLACES,d,n_PART_PLACES⟩,p⟩),⟨_,PySem.W.mg_of X G g_LETTERS,r_LETTERS⟩,⟨_,PySem.W.mg_of X G g_LONGEST_NAME,r_LONGEST_NAME⟩,⟨_,PySem.W.mg_of X G g_LAST_ROW,r_LAST_ROW⟩,⟨_,PySem.W.mg_of X G g_MOST_OPENED,r_MOST_OPENED⟩,⟨_,PySem.W.mg_of X G g_MOST_SHEETS,r_MOST_SHEETS⟩,⟨_,PySem.W.mg_of X G g_MOST_CELLS,r_MOST_CELLS⟩,⟨_,PySem.W.mg_of X G g_MOST_NAMES,r_MOST_NAMES⟩,⟨_,PySem.W.mg_of X G g_MOST_OWNS,r_MOST_OWNS⟩,⟨_,PySem.W.mg_of X G g_MOST_ROUNDS,r_MOST_ROUNDS⟩,kist,kiit,kib,ki_NoneType_tuple,ki_bool_tuple,ki_str_bool,ki_int_str,E16 _ _ t_sorted_by_first,⟨A18,I18,K18⟩,⟨A19,I19,K19⟩,⟨A23,I23,K23⟩,⟨A24,I24,K24⟩,⟨A25,I25,K25⟩,⟨A26,I26,K26⟩,⟨A28,I28,K28⟩,⟨k1_Opener,k2_Opener,k3_Opener,k4_Opener⟩,⟨k5_Opener,A22,I22,k6_Opener⟩,nf_Opener_sheet,nf_Opener_sheets,nf_Opener_called,nf_Opener_known_rows⟩
 refine hX_ ?_
 have x_sorted_by_first:PySem.W.CodeHd h cc_sorted_by_first pp_sorted_by_first∧h.get? pp_sorted_by_first=some (PySem.W.tabObj #[]):=by
  obtain⟨d,hd⟩:=M8 rr_sorted_by_first
  exact PySem.W.tab_of T0 X hd t_sorted_by_first
 refine⟨_,[(cc_sorted_by_first,pp_sorted_by_first)],K0 K pp_sorted_by_first,fun s v=>.of_eq (BL [v] rfl),(List.forall_mem_cons.mpr ⟨x_sorted_by_first,List.forall_mem_nil _⟩),fun H a ns hl hT hS=>⟨a,ns,rfl,hS,hl,hT (cc_sorted_by_first,pp_sorted_by_first) (by simp),fun _=>rfl⟩,fun base _ _ hC hB=>NO T hC hB⟩
theorem Q4 {l:PySem.W.OpenLaw}{q:Program}{loose:List Str}{XP:(Str→Option Value)→Heap→Prop}{YP:World→Heap→Prop}{d:DefRec}{K:Params→PySem.W.Frag}(hn:l.most=some 63)(hdf:d.params.defaults=[])
 (hY:∀(w:World) (h:Heap),YP w h→(K w.params).In h) (hKT:∀ w:World,PySem.W.noTabs (K w.params)=true)
 (F:∀(w:World) (mean:ExcName→Option Value) (mg mb:Str→Option Value) (fa:Addr) (h:Heap),(K w.params).In h→PyProof.Rows.Top q (PySem.W.looseW q loose) mean mg mb h→mg d.name=some (.ref fa)→
  ∃(fd:FuncData) (tabs:List (Addr×Addr)) (sp:Sp),(∀(s:Shared) (v:Value),BindsTo s fd ⟨[v],[]⟩ [("_law_script",v)])∧PySem.W.TabsAt tabs h∧(∀(H:Hp) (a:Addr) (ns:List Int),ns.length≤63→(∀ q∈tabs,H q.2=some (.tbl #[]))→Aq (K w.params) H a (ns.map V.int)→sp [.ref a] H (fun v _=>v=.bl true) E0)∧∀ base:Heap,(K w.params).In base→base.Ns mainGlobals mg→(∀ q∈tabs,PySem.W.CodeHd base q.1 q.2)→BM mg base→Ap l.prog w (K w.params) mg base Bj 60 fa fd ["_law_script"] sp):
 PySem.W.WalkO q loose XP YP l.row.toRowW d [] (fun f vs=>PySem.call f vs):=
 L2.Kk (n:=63) (k:=60) (x:="_law_script") hn (by decide) hdf ⟨rfl,by decide,by decide⟩ hY hKT F
end Fs
open PySem PySem.W PyProof.Rows
set_option maxRecDepth 100000 in
set_option maxHeartbeats 0 in
theorem PySem.Challenge.cw_freshsheet_k21_leaves_opened_holds : PySem.Challenge.rw_freshsheet_k21_leaves_opened.Holds := by
 w_on;o_law
 refine holds_open (r:=OpenLaw.row PySem.Challenge.rw_freshsheet_k21_leaves_opened) (q:=Hw.qv) (loose:=Hw.lo) (Xt:=Hw.Xv) (XP:=XL Hw.qv []) (Yf:=Hook.obs (kHook Hw.pack.heap_1 Hw.hAs Hw.hAs_eq)) (Ya:=Hook.val (kHook Hw.pack.heap_1 Hw.hAs Hw.hAs_eq)) (YP:=Hook.says (kHook Hw.pack.heap_1 Hw.hAs Hw.hAs_eq)) (N:=Hw.N0) Hw.left (Hook.of (kHook Hw.pack.heap_1 Hw.hAs Hw.hAs_eq)) (Hook.keeps (kHook Hw.pack.heap_1 Hw.hAs Hw.hAs_eq)) (fun s e=>xl_of s (Bool.and_eq_true_iff.mp e).1) XL.keeps (by rfl) (by rfl) (by rfl) (fun s e=>recFacts_of (Bool.and_eq_true_iff.mp e).2) (by rfl) (by first | assumption | decide +kernel) (by decide +kernel) ⟨rfl,rfl,rfl,rfl,rfl,by decide +kernel⟩ ?hw ?hc
 case hw=>w_witness2
 k_fill
 refine Fs.Q4 (l:=PySem.Challenge.rw_freshsheet_k21_leaves_opened) rfl rfl (fun w h Y=>PySem.W.kIn_of Y) (fun w=>by kernel_rfl) ?F
 case F=>
  intro w mean mg mb fa h KX T0 hmg
  apply Fs.NQ KX T0 hmg
  iterate 34 (apply Fs.PD;k_is;k_is;k_is;k_is)
  (case z_len=>k_is)
  (case z_range=>k_is)
  (case z_isinstance=>k_is)
  (case z_int=>k_is)
  (case z_bool=>k_is)
  (case z_str=>k_is)
  (case z_tuple=>k_is)
  (case z_list=>k_is)
  (case z_all=>k_is)
  (case z_zip=>k_is)
  (case z_min=>k_is)
  (case z_sorted=>k_is)
  (case z_set=>k_is)
  (case q_Opener=>k_is)
  iterate 8 (apply Fs.NP;k_is;k_is;k_is;k_is;k_is)
  (case k1_Opener=>k_is)
  (case k2_Opener=>k_is)
  (case k3_Opener=>k_is)
  (case k4_Opener=>k_is)
  (case k5_Opener=>k_is)
  (case k6_Opener=>k_is)
  (case nf_Opener_sheet=>k_is)
  (case nf_Opener_sheets=>k_is)
  (case nf_Opener_called=>k_is)
  (case nf_Opener_known_rows=>k_is)
  (case g_PART_PLACES=>k_is)
  (case h_PART_PLACES=>k_is)
  (case r_PART_PLACES=>exact⟨[(Sum.inr (Str.ofString "op"),L2.V.ref _),(Sum.inr (Str.ofString "neg"),L2.V.ref _),(Sum.inr (Str.ofString "if"),L2.V.ref _),(Sum.inr (Str.ofString "sum"),L2.V.ref _),(Sum.inr (Str.ofString "count"),L2.V.ref _),(Sum.inr (Str.ofString "least"),L2.V.ref _),(Sum.inr (Str.ofString "most"),L2.V.ref _),(Sum.inr (Str.ofString "sumif"),L2.V.ref _),(Sum.inr (Str.ofString "find"),L2.V.ref _),(Sum.inr (Str.ofString "turn"),L2.V.ref _),(Sum.inr (Str.ofString "stack"),L2.V.ref _),(Sum.inr (Str.ofString "grid"),L2.V.ref _),(Sum.inr (Str.ofString "outer"),L2.V.ref _)],⟨⟨rfl,rfl,rfl⟩,_,_,rfl,.cons ⟨rfl,rfl,rfl⟩ (.cons ⟨rfl,rfl,rfl⟩ (.cons ⟨rfl,rfl,rfl⟩ (.cons ⟨rfl,rfl,rfl⟩ (.cons ⟨rfl,rfl,rfl⟩ (.cons ⟨rfl,rfl,rfl⟩ (.cons ⟨rfl,rfl,rfl⟩ (.cons ⟨rfl,rfl,rfl⟩ (.cons ⟨rfl,rfl,rfl⟩ (.cons ⟨rfl,rfl,rfl⟩ (.cons ⟨rfl,rfl,rfl⟩ (.cons ⟨rfl,rfl,rfl⟩ (.cons ⟨rfl,rfl,rfl⟩ (.nil))))))))))))),by decide⟩,.cons ⟨rfl,_,rfl,fun _=>.inr ⟨_,_,_,(by k_is),rfl,rfl,by decide,.cons ⟨_,rfl⟩ (.cons ⟨_,rfl⟩ (.nil))⟩⟩ (.cons ⟨rfl,_,rfl,fun _=>.inr ⟨_,_,_,(by k_is),rfl,rfl,by decide,.cons ⟨_,rfl⟩ (.nil)⟩⟩ (.cons ⟨rfl,_,rfl,fun _=>.inr ⟨_,_,_,(by k_is),rfl,rfl,by decide,.cons ⟨_,rfl⟩ (.cons ⟨_,rfl⟩ (.cons ⟨_,rfl⟩ (.nil)))⟩⟩ (.cons ⟨rfl,_,rfl,fun _=>.inr ⟨_,_,_,(by k_is),rfl,rfl,by decide,.cons ⟨_,rfl⟩ (.nil)⟩⟩ (.cons ⟨rfl,_,rfl,fun _=>.inr ⟨_,_,_,(by k_is),rfl,rfl,by decide,.cons ⟨_,rfl⟩ (.nil)⟩⟩ (.cons ⟨rfl,_,rfl,fun _=>.inr ⟨_,_,_,(by k_is),rfl,rfl,by decide,.cons ⟨_,rfl⟩ (.nil)⟩⟩ (.cons ⟨rfl,_,rfl,fun _=>.inr ⟨_,_,_,(by k_is),rfl,rfl,by decide,.cons ⟨_,rfl⟩ (.nil)⟩⟩ (.cons ⟨rfl,_,rfl,fun _=>.inr ⟨_,_,_,(by k_is),rfl,rfl,by decide,.cons ⟨_,rfl⟩ (.cons ⟨_,rfl⟩ (.cons ⟨_,rfl⟩ (.nil)))⟩⟩ (.cons ⟨rfl,_,rfl,fun _=>.inr ⟨_,_,_,(by k_is),rfl,rfl,by decide,.cons ⟨_,rfl⟩ (.cons ⟨_,rfl⟩ (.cons ⟨_,rfl⟩ (.nil)))⟩⟩ (.cons ⟨rfl,_,rfl,fun _=>.inr ⟨_,_,_,(by k_is),rfl,rfl,by decide,.cons ⟨_,rfl⟩ (.nil)⟩⟩ (.cons ⟨rfl,_,rfl,fun _=>.inr ⟨_,_,_,(by k_is),rfl,rfl,by decide,.cons ⟨_,rfl⟩ (.cons ⟨_,rfl⟩ (.nil))⟩⟩ (.cons ⟨rfl,_,rfl,fun _=>.inr ⟨_,_,_,(by k_is),rfl,rfl,by decide,.cons ⟨_,rfl⟩ (.cons ⟨_,rfl⟩ (.nil))⟩⟩ (.cons ⟨rfl,_,rfl,fun _=>.inr ⟨_,_,_,(by k_is),rfl,rfl,by decide,.cons ⟨_,rfl⟩ (.nil)⟩⟩ (.nil)))))))))))))⟩)
  (case n_PART_PLACES=>decide)
  (case g_LETTERS=>k_is)
  (case r_LETTERS=>first | exact⟨_,rfl⟩ | exact⟨_,by decide +kernel⟩)
  (case g_LONGEST_NAME=>k_is)
  (case r_LONGEST_NAME=>first | exact⟨_,rfl⟩ | exact⟨_,by decide +kernel⟩)
  (case g_LAST_ROW=>k_is)
  (case r_LAST_ROW=>first | exact⟨_,rfl⟩ | exact⟨_,by decide +kernel⟩)
  (case g_MOST_OPENED=>k_is)
  (case r_MOST_OPENED=>first | exact⟨_,rfl⟩ | exact⟨_,by decide +kernel⟩)
  (case g_MOST_SHEETS=>k_is)
  (case r_MOST_SHEETS=>first | exact⟨_,rfl⟩ | exact⟨_,by decide +kernel⟩)
  (case g_MOST_CELLS=>k_is)
  (case r_MOST_CELLS=>first | exact⟨_,rfl⟩ | exact⟨_,by decide +kernel⟩)
  (case g_MOST_NAMES=>k_is)
  (case r_MOST_NAMES=>first | exact⟨_,rfl⟩ | exact⟨_,by decide +kernel⟩)
  (case g_MOST_OWNS=>k_is)
  (case r_MOST_OWNS=>first | exact⟨_,rfl⟩ | exact⟨_,by decide +kernel⟩)
  (case g_MOST_ROUNDS=>k_is)
  (case r_MOST_ROUNDS=>first | exact⟨_,rfl⟩ | exact⟨_,by decide +kernel⟩)
  (case kist=>kit_is)
  (case kiit=>kit_is)
  (case kib=>kit_is)
  (case ki_NoneType_tuple=>kit_is)
  (case ki_bool_tuple=>kit_is)
  (case ki_str_bool=>kit_is)
  (case ki_int_str=>kit_is)
  (case t_sorted_by_first=>exact(show PySem.W.tabIn _ _=some (430,426)by kernel_rfl))
  (case rr_sorted_by_first=>decide +kernel)
