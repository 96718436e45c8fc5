import PyProof.Rows.All
import Wide.All
import OpenK.AllK
import Wide.FinOn
import Lean
import PyProof.EqAt
import PyProof.EqKinds
import PyProof.TupleCall
import PySem.Challenge.RW_freshsheet_k37_whole_reckoned_part_by_pa
set_option Elab.async false
set_option linter.all false
set_option maxRecDepth 100000
set_option maxHeartbeats 4000000
namespace Hw
open PySem PySem.W PyProof.Rows PySem.Calls
def topRunT (tb:String→Option Builtin)(p:Program)(w:World)(n₀:Nat)(ann:Option Value):Nat→SharedT→Thread→Option SharedT
 | 0,_,_=>none
 | n+1,s,t=>match through t with
  | true=>some s
  | false=>match stepOk n₀ ann t with
   | false=>none
   | true=>match stepT (denote tb) p w s t with
    | some (s',t')=>topRunT tb p w n₀ ann n s' t'
    | none=>none
theorem topRun_ofT {tb:String→Option Builtin}{p:Program}{w:World}{n₀:Nat}{ann:Option Value}:∀{n:Nat} {s s':SharedT} {t:Thread},topRunT tb p w n₀ ann n s t=some s'→topRun tb p w n₀ ann n s.abs t=some s'.abs
 | 0,_,_,_,h=>by cases h
 | n+1,s,s',t,h=>by
  unfold topRunT at h
  unfold topRun
  cases he:through t with
  | true=>rw[he]at h;cases h;rfl
  | false=>
   rw[he]at h
   cases hk:stepOk n₀ ann t with
   | false=>rw[hk]at h;cases h
   | true=>
    rw[hk]at h
    cases hs:stepT (denote tb) p w s t with
    | none=>rw[hs]at h;cases h
    | some r=>obtain⟨s₂,t₂⟩:=r;rw[hs]at h;rw[stepT_spec hs];exact topRun_ofT h
def toBT:List Obj→Nat→BT→BT
 | [],_,t=>t
 | o::r,n,t=>toBT r (n+1) (t.ins n o)
noncomputable def bootT (P:Params):BT:=toBT (boot_heap P).objs.toList 0 .nil
noncomputable def bootS (w:World)(os:OsState):SharedT:=⟨bootT w.params,(boot_heap w.params).objs.size,(boot_heap w.params).life,Array.mk [],boot_drawn,boot_toks,os⟩
theorem bootT_abs (P:Params):absHeap (bootT P) (boot_heap P).objs.size (boot_heap P).life=boot_heap P:=by kernel_rfl
theorem boot_size (w:World):((boot_heap w.params).isNs mainGlobals&&(Array.mk []:Array GenState).size==0,(boot_heap w.params).objs.size,(boot_heap w.params).nsMap mainGlobals "__annotations__")=(true,11,some (.ref 6)):=by kernel_rfl
noncomputable def tops (p:Program)(N:Nat)(w:World)(os:OsState):Option SharedT:=topRunT treeTable p w 11 (some (.ref 6)) N (bootS w os) (topStub p)
def look1 (p:Program)(h:Heap)(s:Shared):Bool:=staticsOk (importedModules p.main.body) h s.heap&&namesBound p s.heap&&gensDone s&&laidKept h s.heap
def look3 (q:Program)(loose mods:List Str)(Xt:Shared→Bool)(g0:Bool)(s:Shared):Bool:=(openSeen q loose mods Xt g0 s).2.2.1
theorem left_whole {p q:Program}{loose:List Str}{Xt:Shared→Bool}{α:Type}{Yf:Shared→α}{Ya:World→α}{N:Nat}{g0:Bool}
 (e:opening p=plainProg p.main.scope.names) (hN:Nat.ble 600 N=true) (f:∀ s,fenceModules? p s=some s)
 (run1:∀(w:World) (os:OsState),(tops p N w os).map (fun s=>(look1 p (boot_heap w.params) s.abs,s.abs.heap.bltView,tabsOk q s.abs))=some (true,bltViewBooted,true))
 (run2:∀(w:World) (os:OsState),(tops p N w os).map (fun s=>seen ((recsOf q).map (·.name)) (ownsOf q) [] { s.abs with gens:=#[] })=some (expectedOf q))
 (run3:∀(w:World) (os:OsState),(tops p N w os).map (fun s=>look3 q loose (importedModules p.main.body) Xt g0 s.abs)=some true)
 (run4:∀(w:World) (os:OsState),(tops p N w os).map (fun s=>(pinSeenD q (drecsOf q) s.abs,plainSeenE q (looseW q loose) s.abs,plainSeenD q loose s.abs,wideSeen q s.abs,clsSeenW q loose s.abs))=some (pinGoodD (drecsOf q),plainGoodE q (looseW q loose),plainGoodD q loose,wideGood q,clsGoodW q loose))
 (run5:∀(w:World) (os:OsState),(tops p N w os).map (fun s=>Yf s.abs)=some (Ya w)):LeftO p q loose Xt Yf Ya N g0:=fun w=>by
 obtain⟨⟨h,gs,d,k,os⟩,e1,e'⟩:=Option.map_eq_some_iff.mp (boot_open e hN f w)
 obtain⟨rfl,rfl,rfl,rfl⟩:h=boot_heap w.params∧gs=Array.mk []∧d=boot_drawn∧k=boot_toks:=by simpa using e'
 obtain⟨z1,z2,z3⟩:_∧_∧_:=by simpa only[Prod.mk.injEq]using boot_size w
 obtain⟨s',hs,l1⟩:=Option.map_eq_some_iff.mp (run1 w os)
 have l2:=run2 w os
 have l3:=run3 w os
 have l4:=run4 w os
 have l5:=run5 w os
 rw[hs]at l2 l3 l4 l5
 replace l2:=Option.some.inj l2
 replace l3:=Option.some.inj l3
 replace l4:=Option.some.inj l4
 replace l5:=Option.some.inj l5
 dsimp only at l1 l2 l3 l4 l5
 obtain⟨l1,l6,l7⟩:_∧_∧_:=by simpa only[Prod.mk.injEq]using l1
 have l8:openSeen q loose (importedModules p.main.body) Xt g0 s'.abs=openGood q loose:=Prod.ext l2 (Prod.ext l6 (Prod.ext l3 (Prod.ext l7 l4)))
 have r:=topRun_ofT hs
 have hb:(bootS w os).abs=⟨boot_heap w.params,Array.mk [],boot_drawn,boot_toks,os⟩:=by
  show Shared.mk _ _ _ _ _=_
  rw[show absHeap (bootS w os).tree (bootS w os).n (bootS w os).life=boot_heap w.params from bootT_abs w.params]
  rfl
 rw[hb]at r
 have t:topFrom treeTable p w N ⟨boot_heap w.params,Array.mk [],boot_drawn,boot_toks,os⟩=some s'.abs:=by
  unfold topFrom
  dsimp only
  rw[z1,z2,z3,r]
  show(match look1 p (boot_heap w.params) s'.abs with | true=>some s'.abs | false=>none)=_
  rw[l1]
 unfold openEnds
 rw[e1]
 show(topFrom treeTable p w N _).map _=_
 rw[t]
 exact congrArg some (Prod.ext l8 l5)
abbrev pw:=PySem.Challenge.pw_freshsheet_k37_whole_reckoned_part_by_pa
abbrev lw:=PySem.Challenge.rw_freshsheet_k37_whole_reckoned_part_by_pa
section
local macro_rules | `(tactic| o_head $H)=>do let f:=Lean.mkIdent `foo;`(tactic| exact $f $H)
theorem pack (foo:PySem.W.Hook→(OpenLaw.row lw).Holds):(OpenLaw.row lw).Holds:=by k_head
end
def _root_.PySem.W.Fast.tw1186766383770724384:Program:=pw
theorem _root_.PySem.W.Fast.te1186766383770724384:PySem.Challenge.pw_freshsheet_k37_whole_reckoned_part_by_pa=PySem.W.Fast.tw1186766383770724384:=rfl
def hAs:List Addr:=[2,3,15,22,23,24,25,28,35,36,37,40,42,43,45,46,47,49,50,52,53,54,56,57,59,60,61,63,64,66,67,68,70,71,73,74,75,77,78,80,81,82,84,85,87,88,89,91,92,94,95,96,98,99,101,102,103,106,107,108,110,111,113,114,115,117,118,120,121,122,124,125,127,128,129,131,132,134,135,136,137,139,140,142,143,144,146,147,149,150,151,154,155,156,158,159,161,162,163,165,166,168,169,170,172,173,175,176,177,179,180,182,183,184,185,187,188,190,191,192,194,195,197,198,199,201,202,204,205,206,208,209,211,212,213,215,216,218,219,220,222,223,225,226,227,229,230,232,233,234,236,237,239,240,241,243,244,246,247,248,250,251,253,254,255,257,258,260,261,262,265,266,267,270,271,272,274,275,277,278,279,282,283,284,286,287,289,290,291,293,294,296,297,298,300,301,303,304,305,307,308,310,311,312,314,315,317,318,319,321,322,324,325,326,328,329,331,332,333,335,336,338,339,340,341,342,343,344,345,346,347,348,349,350,351,352,353,354,357,358,359,361,362,364,365,366,368,369,371,372,373,375,376,378,379,380,381,383,384,386,387,388,390,391,393,394,395,398,399,400,402,403,405,406,407,410,411,412,414,415,417,418,419,422,423,424,426,427,429,430,431,433,434,436,437,438,440,441,443,444,445,447,448,450,451,452,454,455,457,458,459,461,462,464,465,466,468,469,471,472,473,475,476,478,479,480,482,483,485,486,487,489,490,492,493,494,496,497,499,500,501,504,505,506,508,509,511,512,513,515,516,518,519,520,523,524,530,533,534,535,537,538,540,541,542,544,545,547,548,549,551,552,554,555,556,558,559,561,562,563,565,566,568,569,570,573,574]
theorem hAs_eq:∀ P,hAs=(pack.heap_1 P).map (·.1):=fun _=>by kernel_rfl
def qv:Program:=view pw [1,2,4,5,6,7,8,9,10,11,12,14,15,16,17,18,19,20,21,22,23,25,26,27,28,29,30,31,32,33,34,35,37,38,39,40,41,42,43,45,46,47,48,49,50,51,53,54,55,56,57,58,59,60,61,62,64,65,66,67,68,70,71,72,74,75,76,77,78,79,80,81,82,84,85,86,87,88,89,90,91,92,93,94,95,96,97,98,99,100,101,102]
def Xv:Shared→Bool:=fun s=>xlAt qv [] s&&recOk (RowW.records (OpenRow.toRowW (OpenLaw.row lw))) s
abbrev N0:Nat:=5000
abbrev lo:List PySem.Str:=[PySem.Str.ofString "PART_PLACES"]
noncomputable def lhs1 (w:World)(os:OsState):=(tops pw N0 w os).map (fun s=>(look1 pw (boot_heap w.params) s.abs,s.abs.heap.bltView,tabsOk qv s.abs))
theorem lhs1_self:lhs1=lhs1:=rfl
name_quick hw1 for Hw.lhs1 by Hw.lhs1_self
set_option maxHeartbeats 0 in
theorem run1f:∀(w:World) (os:OsState),PySem.W.Fast.hw1 (w.withFollow "special-get-raises" false) os=some (true,bltViewBooted,true):=by
 intro w os
 kernel_rfl
set_option maxHeartbeats 0 in
theorem run1t:∀(w:World) (os:OsState),PySem.W.Fast.hw1 (w.withFollow "special-get-raises" true) os=some (true,bltViewBooted,true):=by
 intro w os
 kernel_rfl
theorem run1:∀ w os,PySem.W.Fast.hw1 w os=some (true,bltViewBooted,true):=fun w=>PySem.W.byRow2 "special-get-raises" (P:=fun w=>∀ os,PySem.W.Fast.hw1 w os=some (true,bltViewBooted,true)) run1f run1t w
noncomputable def lhs2 (w:World)(os:OsState):=(tops pw N0 w os).map (fun s=>seen ((recsOf qv).map (·.name)) (ownsOf qv) [] { s.abs with gens:=#[] })
theorem lhs2_self:lhs2=lhs2:=rfl
name_quick hw2 for Hw.lhs2 by Hw.lhs2_self
noncomputable def rhs2:=expectedOf qv
theorem rhs2_self:rhs2=rhs2:=rfl
name_quick hg2 for Hw.rhs2 by Hw.rhs2_self
set_option maxHeartbeats 0 in
theorem run2f:∀(w:World) (os:OsState),PySem.W.Fast.hw2 (w.withFollow "special-get-raises" false) os=some (PySem.W.Fast.hg2):=by
 intro w os
 kernel_rfl
set_option maxHeartbeats 0 in
theorem run2t:∀(w:World) (os:OsState),PySem.W.Fast.hw2 (w.withFollow "special-get-raises" true) os=some (PySem.W.Fast.hg2):=by
 intro w os
 kernel_rfl
theorem run2:∀ w os,PySem.W.Fast.hw2 w os=some (PySem.W.Fast.hg2):=fun w=>PySem.W.byRow2 "special-get-raises" (P:=fun w=>∀ os,PySem.W.Fast.hw2 w os=some (PySem.W.Fast.hg2)) run2f run2t w
noncomputable def lhs3 (w:World)(os:OsState):=(tops pw N0 w os).map (fun s=>look3 qv lo (importedModules pw.main.body) Xv true s.abs)
theorem lhs3_self:lhs3=lhs3:=rfl
name_quick hw3 for Hw.lhs3 by Hw.lhs3_self
set_option maxHeartbeats 0 in
theorem run3f:∀(w:World) (os:OsState),PySem.W.Fast.hw3 (w.withFollow "special-get-raises" false) os=some (true):=by
 intro w os
 kernel_rfl
set_option maxHeartbeats 0 in
theorem run3t:∀(w:World) (os:OsState),PySem.W.Fast.hw3 (w.withFollow "special-get-raises" true) os=some (true):=by
 intro w os
 kernel_rfl
theorem run3:∀ w os,PySem.W.Fast.hw3 w os=some (true):=fun w=>PySem.W.byRow2 "special-get-raises" (P:=fun w=>∀ os,PySem.W.Fast.hw3 w os=some (true)) run3f run3t w
noncomputable def lhs4 (w:World)(os:OsState):=(tops pw N0 w os).map (fun s=>(pinSeenD qv (drecsOf qv) s.abs,plainSeenE qv (looseW qv lo) s.abs,plainSeenD qv lo s.abs,wideSeen qv s.abs,clsSeenW qv lo s.abs))
theorem lhs4_self:lhs4=lhs4:=rfl
name_quick hw4 for Hw.lhs4 by Hw.lhs4_self
noncomputable def rhs4:=(pinGoodD (drecsOf qv),plainGoodE qv (looseW qv lo),plainGoodD qv lo,wideGood qv,clsGoodW qv lo)
theorem rhs4_self:rhs4=rhs4:=rfl
name_quick hg4 for Hw.rhs4 by Hw.rhs4_self
set_option maxHeartbeats 0 in
theorem run4f:∀(w:World) (os:OsState),PySem.W.Fast.hw4 (w.withFollow "special-get-raises" false) os=some (PySem.W.Fast.hg4):=by
 intro w os
 kernel_rfl
set_option maxHeartbeats 0 in
theorem run4t:∀(w:World) (os:OsState),PySem.W.Fast.hw4 (w.withFollow "special-get-raises" true) os=some (PySem.W.Fast.hg4):=by
 intro w os
 kernel_rfl
theorem run4:∀ w os,PySem.W.Fast.hw4 w os=some (PySem.W.Fast.hg4):=fun w=>PySem.W.byRow2 "special-get-raises" (P:=fun w=>∀ os,PySem.W.Fast.hw4 w os=some (PySem.W.Fast.hg4)) run4f run4t w
noncomputable def lhs5 (w:World)(os:OsState):=(tops pw N0 w os).map (fun s=>hAs.map s.abs.heap.get?)
theorem lhs5_self:lhs5=lhs5:=rfl
name_quick hw5 for Hw.lhs5 by Hw.lhs5_self
set_option maxHeartbeats 0 in
theorem run5f:∀(w:World) (os:OsState),PySem.W.Fast.hw5 (w.withFollow "special-get-raises" false) os=some ((pack.heap_1 (w.withFollow "special-get-raises" false).params).map fun p=>some p.2):=by
 intro w os
 kernel_rfl
set_option maxHeartbeats 0 in
theorem run5t:∀(w:World) (os:OsState),PySem.W.Fast.hw5 (w.withFollow "special-get-raises" true) os=some ((pack.heap_1 (w.withFollow "special-get-raises" true).params).map fun p=>some p.2):=by
 intro w os
 kernel_rfl
theorem run5:∀ w os,PySem.W.Fast.hw5 w os=some ((pack.heap_1 w.params).map fun p=>some p.2):=fun w=>PySem.W.byRow2 "special-get-raises" (P:=fun w=>∀ os,PySem.W.Fast.hw5 w os=some ((pack.heap_1 w.params).map fun p=>some p.2)) run5f run5t w
theorem q_open:opening pw=plainProg pw.main.scope.names:=by kernel_rfl
theorem q_fence:∀ s,fenceModules? pw s=some s:=fun s=>by kernel_rfl
theorem left:LeftO pw qv lo Xv (Hook.obs (kHook pack.heap_1 hAs hAs_eq)) (Hook.val (kHook pack.heap_1 hAs hAs_eq)) N0 true:=
 left_whole q_open rfl q_fence (fun w os=>(congrFun (congrFun PySem.W.Fast.hw1_eq w) os).trans (run1 w os))
  (fun w os=>((congrFun (congrFun PySem.W.Fast.hw2_eq w) os).trans (run2 w os)).trans (congrArg some PySem.W.Fast.hg2_eq.symm))
  (fun w os=>(congrFun (congrFun PySem.W.Fast.hw3_eq w) os).trans (run3 w os))
  (fun w os=>((congrFun (congrFun PySem.W.Fast.hw4_eq w) os).trans (run4 w os)).trans (congrArg some PySem.W.Fast.hg4_eq.symm))
  (fun w os=>(congrFun (congrFun PySem.W.Fast.hw5_eq w) os).trans (run5 w os))
end Hw
set_option Elab.async false
set_option linter.all false
set_option maxRecDepth 100000
local macro_rules | `(tactic| omega) => `(tactic| lia)
local macro_rules | `(tactic| nofun) => `(tactic| decide +kernel)
namespace L2
open PySem PySem.Spec PyProof.Rows
abbrev BC:=Sum Int Str
def JM:BC→Value→Bool
 | .inl k,v=>Value.isInt k v
 | .inr x,v=>Value.isStrOf x v
def VT (w:World):BC→Int
 | .inl k=>hashInt k
 | .inr x=>hashStr w x
theorem Bi:∀{k:BC} {v:Value},JM k v=true→(∃ i t,k=Sum.inl i∧v=Value.int i t)∨(∃ x t,k=Sum.inr x∧v=Value.str x t)
 | .inl i,v,h=>by
  obtain⟨t,e⟩:=Value.isInt_shape (k:=i) (v:=v) h
  exact .inl ⟨i,t,rfl,e⟩
 | .inr x,v,h=>by
  obtain⟨t,e⟩:=Value.isStrOf_shape (x:=x) (v:=v) h
  exact .inr ⟨x,t,rfl,e⟩
theorem Ov (i:Int)(t:Tok):JM (.inl i) (.int i t)=true:=by simp[JM,Value.isInt]
theorem Ow (x:Str)(t:Tok):JM (.inr x) (.str x t)=true:=by simp[JM,Value.isStrOf]
theorem Tc (a b:Int):decide ((Sum.inl a:BC)=Sum.inl b)=(a==b):=by
 by_cases e:a=b
 ·subst e;simp
 ·have h:¬ (Sum.inl a:BC)=Sum.inl b:=fun q=>e (Sum.inl.inj q)
  rw[decide_eq_false h]
  exact(beq_eq_false_iff_ne.mpr e).symm
theorem Td (a b:Str):decide ((Sum.inr a:BC)=Sum.inr b)=decide (a=b):=by
 by_cases e:a=b
 ·subst e;simp
 ·have h:¬ (Sum.inr a:BC)=Sum.inr b:=fun q=>e (Sum.inr.inj q)
  rw[decide_eq_false h,decide_eq_false e]
theorem Te (a:Int)(b:Str):decide ((Sum.inl a:BC)=Sum.inr b)=false:=decide_eq_false (fun q=>nomatch q)
theorem Tf (a:Str)(b:Int):decide ((Sum.inr a:BC)=Sum.inl b)=false:=decide_eq_false (fun q=>nomatch q)
def BU (prog:Program)(w:World):PySem.KeyKind prog w BC where
 is:=JM
 hash:=VT w
 inj:=fun v a b ha hb=>by
  rcases Bi ha with⟨i,t,rfl,rfl⟩ | ⟨x,t,rfl,rfl⟩
  ·rcases Bi hb with⟨j,u,rfl,e⟩ | ⟨y,u,rfl,e⟩
   ·injection e with e1 _;rw[e1]
   ·exact nomatch e
  ·rcases Bi hb with⟨j,u,rfl,e⟩ | ⟨y,u,rfl,e⟩
   ·exact nomatch e
   ·injection e with e1 _;rw[e1]
 byValue:=fun k v h=>by
  rcases Bi h with⟨i,t,rfl,rfl⟩ | ⟨x,t,rfl,rfl⟩ <;> rfl
 pyHash:=fun hv h=>by
  rcases Bi hv with⟨i,t,rfl,rfl⟩ | ⟨x,t,rfl,rfl⟩
  ·exact wpAny_pyHash_int h
  ·exact wpAny_pyHash_str h
 eqBool:=fun hu hv h=>by
  rcases Bi hu with⟨i,t,rfl,rfl⟩ | ⟨x,t,rfl,rfl⟩
  ·rcases Bi hv with⟨j,u,rfl,rfl⟩ | ⟨y,u,rfl,rfl⟩
   ·rw[Tc]at h;exact wpAny_eqBool_int h
   ·rw[Te]at h;exact SeqAt.EqAt.int_str i t y u _ _ _ _ h
  ·rcases Bi hv with⟨j,u,rfl,rfl⟩ | ⟨y,u,rfl,rfl⟩
   ·rw[Tf]at h;exact SeqAt.EqAt.str_int x t j u _ _ _ _ h
   ·rw[Td]at h;exact wpAny_eqBool_str h
 «strs»:=fun k x t v h=>by
  rcases Bi h with⟨i,u,rfl,e⟩ | ⟨y,u,rfl,e⟩
  ·exact nomatch e
  ·injection e with e1 _
   subst e1
   cases v <;> rfl
theorem L7 (prog:Program)(w:World)(i:Int)(t:Tok):(BU prog w).is (.inl i) (.int i t)=true:=Ov i t
theorem L8 (prog:Program)(w:World)(x:Str)(t:Tok):(BU prog w).is (.inr x) (.str x t)=true:=Ow x t
inductive V where
 | non | bl (b:Bool) | int (i:Int) | str (x:Str) | byt (b:Array UInt8) | flt (b:UInt64) | ref (a:Addr) | ty (n:String)
 deriving DecidableEq
def A2:V→Value→Prop
 | .non,u=>u=Value.none
 | .bl b,u=>u=Value.bool b
 | .int i,u=>∃ t,u=Value.int i t
 | .str x,u=>∃ t,u=Value.str x t
 | .byt b,u=>∃ t,u=Value.bytes b t
 | .flt b,u=>∃ t,u=Value.float b t
 | .ref a,u=>u=Value.ref a
 | .ty n,u=>u=Value.type n
abbrev A1:List V→List Value→Prop:=Paired A2
theorem A1.length {xs:List V}{us:List Value}(r:A1 xs us):xs.length=us.length:=Paired.length r
theorem A1.get:∀{xs:List V} {us:List Value} {i:Nat} {x:V},A1 xs us→xs[i]?=some x→∃ u,us[i]?=some u∧A2 x u:=by
 intro A B j x h
 induction h generalizing j with
 | nil=>
  intro e
  simp at e
 | cons r t ih=>
  intro e
  cases j with
  | zero=>
   simp at e
   subst e
   exact⟨_,rfl,r⟩
  | succ j=>
   obtain⟨y,h1,h2⟩:=ih (by simpa using e)
   exact⟨y,by simpa using h1,h2⟩
theorem A1.set {x:V}{u:Value}(r:A2 x u):∀{xs:List V} {us:List Value} (i:Nat),A1 xs us→A1 (xs.set i x) (us.set i u)
 | _,_,_,.nil=>.nil
 | _,_,0,.cons _ t=>.cons r t
 | _,_,i+1,.cons q t=>.cons q (A1.set r i t)
theorem A1.append:∀{xs ys:List V} {us ws:List Value},A1 xs us→A1 ys ws→A1 (xs++ys) (us++ws):=by
 intro A B C D h g
 induction h with
 | nil=>exact g
 | cons r t ih=>exact .cons r ih
theorem A1.take:∀{xs:List V} {us:List Value} (n:Nat),A1 xs us→A1 (xs.take n) (us.take n)
 | _,_,0,_=>.nil
 | _,_,_+1,.nil=>.nil
 | _,_,n+1,.cons r t=>.cons r (A1.take n t)
theorem A1.drop:∀{xs:List V} {us:List Value} (n:Nat),A1 xs us→A1 (xs.drop n) (us.drop n)
 | _,_,0,r=>r
 | _,_,_+1,.nil=>.nil
 | _,_,n+1,.cons _ t=>A1.drop n t
def Hs:Option V→Option Value→Prop
 | some v,some u=>A2 v u
 | none,none=>True
 | _,_=>False
def KV {κ:Type}:List (κ×V)→List (κ×Value)→Prop:=Paired fun(p:κ×V) (q:κ×Value)=>p.1=q.1∧A2 p.2 q.2
def kV:BC→V
 | .inl i=>.int i
 | .inr x=>.str x
inductive HO where
 | lst (xs:List V)
 | tup (xs:List V)
 | dK (kvs:List (BC×V)) | dT (kvs:List (List BC×V))
 | set (S:Int→Bool) (n:Nat)
 | ins (C dx:Addr) (fs:List (Str×V))
 | own (x:Addr)
 | xd (fs:List (Str×V))
 | met (f x:Addr)
 | rng (lo hi:Int)
 | frz (o:Obj) (u:HO)
 | tbl (ps:Array Value)
 | ext (φ:Heap→Prop)
abbrev Hp:=Addr→Option HO
def upd (H:Hp)(a:Addr)(o:HO):Hp:=fun b=>if b=a then some o else H b
theorem AE {H:Hp}{a:Addr}{o:HO}:upd H a o a=some o:=by unfold upd;rw[if_pos rfl]
theorem AX {H:Hp}{a b:Addr}{o:HO}(h:b≠a):upd H a o b=H b:=by unfold upd;rw[if_neg h]
theorem N5 {H:Hp}{a:Addr}{o u:HO}:upd (upd H a o) a u=upd H a u:=by
 funext b;unfold upd;split <;> rfl
theorem BJ {H:Hp}{a b:Addr}{o u:HO}(h:H a=some o)(h':H b=some u)(d:o≠u):a≠b:=by
 intro e;subst e;rw[h]at h';exact d (Option.some.inj h')
theorem AZ {H:Hp}{a b:Addr}{o:HO}(h:H a=some o)(h':H b=none):a≠b:=by
 intro e;subst e;rw[h]at h';cases h'
section
variable (P:Program)(w:World)
def BW (H:Hp)(h:Heap)(a:Addr):HO→Prop
 | .lst xs=>xs.length≤sizeLine∧∃(its:List Value) (n:Nat),A1 xs its∧h.get? a=some { cls:=.type "list",data:=.seq its.toArray n }
 | .tup xs=>xs.length≤sizeLine∧∃ its:List Value,A1 xs its∧IsTup h a its.toArray
 | .dK kvs=>kvs.length≤sizeLine∧(a==sysModules)=false∧∃ vs,KV kvs vs∧h.DictOf (BU P w) a vs
 | .dT kvs=>kvs.length≤sizeLine∧(a==sysModules)=false∧∃ xs:List (List BC×Addr×Value),
  Paired (fun(p:List BC×V) (q:List BC×Addr×Value)=>p.1=q.1∧H q.2.1=some (.tup (p.1.map kV))∧A2 p.2 q.2.2) kvs xs∧
  ∃ o es ep,h.get? a=some o∧o.ExactDict∧o.data=.dict es ep∧es.toList=xs.map (entryOfKey (tupleKind (BU P w)))∧(xs.map (·.1)).Nodup
 | .set S n=>h.SetOf (intKind P w) a S n
 | .ins C dx fs=>H dx=some (.own a)∧fs.length≤1000∧dx≠a∧h.get? a=some (PySem.W.instObj C dx)∧
  ∃ mA,h.Ns1 dx mA∧(∀ f,Hs (fs.lookup f) (mA f))∧PySem.Within mA (fs.map (·.1))
 | .own _=>∃ o,h.get? a=some o
 | .xd fs=>∃ mA,h.Ns1 a mA∧∀ f,Hs (fs.lookup f) (mA f)
 | .rng lo hi=>∃ t u v,h.get? a=some { cls:=.type "range",data:=.fields #[.int lo t,.int hi u,.int 1 v] }
 | .frz o u=>h.get? a=some o∧BW H h a u
 | .tbl ps=>h.get? a=some { cls:=.none,data:=.fields ps }
 | .met f x=>h.get? a=some (PySem.W.methodObj (.ref f) (.ref x))
 | .ext φ=>φ h∧(∃ o,h.get? a=some o)∧∀ h1 h2:Heap,φ h1→(∀ o,h1.get? a=some o→h2.get? a=some o)→φ h2
def GQ (H:Hp)(h:Heap):Prop:=∀ a o,H a=some o→BW P w H h a o
end
section
variable {P:Program}{w:World}{H H':Hp}{h h':Heap}{a:Addr}{o:HO}
theorem BW.lt (x:BW P w H h a o):a<h.objs.size:=by
 cases o with
 | lst xs=>obtain⟨_,_,_,_,e⟩:=x;exact Heap.lt_size e
 | tup xs=>obtain⟨_,_,_,p⟩:=x;exact p.lt
 | dK kvs=>obtain⟨_,_,_,_,o,_,_,e,_⟩:=x;exact Heap.lt_size e
 | dT kvs=>obtain⟨_,_,_,_,o,_,_,e,_⟩:=x;exact Heap.lt_size e
 | set S n=>obtain⟨o,_,_,_,e,_⟩:=x;exact Heap.lt_size e
 | ins C dx fs=>obtain⟨_,_,_,e,_⟩:=x;exact Heap.lt_size e
 | own y=>obtain⟨_,e⟩:=x;exact Heap.lt_size e
 | xd fs=>obtain⟨_,⟨_,_,_,e,_⟩,_⟩:=x;exact Heap.lt_size e
 | rng lo hi=>obtain⟨_,_,_,e⟩:=x;exact Heap.lt_size e
 | frz ob u=>obtain⟨e,_⟩:=x;exact Heap.lt_size e
 | tbl ps=>exact Heap.lt_size (show h.get? a=some _ from x)
 | met f y=>exact Heap.lt_size (show h.get? a=some _ from x)
 | ext φ=>obtain⟨_,⟨_,e⟩,_⟩:=x;exact Heap.lt_size e
theorem Paired.mapP {α β:Type}{F G:α→β→Prop}:∀{l₁:List α} {l₂:List β},Paired F l₁ l₂→(∀ a b,F a b→G a b)→Paired G l₁ l₂:=by
 intro A B h f
 induction h with
 | nil=>exact .nil
 | cons r t ih=>exact .cons (f _ _ r) ih
theorem Paired.imp' {α β:Type}{F G:α→β→Prop}(f:∀ a b,F a b→G a b){l₁:List α}{l₂:List β}(r:Paired F l₁ l₂):Paired G l₁ l₂:=Paired.mapP r f
theorem BW.stay (x:BW P w H h a o)(k:∀ b u,(b=a∨H b=some (.own a))→h.get? b=some u→h'.get? b=some u)
 (ho:∀ b,H b=some (.own a)→H' b=some (.own a)) (ht:∀ b xs,H b=some (.tup xs)→H' b=some (.tup xs)):BW P w H' h' a o:=by
 induction o with
 | lst xs=>obtain⟨z,its,n,r,e⟩:=x;exact⟨z,its,n,r,k _ _ (.inl rfl) e⟩
 | tup xs=>obtain⟨z,its,r,ob,e,c⟩:=x;exact⟨z,its,r,ob,k _ _ (.inl rfl) e,c⟩
 | dK kvs=>obtain⟨z,y,vs,r,ob,es,ep,e,c⟩:=x;exact⟨z,y,vs,r,ob,es,ep,k _ _ (.inl rfl) e,c⟩
 | dT kvs=>
  obtain⟨z,y,xs,r,ob,es,ep,e,c⟩:=x
  exact⟨z,y,xs,Paired.mapP r fun p q z=>⟨z.1,ht _ _ z.2.1,z.2.2⟩,ob,es,ep,k _ _ (.inl rfl) e,c⟩
 | set S n=>obtain⟨ob,es,ep,t,e,c⟩:=x;exact⟨ob,es,ep,t,k _ _ (.inl rfl) e,c⟩
 | ins C dx fs=>
  obtain⟨d,z,ne,e,mA,⟨od,es,ep,e2,c⟩,r⟩:=x
  exact⟨ho _ d,z,ne,k _ _ (.inl rfl) e,mA,⟨od,es,ep,k _ _ (.inr d) e2,c⟩,r⟩
 | own y=>obtain⟨ob,e⟩:=x;exact⟨ob,k _ _ (.inl rfl) e⟩
 | xd fs=>obtain⟨mA,⟨od,es,ep,e,c⟩,r⟩:=x;exact⟨mA,⟨od,es,ep,k _ _ (.inl rfl) e,c⟩,r⟩
 | rng lo hi=>obtain⟨t,u,v,e⟩:=x;exact⟨t,u,v,k _ _ (.inl rfl) e⟩
 | frz ob u ih=>obtain⟨e,q⟩:=x;exact⟨k _ _ (.inl rfl) e,ih q⟩
 | tbl ps=>
  have e:h.get? a=some { cls:=.none,data:=.fields ps }:=x
  show h'.get? a=some { cls:=.none,data:=.fields ps }
  exact k a _ (.inl rfl) e
 | met f y=>
  have e:h.get? a=some (PySem.W.methodObj (.ref f) (.ref y)):=x
  show h'.get? a=some (PySem.W.methodObj (.ref f) (.ref y))
  exact k a _ (.inl rfl) e
 | ext φ=>obtain⟨p,⟨o,e⟩,st⟩:=x;exact⟨st _ _ p fun o q=>k _ _ (.inl rfl) q,⟨o,k _ _ (.inl rfl) e⟩,st⟩
theorem GQ.lt (x:GQ P w H h)(e:H a=some o):a<h.objs.size:=(x a o e).lt
theorem GQ.fresh (x:GQ P w H h)(e:h.objs.size≤a):H a=none:=by
 cases q:H a with
 | none=>rfl
 | some u=>exact absurd (Nat.lt_of_lt_of_le (x.lt q) e) (Nat.lt_irrefl _)
theorem GQ.kept (x:GQ P w H h)(k:∀ b u,h.get? b=some u→h'.get? b=some u):GQ P w H h':=fun a o e=>
 (x a o e).stay (fun b u _ q=>k b u q) (fun _ q=>q) fun _ _ q=>q
theorem GQ.laid (x:GQ P w H h)(k:∀ b u,h.get? b=some u→h'.get? b=some u)(hp:h.objs.size≤a)(new:BW P w (upd H a o) h' a o):GQ P w (upd H a o) h':=fun b u e=>by
 have hn:=x.fresh hp
 by_cases hb:b=a
 ·subst hb;rw[AE]at e;cases e;exact new
 ·rw[AX hb]at e
  exact(x b u e).stay (fun c v _ q=>k c v q) (fun c q=>by rw[AX (AZ q hn)];exact q) fun c xs q=>by rw[AX (AZ q hn)];exact q
end
def Rd (H:Hp)(a:Addr)(u:HO):Prop:=H a=some u∨∃ o,H a=some (.frz o u)
theorem Rd.ok {P:Program}{w:World}{H:Hp}{h:Heap}{a:Addr}{u:HO}(r:Rd H a u)(x:GQ P w H h):BW P w H h a u:=by
 rcases r with r | ⟨o,r⟩
 ·exact x a u r
 ·obtain⟨_,q⟩:=x a _ r
  exact q
def VU:Option HO→Prop
 | some (.lst _)=>True
 | some (.dK _)=>True
 | some (.dT _)=>True
 | some (.set _ _)=>True
 | some (.ins _ _ _)=>True
 | some (.ext _)=>True
 | _=>False
section
variable {P:Program}{w:World}{H:Hp}{h h':Heap}{x e:Addr}{o':HO}
theorem GQ.write (ok:GQ P w H h)(mu:VU (H x))(he:e=x∨H e=some (.own x))(k:∀ b u,b≠e→h.get? b=some u→h'.get? b=some u)(heo:∃ u,h'.get? e=some u)
 (new:BW P w (upd H x o') h' x o'):GQ P w (upd H x o') h':=fun b u q=>by
 have nown:∀ c y,H c=some (.own y)→c≠x:=fun c y r z=>by subst z;rw[r]at mu;exact mu
 have ntup:∀ c xs,H c=some (.tup xs)→c≠x:=fun c xs r z=>by subst z;rw[r]at mu;exact mu
 by_cases hb:b=x
 ·subst hb;rw[AE]at q;cases q;exact new
 ·rw[AX hb]at q
  by_cases hbe:b=e
  ·have q':H b=some (.own x):=by
    rcases he with z | z
    ·exact absurd (hbe.trans z) hb
    ·rw[hbe];exact z
   rw[q]at q';cases q'
   obtain⟨v,hv⟩:=heo
   exact⟨v,by rw[hbe];exact hv⟩
  ·refine(ok b u q).stay (fun c v hc r=>k c v ?_ r) (fun c r=>by rw[AX (nown c b r)];exact r) fun c xs r=>by rw[AX (ntup c xs r)];exact r
   rcases hc with rfl | hc
   ·exact hbe
   ·rintro rfl
    rcases he with z | z
    ·exact nown c b hc z
    ·rw[hc]at z;cases z;exact hb rfl
end
structure Un (fs ex:List Addr)(H H':Hp)(h h':Heap):Prop where
 keep:∀ b o,h.get? b=some o→H b=none→b∉fs→b∉ex→h'.get? b=some o
 slot:∀ b o,h.get? b=some o→H b=none→b∈fs→b∉ex→∃ sl,h'.get? b=some { o with slots:=sl }
 free:∀ b o,h.get? b=some o→H b=none→b∉ex→H' b=none
 there:∀ b o,h.get? b=some o→b∉ex→∃ o',h'.get? b=some o'
 tups:∀ b xs,H b=some (.tup xs)→H' b=some (.tup xs)
 frzs:∀ b o u,H b=some (.frz o u)→H' b=some (.frz o u)
 tbls:∀ b ps,H b=some (.tbl ps)→∃ more,H' b=some (.tbl (ps++more))
section
variable {fs fs' ex ex':List Addr}{H H1 H2:Hp}{h h1 h2 h':Heap}{a x e:Addr}{o:HO}
theorem Un.any (u:Un fs ex H H1 h h1){b:Addr}{ob:Obj}(q:h.get? b=some ob)(n:H b=none)(hx:b∉ex):∃ sl,h1.get? b=some { ob with slots:=sl }:=by
 by_cases hb:b∈fs
 ·exact u.slot b ob q n hb hx
 ·exact⟨ob.slots,u.keep b ob q n hb hx⟩
theorem Un.kept (k:∀ b u,h.get? b=some u→h'.get? b=some u):Un fs ex H H h h':=
 ⟨fun b ob q _ _ _=>k b ob q,fun b ob q _ _ _=>⟨ob.slots,k b ob q⟩,fun _ _ _ n _=>n,fun b ob q _=>⟨ob,k b ob q⟩,fun _ _ q=>q,fun _ _ _ q=>q,fun _ ps q=>⟨#[],by rw[q];simp⟩⟩
theorem Un.refl:Un fs ex H H h h:=Un.kept fun _ _ q=>q
theorem Un.laid (k:∀ b u,h.get? b=some u→h'.get? b=some u)(hp:h.objs.size≤a)(hn:H a=none):Un fs ex H (upd H a o) h h' where
 keep:=fun b u q _ _ _=>k b u q
 slot:=fun b u q _ _ _=>⟨u.slots,k b u q⟩
 free:=fun b u q n _=>by rw[AX (Nat.ne_of_lt (Nat.lt_of_lt_of_le (Heap.lt_size q) hp))];exact n
 there:=fun b u q _=>⟨u,k b u q⟩
 tups:=fun b xs q=>by rw[AX (AZ q hn)];exact q
 frzs:=fun b u xs q=>by rw[AX (AZ q hn)];exact q
 tbls:=fun b ps q=>⟨#[],by rw[AX (AZ q hn),q];simp⟩
theorem Un.write (mu:VU (H x))(he:e=x∨H e=some (.own x))(k:∀ b u,b≠e→h.get? b=some u→h'.get? b=some u)(heo:∃ u,h'.get? e=some u):Un fs ex H (upd H x o) h h':=by
 have hx:∀ b,H b=none→b≠x:=fun b n z=>by subst z;rw[n]at mu;exact mu
 have hb:∀ b,H b=none→b≠e:=fun b n z=>by
  subst z
  rcases he with r | r
  ·exact hx b n r
  ·rw[n]at r;cases r
 have hm:∀ b u,H b=some u→¬ VU (some u)→b≠x:=fun b u q nm z=>by subst z;rw[q]at mu;exact nm mu
 refine⟨fun b u q n _ _=>k b u (hb b n) q,fun b u q n _ _=>⟨u.slots,k b u (hb b n) q⟩,fun b u q n _=>by rw[AX (hx b n)];exact n,fun b u q _=>?_,
  fun b xs q=>by rw[AX (hm b _ q fun z=>z)];exact q,fun b u xs q=>by rw[AX (hm b _ q fun z=>z)];exact q,fun b ps q=>⟨#[],by rw[AX (hm b _ q fun z=>z),q];simp⟩⟩
 by_cases hbe:b=e
 ·subst hbe;exact heo
 ·exact⟨u,k b u hbe q⟩
end
def trk (h:Heap)(H:Hp):List Addr:=(List.range h.objs.size).filter fun a=>(H a).isSome
def Id (h:Heap)(H:Hp):Heap:=PySem.W.hideAll h (trk h H)
theorem Kl (h:Heap)(H:Hp):(Id h H).objs.size=h.objs.size:=PySem.W.hideAll_size _ _
theorem L9 {h:Heap}{H:Hp}{b:Addr}{o:Obj}(e:h.get? b=some o)(n:H b=none):(Id h H).get? b=some o:=
 PySem.W.hideAll_get _ e fun hm=>by
  have q:(H b).isSome=true:=(List.mem_filter.mp hm).2
  rw[n]at q;simp at q
theorem N6 {h:Heap}{H:Hp}{b:Addr}{o:Obj}(e:(Id h H).get? b=some o):h.get? b=some o∧H b=none:=by
 have e':h.get? b=some o:=PySem.W.of_hideAll (trk h H) e
 refine⟨e',?_⟩
 cases q:H b with
 | none=>rfl
 | some x=>
  have hm:b∈trk h H:=List.mem_filter.mpr ⟨List.mem_range.mpr (Heap.lt_size e'),by simp[q]⟩
  have z:(Id h H).get? b=none:=PySem.W.hideAll_none (trk h H) hm
  rw[z]at e;cases e
def Rp (g h:Heap)(L:Addr):List (Addr×Obj):=(List.range h.objs.size).filterMap fun a=>if a=L∨(g.get? a).isSome=true then none else(h.get? a).map fun o=>(a,o)
def Bv (g h:Heap)(L d:Addr):List (Addr×Obj):=(Rp g h L).filter fun p=>decide (p.1≠d)
structure Mod (K:PySem.W.Frag)(mg:Str→Option Value)(base:Heap):Prop where
 kin:K.In base
 glob:base.Ns mainGlobals mg
 blt:∃ mb,base.Ns builtinsNs mb∧∀ x:Str,x≠"__name__"→mb x=bootBuiltins x
 nolimit:base.NoLimit
structure Cx where
 prog:Program
 w:World
 K:PySem.W.Frag
 mg:Str→Option Value
 base:Heap
 A:Around
 N:List Str
 s₀:Shared
 H₀:Hp
 env:Env
 outer:List Env
 stack:List Env
 ex:List Addr
 fn:Str→Bool
 calm:Bool
 pn:List (Addr×Obj)
 xe:Value→Shared→Prop
def Iz (l:List Env):List Addr:=l.filterMap (·.frame)
abbrev Cx.fs (X:Cx):List Addr:=Iz X.outer
def X3 (sc:Scope)(x:Str):Prop:=sc.names.lookup x=some .local∨sc.names.lookup x=some .cell∨sc.names.lookup x=some .free
def Xm (sc:Scope)(x:Str):Prop:=sc.names.lookup x=some .local∨sc.names.lookup x=some .cell
def X4 (env:Env)(h:Heap)(m:Str→Option Value)(x:Str)(u:Value):Prop:=
 (env.kindOf x=some .local∧m x=some u)∨((env.kindOf x=some .cell∨env.kindOf x=some .free)∧∃ c,env.cells.lookup x=some c∧h.IsCell c (some u))
structure Cx.Ok (X:Cx):Prop where
 mod:Mod X.K X.mg X.base
 kind:X.env.scope.kind=.function
 glob:X.env.globals=mainGlobals
 blt:X.env.builtins=builtinsNs
 above:X.s₀.heap.objs.size≤X.env.locals
 inj:∀ x y c,X.env.cells.lookup x=some c→X.env.cells.lookup y=some c→x=y
 has:∀ x,(X.env.kindOf x=some .cell∨X.env.kindOf x=some .free)→∃ c,X.env.cells.lookup x=some c
 cab:∀ x c,X.fn x=true→X.env.cells.lookup x=some c→X.s₀.heap.objs.size≤c
 hd:X.calm=true→X.A.handled=none
 frames:X.A.frames=some X.stack
 stk:X.stack=X.outer∨(X.stack=X.env::X.outer∧X.env.frame=some X.env.locals)
 exf:∀ b∈X.ex,b≠X.env.locals∧∀ x c,X.env.cells.lookup x=some c→c≠b
 bs:∀ b o,X.base.get? b=some o→X.s₀.heap.get? b=some o∧X.H₀ b=none
 bsz:X.base.objs.size≤X.s₀.heap.objs.size
 noex:∀ b o,X.base.get? b=some o→b∉X.ex
 exfs:∀ b∈X.ex,b∉X.fs
 funs:X.s₀.heap.FunFrames X.base X.outer
 frf:∀ b∈X.fs,X.H₀ b=none
structure Ao (X:Cx)(pins:List (Addr×Obj))(σ:List (Option V))(H:Hp)(s:Shared):Prop where
 ok:X.Ok
 os:s.os=X.s₀.os
 bare:AllBare s.gens
 base:Un X.fs X.ex X.H₀ H X.s₀.heap s.heap
 loc:∃ m,s.heap.Ns X.env.locals m∧∀(i:Nat) (x:Str) (v:V),X.N[i]?=some x→σ[i]?=some (some v)→X3 X.env.scope x→∃ u,A2 v u∧X4 X.env s.heap m x u
 cell:∀ x c,X.env.cells.lookup x=some c→∃ v,s.heap.IsCell c v
 free:H X.env.locals=none
 freeC:∀ x c,X.env.cells.lookup x=some c→H c=none
 pin:∀ p∈X.pn++pins,s.heap.get? p.1=some p.2∧H p.1=none∧p.1≠X.env.locals∧p.1∉X.fs∧∀ v,p.2.data≠.cell v
 hok:GQ X.prog X.w H s.heap
 len:σ.length=X.N.length
section
variable {X:Cx}{pins:List (Addr×Obj)}{σ:List (Option V)}{H H':Hp}{s:Shared}{h':Heap}
theorem Cx.Ok.nofr (ok:X.Ok){b:Addr}{o:Obj}(e:X.base.get? b=some o):b∉X.fs:=fun hb=>by
 have:=(ok.funs.mem hb).1
 rw[e]at this;cases this
theorem Ao.bs (I:Ao X pins σ H s):∀ b o,X.base.get? b=some o→s.heap.get? b=some o∧H b=none:=fun b o e=>
 ⟨I.base.keep b o (I.ok.bs b o e).1 (I.ok.bs b o e).2 (I.ok.nofr e) (I.ok.noex b o e),I.base.free b o (I.ok.bs b o e).1 (I.ok.bs b o e).2 (I.ok.noex b o e)⟩
theorem Ao.bk (I:Ao X pins σ H s):∀ b o,X.base.get? b=some o→s.heap.get? b=some o:=fun b o e=>(I.bs b o e).1
theorem Ao.mod (I:Ao X pins σ H s):Mod X.K X.mg X.base:=I.ok.mod
theorem Ao.kIn (I:Ao X pins σ H s):X.K.In s.heap:=I.ok.mod.kin.keeps I.bk
theorem Ao.lt (I:Ao X pins σ H s):X.env.locals<s.heap.objs.size:=by
 obtain⟨_,hn,_⟩:=I.loc
 exact hn.lt
theorem Ao.sz (I:Ao X pins σ H s):X.s₀.heap.objs.size≤s.heap.objs.size:=Nat.le_trans I.ok.above (Nat.le_of_lt I.lt)
theorem Ao.nofs (I:Ao X pins σ H s){a:Addr}(h:s.heap.objs.size≤a):a∉X.fs:=fun hb=>by
 obtain⟨_,o,ho,_⟩:=I.ok.funs.mem hb
 exact absurd (Nat.lt_of_lt_of_le (Heap.lt_size ho) (Nat.le_trans I.sz h)) (Nat.lt_irrefl _)
theorem Ao.cne (I:Ao X pins σ H s):∀ x c,X.env.cells.lookup x=some c→c≠X.env.locals:=fun x c e z=>by
 obtain⟨v,o,ho,hd⟩:=I.cell x c e
 obtain⟨m,⟨o',es,ep,ho',hd',_⟩,_⟩:=I.loc
 rw[z,ho']at ho;cases ho;rw[hd']at hd;cases hd
theorem Ao.funs (I:Ao X pins σ H s):s.heap.FunFrames X.base X.outer:=by
 have all:∀(l:List Env),(∀ b∈Iz l,b∈X.fs)→X.s₀.heap.FunFrames X.base l→s.heap.FunFrames X.base l:=by
  intro l
  induction l with
  | nil=>intro _ _;trivial
  | cons env r ih=>
   intro hs hl
   obtain⟨hk,⟨L,o,hf,hn,ho,hd⟩,hr⟩:=hl
   have hL:L∈X.fs:=hs L (by unfold Iz;rw[List.filterMap_cons,hf];exact List.mem_cons_self)
   obtain⟨sl,e⟩:=I.base.slot L o ho (I.ok.frf L hL) hL fun z=>I.ok.exfs L z hL
   exact⟨hk,⟨L,_,hf,hn,e,hd⟩,ih (fun b hb=>hs b (by unfold Iz;rw[List.filterMap_cons,hf];exact List.mem_cons_of_mem _ hb)) hr⟩
 exact all X.outer (fun _ hb=>hb) I.ok.funs
theorem Ao.stack (I:Ao X pins σ H s):s.heap.FunFrames X.base X.stack:=by
 rcases I.ok.stk with e | ⟨e,hf⟩
 ·rw[e];exact I.funs
 ·rw[e]
  obtain⟨m,hn,_⟩:=I.loc
  refine .cons (by rw[I.ok.kind];decide) hf hn ?_ I.funs
  exact Heap.get?_none_of_le (Nat.le_trans I.ok.bsz I.ok.above)
theorem Ao.stkSub (I:Ao X pins σ H s):∀ b∈Iz X.stack,b∈X.env.locals::X.fs:=fun b hb=>by
 rcases I.ok.stk with e | ⟨e,hf⟩
 ·rw[e]at hb;exact List.mem_cons_of_mem _ hb
 ·rw[e]at hb
  unfold Iz at hb
  rw[List.filterMap_cons,hf]at hb
  exact hb
theorem Ao.stkFree (I:Ao X pins σ H s):∀ b∈Iz X.stack,H b=none:=fun b hb=>by
 rcases List.mem_cons.mp (I.stkSub b hb)with e | hb
 ·rw[e];exact I.free
 ·obtain⟨_,o,ho,_⟩:=I.ok.funs.mem hb
  exact I.base.free b o ho (I.ok.frf b hb) fun z=>I.ok.exfs b z hb
theorem Ao.step {g':Array GenState}{t':Nat}{d':Drawn}{ch:List Addr}(I:Ao X pins σ H s)
 (hch:∀ b∈ch,(b∈X.ex∨X.s₀.heap.objs.size≤b)∧b≠X.env.locals∧(∀ x c,X.env.cells.lookup x=some c→c≠b)∧∀ p∈X.pn++pins,p.1≠b)
 (keep:∀ b o,b≠X.env.locals→b∉X.fs→b∉ch→s.heap.get? b=some o→H b=none→h'.get? b=some o)
 (slot:∀ b o,b≠X.env.locals→b∈X.fs→b∉ch→s.heap.get? b=some o→H b=none→∃ sl,h'.get? b=some { o with slots:=sl }) (free:∀ b o,b∉ch→s.heap.get? b=some o→H b=none→H' b=none)
 (there:∀ b o,b∉ch→s.heap.get? b=some o→∃ o',h'.get? b=some o')
 (tups:∀ b xs,H b=some (.tup xs)→H' b=some (.tup xs)) (frzs:∀ b o u,H b=some (.frz o u)→H' b=some (.frz o u)) (tbls:∀ b ps,H b=some (.tbl ps)→∃ more,H' b=some (.tbl (ps++more)))
 (ns:∀ m,s.heap.Ns X.env.locals m→h'.Ns X.env.locals m) (hok:GQ X.prog X.w H' h') (hg:AllBare g'):
 Ao X pins σ H' { s with heap:=h',gens:=g',drawn:=d',toks:=t' }:=by
 have neL:∀ b o,X.s₀.heap.get? b=some o→b≠X.env.locals:=fun b o e=>Nat.ne_of_lt (Nat.lt_of_lt_of_le (Heap.lt_size e) I.ok.above)
 have neC:∀ b o,X.s₀.heap.get? b=some o→b∉X.ex→b∉ch:=fun b o e hx hb=>by
  rcases(hch b hb).1 with z | z
  ·exact hx z
  ·exact absurd (Nat.lt_of_lt_of_le (Heap.lt_size e) z) (Nat.lt_irrefl _)
 have cellK:∀ x c,X.env.cells.lookup x=some c→∀ v,s.heap.IsCell c v→h'.IsCell c v:=fun x c e v ⟨o,ho,hd⟩=>by
  have nch:c∉ch:=fun z=>(hch c z).2.2.1 x c e rfl
  by_cases hc:c∈X.fs
  ·obtain⟨sl,q⟩:=slot c o (I.cne x c e) hc nch ho (I.freeC x c e)
   exact⟨_,q,hd⟩
  ·exact⟨o,keep c o (I.cne x c e) hc nch ho (I.freeC x c e),hd⟩
 refine⟨I.ok,I.os,hg,⟨fun b o e n hb hx=>?_,fun b o e n hb hx=>?_,fun b o e n hx=>?_,fun b o e hx=>?_,fun b xs e=>tups b xs (I.base.tups b xs e),fun b o xs e=>frzs b o xs (I.base.frzs b o xs e),fun b ps e=>?_⟩,?_,fun x c e=>?_,?_,fun x c e=>?_,fun p hp=>?_,hok,I.len⟩
 ·exact keep b o (neL b o e) hb (neC b o e hx) (I.base.keep b o e n hb hx) (I.base.free b o e n hx)
 ·obtain⟨sl,e1⟩:=I.base.slot b o e n hb hx
  obtain⟨sl',e2⟩:=slot b _ (neL b o e) hb (neC b o e hx) e1 (I.base.free b o e n hx)
  exact⟨sl',e2⟩
 ·obtain⟨o',e1⟩:=I.base.there b o e hx
  exact free b o' (neC b o e hx) e1 (I.base.free b o e n hx)
 ·obtain⟨o',e1⟩:=I.base.there b o e hx
  exact there b o' (neC b o e hx) e1
 ·obtain⟨m1,e1⟩:=I.base.tbls b ps e
  obtain⟨m2,e2⟩:=tbls b _ e1
  exact⟨m1++m2,by rw[e2,Array.append_assoc]⟩
 ·obtain⟨m,hn,hl⟩:=I.loc
  refine⟨m,ns m hn,fun i x v e1 e2 e3=>?_⟩
  obtain⟨u,r,l⟩:=hl i x v e1 e2 e3
  refine⟨u,r,?_⟩
  rcases l with l | ⟨k,c,e,z⟩
  ·exact .inl l
  ·exact .inr ⟨k,c,e,cellK x c e _ z⟩
 ·obtain⟨v,z⟩:=I.cell x c e
  exact⟨v,cellK x c e v z⟩
 ·obtain⟨m,⟨o,_,_,ho,_⟩,_⟩:=I.loc
  exact free _ o (fun z=>(hch _ z).2.1 rfl) ho I.free
 ·obtain⟨v,o,ho,hd⟩:=I.cell x c e
  exact free c o (fun z=>(hch c z).2.2.1 x c e rfl) ho (I.freeC x c e)
 ·obtain⟨e,n,ne,nf,d⟩:=I.pin p hp
  have nch:p.1∉ch:=fun z=>(hch p.1 z).2.2.2 p hp rfl
  exact⟨keep p.1 p.2 ne nf nch e n,free p.1 p.2 nch e n,ne,nf,d⟩
theorem Ao.un {t':Nat}(I:Ao X pins σ H s)(u:Un X.fs [] H H' s.heap h')(hok:GQ X.prog X.w H' h'):Ao X pins σ H' { s with heap:=h',toks:=t' }:=by
 obtain⟨m,⟨o,es,ep,ho,r⟩,_⟩:=id I.loc
 obtain⟨sl,hL⟩:=u.any ho I.free (by simp)
 exact I.step (g':=s.gens) (d':=s.drawn) (ch:=[]) (fun _ z=>nomatch z) (fun b o _ hb _ e n=>u.keep b o e n hb (by simp)) (fun b o _ hb _ e n=>u.slot b o e n hb (by simp)) (fun b o _ e n=>u.free b o e n (by simp)) (fun b o _ e=>u.there b o e (by simp)) u.tups u.frzs u.tbls (fun m' hm=>by
  obtain⟨o',es',ep',ho',r'⟩:=hm
  rw[ho]at ho';cases ho'
  exact⟨_,es',ep',hL,r'⟩) hok I.bare
theorem Ao.call {g':Array GenState}{t':Nat}{d':Drawn}{ch:List Addr}(I:Ao X pins σ H s)(u:Un (Iz X.stack) ch H H' s.heap h')(hok:GQ X.prog X.w H' h')(hg:AllBare g')
 (hch:∀ b∈ch,(b∈X.ex∨X.s₀.heap.objs.size≤b)∧b≠X.env.locals∧(∀ x c,X.env.cells.lookup x=some c→c≠b)∧∀ p∈X.pn++pins,p.1≠b):
 Ao X pins σ H' { s with heap:=h',gens:=g',drawn:=d',toks:=t' }:=by
 obtain⟨m,⟨o,es,ep,ho,r⟩,_⟩:=id I.loc
 obtain⟨sl,hL⟩:=u.any ho I.free fun z=>(hch _ z).2.1 rfl
 exact I.step (ch:=ch) hch (fun b o hL hb hc e n=>u.keep b o e n (fun z=>(List.mem_cons.mp (I.stkSub b z)).elim hL hb) hc) (fun b o _ _ hc e n=>u.any e n hc) (fun b o hc e n=>u.free b o e n hc) (fun b o hc e=>u.there b o e hc) u.tups u.frzs u.tbls (fun m' hm=>by
  obtain⟨o',es',ep',ho',r'⟩:=hm
  rw[ho]at ho';cases ho'
  exact⟨_,es',ep',hL,r'⟩) hok hg
theorem Ao.turned {t':Nat}{it:Addr}(I:Ao X pins σ H s)(k:∀ b o,b≠it→s.heap.get? b=some o→h'.get? b=some o)(hn:H it=none)(hL:it≠X.env.locals)
 (h1:it∈X.ex∨X.s₀.heap.objs.size≤it) (h2:∀ x c,X.env.cells.lookup x=some c→c≠it) (h3:∀ p∈X.pn++pins,p.1≠it):Ao X pins σ H { s with heap:=h',toks:=t' }:=by
 have nit:∀ b u,H b=some u→b≠it:=fun b u e z=>by rw[z,hn]at e;cases e
 refine I.step (g':=s.gens) (d':=s.drawn) (ch:=[it]) (fun b hb=>?_) (fun b o _ _ hc e _=>k b o (fun z=>hc (by simp[z])) e) (fun b o _ _ hc e _=>⟨o.slots,k b o (fun z=>hc (by simp[z])) e⟩) (fun _ _ _ _ n=>n)
  (fun b o hc e=>⟨o,k b o (fun z=>hc (by simp[z])) e⟩) (fun _ _ e=>e) (fun _ _ _ e=>e) (fun b ps e=>⟨#[],by rw[e];simp⟩) (fun m hm=>?_) (fun b u e=>?_) I.bare
 ·have e:b=it:=by simpa using hb
  subst e
  exact⟨h1,hL,h2,h3⟩
 ·obtain⟨o,es,ep,ho,r⟩:=hm
  exact⟨o,es,ep,k _ o (Ne.symm hL) ho,r⟩
 ·refine(I.hok b u e).stay (fun c v hc q=>k c v ?_ q) (fun _ q=>q) fun _ _ q=>q
  rcases hc with z | z
  ·rw[z];exact nit b u e
  ·exact nit c _ z
theorem Ao.tok (I:Ao X pins σ H s)(t:Nat):Ao X pins σ H { s with toks:=t }:=I.un (h':=s.heap) (t':=t) Un.refl I.hok
theorem Ao.kept {t':Nat}(I:Ao X pins σ H s)(k:∀ b u,s.heap.get? b=some u→h'.get? b=some u):Ao X pins σ H { s with heap:=h',toks:=t' }:=I.un (Un.kept k) (I.hok.kept k)
theorem Ao.laid {a:Addr}{o:HO}{t':Nat}(I:Ao X pins σ H s)(k:∀ b u,s.heap.get? b=some u→h'.get? b=some u)(hp:s.heap.objs.size≤a)(new:BW X.prog X.w (upd H a o) h' a o):
 Ao X pins σ (upd H a o) { s with heap:=h',toks:=t' }:=I.un (Un.laid k hp (I.hok.fresh hp)) (I.hok.laid k hp new)
theorem Ao.write {x e:Addr}{o:HO}{t':Nat}(I:Ao X pins σ H s)(mu:VU (H x))(he:e=x∨H e=some (.own x))(k:∀ b u,b≠e→s.heap.get? b=some u→h'.get? b=some u)(heo:∃ u,h'.get? e=some u)
 (new:BW X.prog X.w (upd H x o) h' x o):Ao X pins σ (upd H x o) { s with heap:=h',toks:=t' }:=I.un (Un.write mu he k heo) (I.hok.write mu he k heo new)
theorem Ao.pins_of {pins':List (Addr×Obj)}(I:Ao X pins σ H s)(h:∀ p∈pins',s.heap.get? p.1=some p.2∧H p.1=none∧p.1≠X.env.locals∧p.1∉X.fs∧∀ v,p.2.data≠.cell v):Ao X pins' σ H s:=
 ⟨I.ok,I.os,I.bare,I.base,I.loc,I.cell,I.free,I.freeC,fun p hp=>(List.mem_append.mp hp).elim (fun z=>I.pin p (List.mem_append_left _ z)) (h p),I.hok,I.len⟩
theorem MA {N:List Str}(hN:N.Nodup){i j:Nat}{x:Str}(a:N[i]?=some x)(b:N[j]?=some x):i=j:=by
 obtain⟨h1,e1⟩:=List.getElem?_eq_some_iff.mp a
 obtain⟨h2,e2⟩:=List.getElem?_eq_some_iff.mp b
 exact(List.getElem_inj hN).mp (e1.trans e2.symm)
theorem Km {M:Model}{A:Around}{E:Value→Shared→Prop}{i:Nat}{x:Str}{v:V}{u:Value}{Q:Unit→Shared→Prop}(I:Ao X pins σ H s)(hN:X.N.Nodup)(hi:X.N[i]?=some x)(hx:Xm X.env.scope x)(r:A2 v u)
 (h:∀ s',Ao X pins (σ.set i (some v)) H s'→(∃ a,Heap.SameBut a s.heap s'.heap∧(a=X.env.locals∨X.env.cells.lookup x=some a))→Q () s') (hf:X.fn x=true∨X.env.scope.names.lookup x=some .local:=by first | exact .inl rfl | exact .inr rfl | assumption):wpAny M A (storeName X.env x u) Q E s:=by
 obtain⟨m,hn,hl⟩:=id I.loc
 have hcls:(X.env.scope.kind==.class||(X.env.scope.kind==.module&&X.env.locals != X.env.globals))=false:=by rw[I.ok.kind];rfl
 have hiσ:i<σ.length:=by rw[I.len];exact(List.getElem?_eq_some_iff.mp hi).1
 have cne:=I.cne
 have tracked:∀{a:Addr} {h':Heap},(∃ o,s.heap.get? a=some o∧H a=none)→Heap.SameBut a s.heap h'→GQ X.prog X.w H h':=fun {a h'} ha hs b ob e=>by
  obtain⟨_,_,hfree⟩:=ha
  refine(I.hok b ob e).stay (fun c w' hc q=>(hs.2 c ?_).trans q) (fun _ q=>q) fun _ _ q=>q
  rintro rfl
  rcases hc with rfl | hc
  ·rw[hfree]at e;cases e
  ·rw[hfree]at hc;cases hc
 rcases hx with hk | hk
 ·refine wpAny_storeName_local hk hn (fun h' hn' hs=>?_) hcls
  obtain⟨oL,_,_,hoL,_⟩:=id hn
  refine h _ ⟨I.ok,I.os,I.bare,⟨fun b o e n hb hx=>?_,fun b o e n hb hx=>?_,I.base.free,fun b o e hx=>?_,I.base.tups,I.base.frzs,I.base.tbls⟩,⟨_,hn',fun j y v' e1 e2 e3=>?_⟩,fun y c e=>?_,I.free,I.freeC,fun p hp=>?_,tracked ⟨oL,hoL,I.free⟩ hs,by simpa using I.len⟩ ⟨_,hs,.inl rfl⟩
  ·exact(hs.2 b (Nat.ne_of_lt (Nat.lt_of_lt_of_le (Heap.lt_size e) I.ok.above))).trans (I.base.keep b o e n hb hx)
  ·obtain⟨sl,e1⟩:=I.base.slot b o e n hb hx
   exact⟨sl,(hs.2 b (Nat.ne_of_lt (Nat.lt_of_lt_of_le (Heap.lt_size e) I.ok.above))).trans e1⟩
  ·obtain⟨o',e1⟩:=I.base.there b o e hx
   exact⟨o',(hs.2 b (Nat.ne_of_lt (Nat.lt_of_lt_of_le (Heap.lt_size e) I.ok.above))).trans e1⟩
  ·by_cases hj:j=i
   ·subst hj
    rw[hi]at e1;cases e1
    rw[List.getElem?_set_self hiσ]at e2
    cases e2
    exact⟨u,r,.inl ⟨hk,by simp⟩⟩
   ·rw[List.getElem?_set_ne (Ne.symm hj)]at e2
    obtain⟨u',r',q⟩:=hl j y v' e1 e2 e3
    refine⟨u',r',?_⟩
    rcases q with⟨k,e⟩ | ⟨k,c,e,z⟩
    ·refine .inl ⟨k,?_⟩
     have:y≠x:=fun e=>hj (MA hN e1 (e▸hi))
     simp[this,e]
    ·exact .inr ⟨k,c,e,z.sameBut hs (cne y c e)⟩
  ·obtain⟨w',z⟩:=I.cell y c e
   exact⟨w',z.sameBut hs (cne y c e)⟩
  ·obtain⟨e,n,ne,nf,d⟩:=I.pin p hp
   exact⟨(hs.2 p.1 ne).trans e,n,ne,nf,d⟩
 ·have hfn:X.fn x=true:=by
   rcases hf with z | z
   ·exact z
   ·rw[z]at hk;cases hk
  obtain⟨c,hc⟩:=I.ok.has x (.inl hk)
  obtain⟨w',z⟩:=I.cell x c hc
  refine wpAny_storeName_cell I.ok.kind hk hc z (fun h' hc' hs=>?_)
  obtain⟨oc,hoc,hocd⟩:=id z
  refine h { s with heap:=h' } ⟨I.ok,I.os,I.bare,⟨fun b o e n hb hx=>?_,fun b o e n hb hx=>?_,I.base.free,fun b o e hx=>?_,I.base.tups,I.base.frzs,I.base.tbls⟩,⟨m,hn.sameBut hs (Ne.symm (cne x c hc)),fun j y v' e1 e2 e3=>?_⟩,fun y c' e=>?_,I.free,I.freeC,fun p hp=>?_,tracked ⟨oc,hoc,I.freeC x c hc⟩ hs,by simpa using I.len⟩ ⟨c,hs,.inr hc⟩
  ·exact(hs.2 b (Nat.ne_of_lt (Nat.lt_of_lt_of_le (Heap.lt_size e) (I.ok.cab x c hfn hc)))).trans (I.base.keep b o e n hb hx)
  ·obtain⟨sl,e1⟩:=I.base.slot b o e n hb hx
   exact⟨sl,(hs.2 b (Nat.ne_of_lt (Nat.lt_of_lt_of_le (Heap.lt_size e) (I.ok.cab x c hfn hc)))).trans e1⟩
  ·obtain⟨o',e1⟩:=I.base.there b o e hx
   exact⟨o',(hs.2 b (Nat.ne_of_lt (Nat.lt_of_lt_of_le (Heap.lt_size e) (I.ok.cab x c hfn hc)))).trans e1⟩
  ·by_cases hj:j=i
   ·subst hj
    rw[hi]at e1;cases e1
    rw[List.getElem?_set_self hiσ]at e2
    cases e2
    exact⟨u,r,.inr ⟨.inl hk,c,hc,hc'⟩⟩
   ·rw[List.getElem?_set_ne (Ne.symm hj)]at e2
    obtain⟨u',r',q⟩:=hl j y v' e1 e2 e3
    refine⟨u',r',?_⟩
    rcases q with q | ⟨k,c',e,z'⟩
    ·exact .inl q
    ·refine .inr ⟨k,c',e,z'.sameBut hs ?_⟩
     rintro rfl
     exact hj (MA hN e1 (I.ok.inj _ _ _ e hc▸hi))
  ·by_cases hcc:c'=c
   ·subst hcc;exact⟨_,hc'⟩
   ·obtain⟨w2,z2⟩:=I.cell y c' e
    exact⟨w2,z2.sameBut hs hcc⟩
  ·obtain⟨e,n,ne,nf,d⟩:=I.pin p hp
   refine⟨(hs.2 p.1 ?_).trans e,n,ne,nf,d⟩
   intro q
   rw[q,hoc]at e
   have q':oc=p.2:=Option.some.inj e
   exact d w' (by rw[← q'];exact hocd)
theorem G4 {M:Model}{A:Around}{E:Value→Shared→Prop}{i:Nat}{x:Str}{v:V}{u:Value}{Q:Unit→Shared→Prop}(I:Ao X pins σ H s)(hN:X.N.Nodup)(hi:X.N[i]?=some x)(hx:Xm X.env.scope x)(r:A2 v u)
 (h:∀ s',Ao X pins (σ.set i (some v)) H s'→Q () s') (hf:X.fn x=true∨X.env.scope.names.lookup x=some .local:=by first | exact .inl rfl | exact .inr rfl | assumption):wpAny M A (storeName X.env x u) Q E s:=
 Km I hN hi hx r (fun s' I' _=>h s' I') hf
theorem Ao.call' {s':Shared}{ch:List Addr}(I:Ao X pins σ H s)(ho:s'.os=s.os)(u:Un (Iz X.stack) ch H H' s.heap s'.heap)(hok:GQ X.prog X.w H' s'.heap)(hg:AllBare s'.gens)
 (hch:∀ b∈ch,(b∈X.ex∨X.s₀.heap.objs.size≤b)∧b≠X.env.locals∧(∀ x c,X.env.cells.lookup x=some c→c≠b)∧∀ p∈X.pn++pins,p.1≠b):Ao X pins σ H' s':=by
 obtain⟨h',g',d',t',o'⟩:=s'
 have e:o'=s.os:=ho
 subst e
 exact I.call (g':=g') (t':=t') (d':=d') u hok hg hch
end
abbrev XK:=Value→Option Addr→Hp→Prop
abbrev St:=List (Option V)
abbrev VK:=V→Hp→Prop
abbrev TE:=St→Hp→VK→Prop
abbrev TT:=St→Hp→(Bool→Hp→Prop)→Prop
abbrev TA:=St→Hp→(List V→Hp→Prop)→Prop
structure Dj where
 nx:St→Hp→Prop
 rt:VK
 bk:St→Hp→Prop:=fun _ _=>False
 ct:St→Hp→Prop:=fun _ _=>False
abbrev TS:=Dj→St→Hp→Prop
def EP (X:Cx)(pins:List (Addr×Obj))(σ:St)(Q:VK)(u:Value)(s':Shared):Prop:=∃ v H',Ao X pins σ H' s'∧A2 v u∧Q v H'
def TP (X:Cx)(pins:List (Addr×Obj))(σ:St)(Q:Bool→Hp→Prop)(b:Bool)(s':Shared):Prop:=∃ H',Ao X pins σ H' s'∧Q b H'
def AP (X:Cx)(pins:List (Addr×Obj))(σ:St)(Q:List V→Hp→Prop)(us:List Value)(s':Shared):Prop:=∃ vs H',Ao X pins σ H' s'∧A1 vs us∧Q vs H'
def SP (X:Cx)(pins:List (Addr×Obj))(D:Dj)(f:Flow)(s':Shared):Prop:=
 match f with
 | .next=>∃ σ' H',Ao X pins σ' H' s'∧D.nx σ' H'
 | .brk=>∃ σ' H',Ao X pins σ' H' s'∧D.bk σ' H'
 | .cont=>∃ σ' H',Ao X pins σ' H' s'∧D.ct σ' H'
 | .ret u=>∃ v σ' H',Ao X pins σ' H' s'∧A2 v u∧D.rt v H'
def PE (X:Cx)(e:Expr)(t:TE):Prop:=
 ∀(pins:List (Addr×Obj)) (s:Shared) (σ:St) (H:Hp) (Q:VK),Ao X pins σ H s→t σ H Q→wpAny (model X.prog X.w) X.A (eval e X.env) (EP X pins σ Q) X.xe s
def PT (X:Cx)(e:Expr)(t:TT):Prop:=
 ∀(pins:List (Addr×Obj)) (s:Shared) (σ:St) (H:Hp) (Q:Bool→Hp→Prop),Ao X pins σ H s→t σ H Q→wpAny (model X.prog X.w) X.A (isTrue e X.env (eval e X.env)) (TP X pins σ Q) X.xe s
def PW (X:Cx)(e:Expr)(t:TT):Prop:=
 ∀(whole:Sem Value) (pins:List (Addr×Obj)) (s:Shared) (σ:St) (H:Hp) (Q:Bool→Hp→Prop),Ao X pins σ H s→t σ H Q→wpAny (model X.prog X.w) X.A (isTrue e X.env whole) (TP X pins σ Q) X.xe s
theorem PW.pt {X:Cx}{e:Expr}{t:TT}(h:PW X e t):PT X e t:=h _
def PA (X:Cx)(es:List Expr)(t:TA):Prop:=
 ∀(pos:Pos) (pins:List (Addr×Obj)) (s:Shared) (σ:St) (H:Hp) (Q:List V→Hp→Prop),Ao X pins σ H s→t σ H Q→wpAny (model X.prog X.w) X.A (spliced (backTo pos (starEach es X.env))) (AP X pins σ Q) X.xe s
def PS (X:Cx)(st:Stmt)(t:TS):Prop:=
 ∀(pins:List (Addr×Obj)) (s:Shared) (σ:St) (H:Hp) (D:Dj),Ao X pins σ H s→t D σ H→wpAny (model X.prog X.w) X.A (exec st X.env) (SP X pins D) X.xe s
def MB (X:Cx)(st:List Stmt)(t:TS):Prop:=
 ∀(pins:List (Addr×Obj)) (s:Shared) (σ:St) (H:Hp) (D:Dj),Ao X pins σ H s→t D σ H→wpAny (model X.prog X.w) X.A (execs st X.env) (SP X pins D) X.xe s
theorem BZ {α:Type}{t:Sem α}{Q Q':α→Shared→Prop}{M:Model}{A:Around}{E:Value→Shared→Prop}{s:Shared}(h:wpAny M A t Q E s)(hQ:∀ a s,Q a s→Q' a s):wpAny M A t Q' E s:=wpAny_mono h hQ fun _ _ x=>x
section
variable {X:Cx}
def GR (i:Nat):TE:=fun σ H Q=>∃ v,σ[i]?=some (some v)∧Q v H
def tC (v:V):TE:=fun _ H Q=>Q v H
theorem P4 {i:Nat}{x:Str}{pos:Pos}(hN:X.N[i]?=some x)(hv:X3 X.env.scope x)(hd:(x==("__debug__":Str))=false:=by decide)(hcd:(x==("__classdict__":Str))=false:=by decide):PE X (.Name x pos) (GR i):=by
 intro pins s σ H Q I h
 obtain⟨v,e,h⟩:=h
 obtain⟨m,hn,hl⟩:=I.loc
 obtain⟨u,r,l⟩:=hl i x v hN e hv
 have fin:EP X pins σ Q u s:=⟨v,H,I,r,h⟩
 rcases l with⟨hk,hm⟩ | ⟨hk,c,hc,hcell⟩
 ·exact wpAny_Name (wpAny_loadName_local I.ok.kind hk hn hm fin) hd
 ·rcases hk with hk | hk
  ·exact wpAny_Name (wpAny_loadName_cell I.ok.kind hk hc hcell fin) hd
  ·exact wpAny_Name (wpAny_loadName_free I.ok.kind hk hc hcell fin hcd) hd
theorem AC {i j pos}:PE X (.Constant (.int i) j pos) (tC (.int i)):=fun _ _ _ H _ I h=>wpAny_Constant_int ⟨.int i,H,I.tok _,⟨_,rfl⟩,h⟩
theorem CS {b j pos}:PE X (.Constant (.bool b) j pos) (tC (.bl b)):=fun _ _ _ H _ I h=>Constant_bool ⟨.bl b,H,I,rfl,h⟩
theorem DS {j pos}:PE X (.Constant .none j pos) (tC .non):=fun _ _ _ H _ I h=>Constant_none ⟨.non,H,I,rfl,h⟩
theorem AM {x j pos}:PE X (.Constant (.str x) j pos) (tC (.str x)):=fun _ _ _ H _ I h=>Calls.Constant_str ⟨.str x,H,I.tok _,⟨_,rfl⟩,h⟩
def Gl (X:Cx)(x:Str):Prop:=X.env.kindOf x=some .globalImplicit
theorem G5 {E:Value→Shared→Prop}{pins:List (Addr×Obj)}{s:Shared}{σ:St}{H:Hp}{x:Str}{u:Value}{pos:Pos}{Q:Value→Shared→Prop}(I:Ao X pins σ H s)(hg:Gl X x)(hm:X.mg x=some u)(h:Q u s)
 (hd:(x==("__debug__":Str))=false:=by decide):wpAny (model X.prog X.w) X.A (eval (.Name x pos) X.env) Q E s:=
 Calls.Name_function_global I.ok.kind hg (Calls.loadGlobal_global (by rw[I.ok.glob];exact I.mod.glob.keeps I.bk) hm h) hd
theorem Du {E:Value→Shared→Prop}{pins:List (Addr×Obj)}{s:Shared}{σ:St}{H:Hp}{x:Str}{u:Value}{pos:Pos}{Q:Value→Shared→Prop}(I:Ao X pins σ H s)(hg:Gl X x)(hm:X.mg x=none)(hv:bootBuiltins x=some u)(h:Q u s)
 (hn:x≠"__name__":=by decide) (hd:(x==("__debug__":Str))=false:=by decide):wpAny (model X.prog X.w) X.A (eval (.Name x pos) X.env) Q E s:=by
 obtain⟨mb,h1,h2⟩:=I.mod.blt
 exact Calls.Name_function_global I.ok.kind hg (Calls.loadGlobal_builtin (by rw[I.ok.glob];exact I.mod.glob.keeps I.bk) hm (by rw[I.ok.blt];exact h1.keeps I.bk) ((h2 x hn).trans hv) h) hd
theorem N7 {x:Str}{v:V}{u:Value}{pos:Pos}(hg:Gl X x)(hm:X.mg x=some u)(r:A2 v u)(hd:(x==("__debug__":Str))=false:=by decide):PE X (.Name x pos) (tC v):=
 fun _ _ _ H _ I h=>G5 I hg hm ⟨v,H,I,r,h⟩ hd
theorem Rq {x:Str}{v:V}{u:Value}{pos:Pos}(hg:Gl X x)(hm:X.mg x=none)(hv:bootBuiltins x=some u)(r:A2 v u)(hn:x≠"__name__":=by decide)(hd:(x==("__debug__":Str))=false:=by decide):PE X (.Name x pos) (tC v):=
 fun _ _ _ H _ I h=>Du I hg hm hv ⟨v,H,I,r,h⟩ hn hd
variable {a b:Expr}{ta tb:TE}{pos:Pos}
def tB (t:TE):TT:=fun σ H Q=>t σ H fun x H1=>∃ c,x=.bl c∧Q c H1
theorem BR {e:Expr}{t:TE}(h:PE X e t)(he:∀ whole,isTrue e X.env whole=(do let v ← whole;standAt e.pos;holding [v] (truthy v)):=by intro _;rfl):PT X e (tB t):=by
 intro pins s σ H Q I hw
 refine isTrue_plain (BZ (h pins s σ H _ I hw) fun v s1 zq=>?_) (he _)
 obtain⟨x,H1,I1,r1,q1⟩:=zq
 obtain⟨d,rfl,q⟩:=q1
 cases r1
 exact wpAny_truthy_bool ⟨H1,I1,q⟩
variable {tA tB':TT}{Bv:List Expr}
def X5 (t u:TT):TT:=fun σ H Q=>t σ H fun c H1=>if c=true then u σ H1 Q else Q false H1
def Xn (t u:TT):TT:=fun σ H Q=>t σ H fun c H1=>if c=true then Q true H1 else u σ H1 Q
def X6 (t:TT):TT:=fun σ H Q=>t σ H fun c H1=>Q (!c) H1
theorem EY (ha:PT X a tA):PW X (.BoolOp .And [a] pos) tA:=by
 intro wh pins s σ H Q I h
 refine isTrue_and (BZ (ha pins s σ H Q I h) fun c s1 e=>?_)
 cases c with
 | true=>exact isTrue_and_nil e
 | false=>exact e
theorem Cc (ha:PT X a tA):PW X (.BoolOp .Or [a] pos) tA:=by
 intro wh pins s σ H Q I h
 refine isTrue_or (BZ (ha pins s σ H Q I h) fun c s1 e=>?_)
 cases c with
 | false=>exact isTrue_or_nil e
 | true=>exact e
theorem Dv (ha:PT X a tA)(hb:PW X (.BoolOp .And (b::Bv) pos) tB'):PW X (.BoolOp .And (a::b::Bv) pos) (X5 tA tB'):=by
 intro wh pins s σ H Q I h
 refine isTrue_and (BZ (ha pins s σ H _ I h) fun c s1 zq=>?_)
 obtain⟨H1,I1,q1⟩:=zq
 cases c with
 | true=>exact hb wh pins s1 σ H1 Q I1 q1
 | false=>exact⟨H1,I1,q1⟩
theorem DO (ha:PT X a tA)(hb:PW X (.BoolOp .Or (b::Bv) pos) tB'):PW X (.BoolOp .Or (a::b::Bv) pos) (Xn tA tB'):=by
 intro wh pins s σ H Q I h
 refine isTrue_or (BZ (ha pins s σ H _ I h) fun c s1 zq=>?_)
 obtain⟨H1,I1,q1⟩:=zq
 cases c with
 | true=>exact⟨H1,I1,q1⟩
 | false=>exact hb wh pins s1 σ H1 Q I1 q1
theorem Ej (ha:PT X a tA):PT X (.UnaryOp .Not a pos) (X6 tA):=by
 intro pins s σ H Q I h
 exact isTrue_not (ha pins s σ H (fun c H1=>Q (!c) H1) I h)
def VV (ta tb:TE):TE:=fun σ H Q=>ta σ H fun x H1=>∃ c,x=.bl c∧if c=true then tb σ H1 Q else Q (.bl false) H1
def VW (ta:TE):TE:=fun σ H Q=>ta σ H fun x H1=>∃ c,x=.bl c∧Q (.bl (!c)) H1
theorem B9 {op}{t:TE}(h:PE X a t):PE X (.BoolOp op [a] pos) t:=fun pins s σ H Q I hw=>BoolOp_one (h pins s σ H Q I hw)
theorem BX (ha:PE X a ta)(hb:PE X (.BoolOp .And (b::Bv) pos) tb):PE X (.BoolOp .And (a::b::Bv) pos) (VV ta tb):=by
 intro pins s σ H Q I h
 refine BoolOp_and (BZ (ha pins s σ H _ I h) fun v s1 zq=>?_)
 obtain⟨x,H1,I1,r1,q1⟩:=zq
 obtain⟨c,rfl,q1⟩:=q1
 cases r1
 refine wpAny_truthy_bool ?_
 cases c with
 | true=>exact hb pins s1 σ H1 Q I1 q1
 | false=>exact⟨.bl false,H1,I1,rfl,q1⟩
theorem Tg (ha:PE X a ta):PE X (.UnaryOp .Not a pos) (VW ta):=by
 intro pins s σ H Q I h
 refine UnaryOp_ (BZ (ha pins s σ H _ I h) fun v s1 zq=>?_)
 obtain⟨x,H1,I1,r1,q1⟩:=zq
 obtain⟨c,rfl,q1⟩:=q1
 cases r1
 exact not_of (wpAny_truthy_bool ⟨.bl (!c),H1,I1,rfl,q1⟩)
def ZJ (t:TT)(ta tb:TE):TE:=fun σ H Q=>t σ H fun c H1=>if c=true then ta σ H1 Q else tb σ H1 Q
theorem B3 {c:Expr}(hc:PT X c tA)(ha:PE X a ta)(hb:PE X b tb):PE X (.IfExp c a b pos) (ZJ tA ta tb):=by
 intro pins s σ H Q I h
 refine wpAny_IfExp (BZ (hc pins s σ H _ I h) fun d s1 zq=>?_)
 obtain⟨H1,I1,q1⟩:=zq
 cases d with
 | true=>exact ha pins s1 σ H1 Q I1 q1
 | false=>exact hb pins s1 σ H1 Q I1 q1
end
def Ax (K:PySem.W.Frag)(H:Hp)(a:Addr)(xs:List V):Prop:=
 Rd H a (.lst xs)∨
  ∃(o:Obj) (its:Array Value) (n:Nat),K.lookup a=some o∧o.cls=.type "list"∧o.dict=none∧o.data=.seq its n∧its.size≤sizeLine∧A1 xs its.toList
def Af (K:PySem.W.Frag)(H:Hp)(a:Addr)(xs:List V):Prop:=
 Rd H a (.tup xs)∨
  ∃(o:Obj) (its:Array Value) (n:Nat),K.lookup a=some o∧o.cls=.type "tuple"∧o.data=.seq its n∧its.size≤sizeLine∧A1 xs its.toList
def X7:Value→Option V
 | .none=>some .non
 | .bool b=>some (.bl b)
 | .int i _=>some (.int i)
 | .str x _=>some (.str x)
 | .bytes b _=>some (.byt b)
 | .float b _=>some (.flt b)
 | .ref a=>some (.ref a)
 | .type n=>some (.ty n)
 | _=>none
theorem A2.abs {x:V}{u:Value}(r:A2 x u):X7 u=some x:=by
 cases x with
 | non=>cases r;rfl
 | bl _=>cases r;rfl
 | int _=>obtain⟨t,rfl⟩:=r;rfl
 | str _=>obtain⟨t,rfl⟩:=r;rfl
 | byt _=>obtain⟨t,rfl⟩:=r;rfl
 | flt _=>obtain⟨t,rfl⟩:=r;rfl
 | ref _=>cases r;rfl
 | ty _=>cases r;rfl
theorem A2.inj {x y:V}{u:Value}(r:A2 x u)(q:A2 y u):x=y:=Option.some.inj (r.abs.symm.trans q.abs)
theorem A1.inj:∀{xs ys:List V} {us:List Value},A1 xs us→A1 ys us→xs=ys:=by
 intro A B C h g
 induction h generalizing B with
 | nil=>
  cases g
  rfl
 | cons r t ih=>
  cases g with
  | cons r' t'=>rw[r.inj r',ih t']
section
variable {X:Cx}{pins:List (Addr×Obj)}{σ:St}{H:Hp}{s:Shared}{a:Addr}{xs ys:List V}
theorem Ax.of {K:PySem.W.Frag}(h:H a=some (.lst xs)):Ax K H a xs:=.inl (.inl h)
theorem Af.of {K:PySem.W.Frag}(h:H a=some (.tup xs)):Af K H a xs:=.inl (.inl h)
theorem Ao.list (I:Ao X pins σ H s)(h:Ax X.K H a xs):∃ its:List Value,A1 xs its∧PlainL s.heap a its.toArray∧xs.length≤sizeLine:=by
 rcases h with h | ⟨o,its,n,hk,hc,hd,hs,hz,r⟩
 ·obtain⟨z,its,n,r,e⟩:=h.ok I.hok
  exact⟨its,r,⟨_,n,e,rfl,rfl,rfl⟩,z⟩
 ·refine⟨its.toList,r,⟨o,n,I.kIn a o hk,hc,hd,by simpa using hs⟩,?_⟩
  have e:=r.length
  simp only[Array.length_toList]at e
  omega
theorem Ao.tuple (I:Ao X pins σ H s)(h:Af X.K H a xs):∃ its:List Value,A1 xs its∧IsTup s.heap a its.toArray∧xs.length≤sizeLine:=by
 rcases h with h | ⟨o,its,n,hk,hc,hs,hz,r⟩
 ·obtain⟨z,its,r,p⟩:=h.ok I.hok
  exact⟨its,r,p,z⟩
 ·refine⟨its.toList,r,⟨o,I.kIn a o hk,hc,n,by simpa using hs⟩,?_⟩
  have e:=r.length
  simp only[Array.length_toList]at e
  omega
theorem Ao.list_inj (I:Ao X pins σ H s)(h:Ax X.K H a xs)(h':Ax X.K H a ys):xs=ys:=by
 obtain⟨its,r,⟨o,n,e,_,_,d⟩,_⟩:=I.list h
 obtain⟨its',r',⟨o',n',e',_,_,d'⟩,_⟩:=I.list h'
 rw[e]at e';cases e'
 rw[d]at d'
 injection d' with d1 _
 have:its=its':=by simpa using congrArg Array.toList d1
 subst this
 exact r.inj r'
theorem Ao.tuple_inj (I:Ao X pins σ H s)(h:Af X.K H a xs)(h':Af X.K H a ys):xs=ys:=by
 obtain⟨its,r,⟨o,e,_,n,d⟩,_⟩:=I.tuple h
 obtain⟨its',r',⟨o',e',_,n',d'⟩,_⟩:=I.tuple h'
 rw[e]at e';cases e'
 rw[d]at d'
 injection d' with d1 _
 have:its=its':=by simpa using congrArg Array.toList d1
 subst this
 exact r.inj r'
end
abbrev Cx.wish (X:Cx)(E:Value→Shared→Prop):Cx:={ X with xe:=E }
abbrev Cx.nox (X:Cx):Cx:=X.wish fun _ _=>False
theorem Cx.Ok.wish {X:Cx}(ok:X.Ok)(E:Value→Shared→Prop):(X.wish E).Ok:=
 ⟨ok.mod,ok.kind,ok.glob,ok.blt,ok.above,ok.inj,ok.has,ok.cab,ok.hd,ok.frames,ok.stk,ok.exf,ok.bs,ok.bsz,ok.noex,ok.exfs,ok.funs,ok.frf⟩
theorem Cx.Ok.unwish {X:Cx}{E:Value→Shared→Prop}(ok:(X.wish E).Ok):X.Ok:=
 ⟨ok.mod,ok.kind,ok.glob,ok.blt,ok.above,ok.inj,ok.has,ok.cab,ok.hd,ok.frames,ok.stk,ok.exf,ok.bs,ok.bsz,ok.noex,ok.exfs,ok.funs,ok.frf⟩
section
variable {X:Cx}{pins:List (Addr×Obj)}{σ:St}{H:Hp}{s:Shared}{E:Value→Shared→Prop}
theorem Ao.wish (I:Ao X pins σ H s)(E:Value→Shared→Prop):Ao (X.wish E) pins σ H s:=⟨I.ok.wish E,I.os,I.bare,I.base,I.loc,I.cell,I.free,I.freeC,I.pin,I.hok,I.len⟩
theorem Ao.unwish (I:Ao (X.wish E) pins σ H s):Ao X pins σ H s:=⟨I.ok.unwish,I.os,I.bare,I.base,I.loc,I.cell,I.free,I.freeC,I.pin,I.hok,I.len⟩
theorem SP.unwish {D:Dj}{f:Flow}{s':Shared}(h:SP (X.wish E) pins D f s'):SP X pins D f s':=by
 cases f with
 | next=>obtain⟨σ',H',I,q⟩:=h;exact⟨σ',H',I.unwish,q⟩
 | brk=>obtain⟨σ',H',I,q⟩:=h;exact⟨σ',H',I.unwish,q⟩
 | cont=>obtain⟨σ',H',I,q⟩:=h;exact⟨σ',H',I.unwish,q⟩
 | ret u=>obtain⟨v,σ',H',I,r,q⟩:=h;exact⟨v,σ',H',I.unwish,r,q⟩
theorem MB.nox {st:List Stmt}{t:TS}(h:MB X.nox st t):MB X st t:=fun pins s σ H D I hw=>
 wpAny_mono (h pins s σ H D (I.wish _) hw) (fun _ _ q=>q.unwish) fun _ _ z=>False.elim z
end
section
variable {X:Cx}{st:Stmt}{Bv:List Stmt}{t u:TS}{e:Expr}{te:TE}{pos:Pos}
def JN:TS:=fun D σ H=>D.nx σ H
def Ie (t u:TS):TS:=fun D σ H=>t { D with nx:=u D } σ H
theorem AU:MB X [] JN:=fun _ _ σ H _ I h=>wpAny_execs_nil ⟨σ,H,I,h⟩
theorem AD (h1:PS X st t)(h2:MB X Bv u):MB X (st::Bv) (Ie t u):=by
 intro pins s σ H D I h
 refine wpAny_execs_cons (BZ (h1 pins s σ H { D with nx:=u D } I h) fun f s1 q=>?_)
 cases f with
 | next=>
  obtain⟨σ',H',I',q⟩:=q
  exact h2 pins s1 σ' H' D I' q
 | ret v=>exact q
 | brk=>exact q
 | cont=>exact q
theorem AF (h1:PS X st t):MB X [st] t:=by
 intro pins s σ H D I h
 refine wpAny_execs_cons (BZ (h1 pins s σ H D I h) fun f s1 q=>?_)
 cases f with
 | next=>exact wpAny_execs_nil q
 | ret v=>exact q
 | brk=>exact q
 | cont=>exact q
theorem Ao.quiet {pins:List (Addr×Obj)}{σ:St}{H:Hp}{s:Shared}(I:Ao X pins σ H s):interactive X.env=false:=by simp[interactive,I.ok.kind]
def VX (te:TE):TS:=fun D σ H=>te σ H fun _ H1=>D.nx σ H1
theorem Dk (he:PE X e te)(hs:swapsWith e none pos.line X.env=pure false:=by rfl):PS X (.Expr e pos) (VX te):=by
 intro pins s σ H D I h
 exact wpAny_Expr_any (BZ (he pins s σ H _ I h) fun v s1 ⟨x,H1,I1,r1,q1⟩=>⟨σ,H1,I1,q1⟩) I.quiet hs
def Rr (te:TE):TS:=fun D σ H=>te σ H D.rt
theorem AJ (he:PE X e te):PS X (.Return (some e) pos) (Rr te):=by
 intro pins s σ H D I h
 exact wpAny_Return_some (BZ (he pins s σ H _ I h) fun v s1 ⟨x,H1,I1,r1,q1⟩=>⟨x,σ,H1,I1,r1,q1⟩)
def LM (c:TT)(t u:TS):TS:=fun D σ H=>c σ H fun b H1=>if b=true then t D σ H1 else u D σ H1
theorem Ak {c:Expr}{a b:List Stmt}{tc:TT}(hc:PT X c tc)(ha:MB X a t)(hb:MB X b u):PS X (.If c a b pos) (LM tc t u):=by
 intro pins s σ H D I h
 refine wpAny_If (BZ (hc pins s σ H _ I h) fun d s1 zq=>?_)
 obtain⟨H1,I1,q1⟩:=zq
 cases d with
 | true=>exact ha pins s1 σ H1 D I1 q1
 | false=>exact hb pins s1 σ H1 D I1 q1
def Th:TS:=fun _ _ _=>False
theorem Co:PS X st Th:=fun _ _ _ _ _ _ h=>h.elim
end
abbrev TG:=V→St→Hp→(St→Hp→Prop)→Prop
abbrev Ti:=List V→St→Hp→(St→Hp→Prop)→Prop
def PG (X:Cx)(target:Expr)(t:TG):Prop:=
 ∀(pins:List (Addr×Obj)) (s:Shared) (σ:St) (H:Hp) (v:V) (u:Value) (Q:St→Hp→Prop),Ao X pins σ H s→A2 v u→t v σ H Q→
  wpAny (model X.prog X.w) X.A (assign target X.env u) (fun _ s'=>∃ σ' H',Ao X pins σ' H' s'∧Q σ' H') X.xe s
def VY (X:Cx)(ts:List Expr)(t:Ti):Prop:=
 ∀(pins:List (Addr×Obj)) (s:Shared) (σ:St) (H:Hp) (vs:List V) (us:List Value) (Q:St→Hp→Prop),Ao X pins σ H s→A1 vs us→t vs σ H Q→
  wpAny (model X.prog X.w) X.A (assignInOrder ((assignEach ts X.env).map (·.2)) us) (fun _ s'=>∃ σ' H',Ao X pins σ' H' s'∧Q σ' H') X.xe s
abbrev Tj:=V→V→V→Hp→(Hp→Prop)→Prop
def VZ (X:Cx)(t:Tj):Prop:=
 ∀(pins:List (Addr×Obj)) (s:Shared) (σ:St) (H:Hp) (o i v:V) (ov iv u:Value) (Q:Hp→Prop),Ao X pins σ H s→A2 o ov→A2 i iv→A2 v u→t o i v H Q→
  wpAny (model X.prog X.w) X.A (setItem ov iv u) (fun _ s'=>∃ H',Ao X pins σ H' s'∧Q H') X.xe s
section
variable {X:Cx}{pos:Pos}
def Ew (i:Nat):TG:=fun v σ H Q=>Q (σ.set i (some v)) H
theorem BA {i:Nat}{x:Str}(hN:X.N.Nodup)(hi:X.N[i]?=some x)(hx:Xm X.env.scope x)(hf:X.fn x=true∨X.env.scope.names.lookup x=some .local:=by first | exact .inl rfl | exact .inr rfl | assumption):PG X (.Name x pos) (Ew i):=by
 intro pins s σ H v u Q I r h
 exact wpAny_assign_Name (G4 I hN hi hx r (fun s' I'=>⟨_,H,I',h⟩) hf)
def Tk:Ti:=fun vs σ H Q=>vs=[]∧Q σ H
def MC (t:TG)(u:Ti):Ti:=fun vs σ H Q=>∃ v r,vs=v::r∧t v σ H fun σ' H'=>u r σ' H' Q
theorem EZ:VY X [] Tk:=by
 intro pins s σ H vs us Q I r h
 obtain⟨e,h⟩:=h
 subst e
 cases r
 exact assignInOrder_nil ⟨σ,H,I,h⟩
theorem Bf {e:Expr}{es:List Expr}{t:TG}{u:Ti}(h1:PG X e t)(h2:VY X es u)
 (hs:(assignEach (e::es) X.env).map (·.2)=assign e X.env::(assignEach es X.env).map (·.2):=by rfl):VY X (e::es) (MC t u):=by
 intro pins s σ H vs us Q I r h
 obtain⟨v,vr,e1,h⟩:=h
 subst e1
 cases r with
 | cons r rr=>
  rw[hs]
  refine assignInOrder_cons (BZ (h1 pins s σ H _ _ _ I r h) fun _ s1 zq=>?_)
  obtain⟨σ1,H1,I1,q1⟩:=zq
  exact h2 pins s1 σ1 H1 _ _ Q I1 rr q1
def Tl (K:PySem.W.Frag)(n:Nat)(t:Ti):TG:=fun v σ H Q=>∃ a xs,v=.ref a∧Af K H a xs∧xs.length=n∧t xs σ H Q
theorem Fi {es:List Expr}{k:Nat}{t:Ti}{n:Nat}(hc:X.calm=true)(h:VY X es t)
 (hn:(assignEach es X.env).length=n:=by rfl) (hst:(assignEach es X.env).findIdx? (·.1)=none:=by rfl):PG X (.Tuple es k pos) (Tl X.K n t):=by
 intro pins s σ H v u Q I r hw
 obtain⟨a,xs,e1,hq,hl,hw⟩:=hw
 subst e1
 cases r
 obtain⟨its,rv,ht,hz⟩:=I.tuple hq
 refine assign_Tuple_tuple (I.ok.hd hc) ht (by simp[hn,← hl,rv.length]) hst fun h' hx=>?_
 have I1:Ao X pins σ H { s with heap:=h' }:=I.kept (t':=s.toks) fun b o e=>hx b o (Nat.ne_of_lt (Heap.lt_size e)) e
 exact h pins _ σ H xs _ Q I1 (by simpa using rv) hw
def X8 (to ti:TE)(t:Tj):TG:=fun v σ H Q=>to σ H fun o H1=>ti σ H1 fun i H2=>t o i v H2 fun H3=>Q σ H3
theorem NG {o i:Expr}{to ti:TE}{t:Tj}(ho:PE X o to)(hi:PE X i ti)(hs:VZ X t)
 (ha:∀ v,assign (.Subscript o i pos) X.env v=(do
  let ov ← holding [v] (eval o X.env)
  let iv ← holding [v,ov] (eval i X.env)
  standAt pos
  holding [v,ov,iv] (setItem ov iv v)
  release [v,ov,iv] []):=by intro _;rfl):PG X (.Subscript o i pos) (X8 to ti t):=by
 intro pins s σ H v u Q I r h
 rw[ha]
 refine wpAny_bind (wpAny_holding (BZ (ho pins s σ H _ I h) fun ov s1 zq=>?_))
 obtain⟨x,H1,I1,r1,q1⟩:=zq
 refine wpAny_bind (wpAny_holding (BZ (hi pins s1 σ H1 _ I1 q1) fun iv s2 zq=>?_))
 obtain⟨y,H2,I2,r2,q2⟩:=zq
 refine wpAny_bind (wpAny_standAt (wpAny_bind (wpAny_holding (BZ (hs pins s2 σ H2 x y v ov iv u _ I2 r1 r2 r q2) fun _ s3 zq=>?_))))
 obtain⟨H3,I3,q3⟩:=zq
 exact wpAny_release ⟨σ,H3,I3,q3⟩
def Rs (te:TE)(g:TG):TS:=fun D σ H=>te σ H fun x H1=>g x σ H1 D.nx
theorem NH {tg e:Expr}{te:TE}{g:TG}(he:PE X e te)(hg:PG X tg g)(hs:swapsWithSole [tg] e pos.line X.env=pure false:=by rfl)(hw:swappedStores [tg] e X.env=pure none:=by rfl)
 (h1:(assignEach [tg] X.env).map (·.2)=[assign tg X.env]:=by rfl):PS X (.Assign [tg] e pos) (Rs te g):=by
 intro pins s σ H D I h
 refine wpAny_Assign_stores (BZ (he pins s σ H _ I h) fun v s1 zq=>?_) hs hw
 obtain⟨x,H1,I1,r1,q1⟩:=zq
 rw[h1]
 exact BZ (hg pins s1 σ H1 x v _ I1 r1 q1) fun _ s2 q=>q
theorem Ac {i:Nat}{x:Str}{e:Expr}{te:TE}{pos':Pos}(hN:X.N.Nodup)(hi:X.N[i]?=some x)(hx:Xm X.env.scope x)(he:PE X e te)(hs:swapsWith e (some (.Name x pos')) pos.line X.env=pure false:=by rfl)(hf:X.fn x=true∨X.env.scope.names.lookup x=some .local:=by first | exact .inl rfl | exact .inr rfl | assumption):
 PS X (.Assign [.Name x pos'] e pos) (Rs te (Ew i)):=by
 intro pins s σ H D I h
 refine wpAny_Assign_Name (BZ (he pins s σ H _ I h) fun v s1 zq=>?_) hs
 obtain⟨y,H1,I1,r1,q1⟩:=zq
 exact G4 I1 hN hi hx r1 (fun s2 I2=>⟨_,H1,I2,q1⟩) hf
def X9 (i j:Nat)(ta:TA):TS:=fun D σ H=>ta σ H fun vs H1=>∃ v w,vs=[v,w]∧D.nx ((σ.set i (some v)).set j (some w)) H1
theorem Tm {i j:Nat}{x y:Str}{a b:Expr}{ta:TA}{px py pt:Pos}{kt k2 pt2}(hc:X.calm=true)(hN:X.N.Nodup)(hi:X.N[i]?=some x)(hj:X.N[j]?=some y)(hij:i≠j)
 (hx:X.env.scope.names.lookup x=some .local) (hy:X.env.scope.names.lookup y=some .local) (ha:PA X [a,b] ta)
 (hw:swappedStores [.Tuple [.Name x px,.Name y py] kt pt] (.Tuple [a,b] k2 pt2) X.env=pure (some [x,y]))
 (hs:swapsWithSole [.Tuple [.Name x px,.Name y py] kt pt] (.Tuple [a,b] k2 pt2) pos.line X.env=pure false:=by rfl):
 PS X (.Assign [.Tuple [.Name x px,.Name y py] kt pt] (.Tuple [a,b] k2 pt2) pos) (X9 i j ta):=by
 intro pins s σ H D I h
 rw[exec_Assign_arm]
 refine wpAny_bind (wpAny_standAt ?_)
 rw[hs]
 refine wpAny_bind (wpAny_pure ?_)
 rw[if_neg (by decide)]
 refine wpAny_bind (Tuple_ (BZ (ha _ pins s σ H _ I h) fun us s1 zq=>?_))
 obtain⟨vs,H1,I1,r1,q1⟩:=zq
 obtain⟨v,w,e1,q1⟩:=q1
 subst e1
 obtain⟨u1,u2,rfl,rv,rw'⟩:∃ u1 u2,us=[u1,u2]∧A2 v u1∧A2 w u2:=by
  cases r1 with
  | cons p q=>
   cases q with
   | cons p' q'=>
    cases q'
    exact⟨_,_,rfl,p,p'⟩
 refine wpAny_newObj_type ?_ (by show 2≤sizeLine;decide)
 have I2:Ao X pins σ H1 { s1 with heap:=s1.heap.push { cls:=.type "tuple",data:=.seq [u1,u2].toArray } }:=I1.kept (t':=s1.toks) fun b o e=>Heap.get?_push_of_some _ e
 rw[hw]
 refine wpAny_bind (wpAny_pure ?_)
 show wpAny (model X.prog X.w) X.A (do rule "assign.swapped-stores";let items ← unpackItems (.ref s1.heap.objs.size) 2 none;assignInOrder [fun v=>bindName X.env y v,fun v=>bindName X.env x v] items.reverse;pure Flow.next) _ _ _
 refine wpAny_bind (wpAny_rule (wpAny_bind (unpackItems_tuple (items:=#[u1,u2]) (I.ok.hd hc) (IsTup.new s1.heap _) fun h' hx'=>?_)))
 have I3:=I2.kept (h':=h') (t':=s1.toks) fun b o e=>hx' b o (Nat.ne_of_lt (Heap.lt_size e)) e
 show wpAny _ _ (assignInOrder [fun v=>bindName X.env y v,fun v=>bindName X.env x v] [u2,u1] >>= fun _=>pure Flow.next) _ _ _
 refine wpAny_bind (assignInOrder_cons (wpAny_bindName (G4 I3 hN hj (.inl hy) rw' (fun s2 I4=>?_) (.inr hy))))
 refine assignInOrder_cons (wpAny_bindName (G4 I4 hN hi (.inl hx) rv (fun s3 I5=>assignInOrder_nil (wpAny_pure ?_)) (.inr hx)))
 rw[List.set_comm _ _ (Ne.symm hij)]at I5
 exact⟨_,H1,I5,q1⟩
end
section
variable {X:Cx}{pos:Pos}
def P5 (c:TT)(tb:TS):TS:=fun D σ H=>∃ W:Nat→St→Hp→Prop,(∃ m,W m σ H)∧∀ m σ H,W m σ H→
 c σ H fun b H1=>if b=true then ∃ N:St→Hp→Prop,(∀ σ' H',N σ' H'→∃ m',m'<m∧W m' σ' H')∧tb { D with nx:=N,ct:=N,bk:=D.nx } σ H1 else D.nx σ H1
theorem JO {c:Expr}{body:List Stmt}{tc:TT}{tb:TS}(hp:PassesOwn (model X.prog X.w) X.A X.env X.xe)(hc:PT X c tc)(hb:MB X body tb):PS X (.While c body [] pos) (P5 tc tb):=by
 intro pins s σ H D I h
 obtain⟨W,⟨m0,w0⟩,turn⟩:=h
 refine wpAny_While (codeAny_whileLoop (fun n s'=>∃ σ' H',Ao X pins σ' H' s'∧W n σ' H') ?_ m0 ⟨σ,H,I,w0⟩)
 rintro n s1 ⟨σ1,H1,I1,w1⟩
 refine wpAny_passesOwn hp (BZ (hc pins s1 σ1 H1 _ I1 (turn n σ1 H1 w1)) fun b s2 zq=>?_)
 obtain⟨H2,I2,q2⟩:=zq
 cases b with
 | true=>
  obtain⟨N,hN,q2⟩:=q2
  rw[if_pos rfl]
  refine wpAny_passesOwn hp (BZ (hb pins s2 σ1 H2 _ I2 q2) fun f s3 q3=>?_)
  cases f with
  | next=>
   obtain⟨σ3,H3,I3,n3⟩:=q3
   obtain⟨m',hm,w3⟩:=hN σ3 H3 n3
   exact⟨m',hm,σ3,H3,I3,w3⟩
  | cont=>
   obtain⟨σ3,H3,I3,n3⟩:=q3
   obtain⟨m',hm,w3⟩:=hN σ3 H3 n3
   exact⟨m',hm,σ3,H3,I3,w3⟩
  | brk=>exact q3
  | ret v=>exact q3
 | false=>
  rw[if_neg Bool.false_ne_true]
  exact wpAny_execs_nil ⟨σ1,H2,I2,q2⟩
end
structure It where
 go:Nat→Hp→Prop
 yld:Nat→Hp→V→Hp→Prop
 stop:Nat→Hp→Prop
def Fd (X:Cx)(pins:List (Addr×Obj))(H:Hp)(b:Addr):Prop:=
 H b=none∧b≠X.env.locals∧b∉X.fs∧(b∈X.ex∨X.s₀.heap.objs.size≤b)∧(∀ x c,X.env.cells.lookup x=some c→c≠b)∧∀ p∈X.pn++pins,p.1≠b
theorem Ao.fpOk {X:Cx}{pins:List (Addr×Obj)}{σ:St}{H H':Hp}{s:Shared}{b:Addr}(I:Ao X pins σ H s)(hb:s.heap.objs.size≤b)(hn:H' b=none):Fd X pins H' b:=by
 refine⟨hn,Nat.ne_of_gt (Nat.lt_of_lt_of_le I.lt hb),I.nofs hb,.inr (Nat.le_trans I.sz hb),fun x c e z=>?_,fun p hp z=>?_⟩
 ·obtain⟨v,q⟩:=I.cell x c e
  exact absurd (Nat.lt_of_lt_of_le q.lt (by rw[z];exact hb)) (Nat.lt_irrefl _)
 ·exact absurd (Nat.lt_of_lt_of_le (Heap.lt_size (I.pin p hp).1) (by rw[z];exact hb)) (Nat.lt_irrefl _)
structure KJ (P:Program)(w:World)(K:PySem.W.Frag)(tg:Expr)(J:It)(fp:List Addr)(it:Addr)(tn:Nat→Heap→Prop):Prop where
 mem:it∈fp
 obj:∀ i h,tn i h→∀ b∈fp,∃ o,h.get? b=some o∧∀ v,o.data≠.cell v
 keep:∀ i h h',tn i h→(∀ b∈fp,∀ o,h.get? b=some o→h'.get? b=some o)→tn i h'
 item:∀(X:Cx),X.prog=P→X.w=w→X.K=K→X.calm=true→∀(i:Nat) (pins:List (Addr×Obj)) (s:Shared) (σ:St) (H:Hp) (E:Value→Shared→Prop),Ao X pins σ H s→(∀ b∈fp,Fd X pins H b)→tn i s.heap→J.go i H→
  wpAny (model P w) X.A (pyNext (.ref it)) (fun r s1=>∃ u,r=some u∧
   wpAny (model P w) X.A (letOwnedTupleGo tg (.ref it) u) (fun _ s2=>∃ x H',Ao X pins σ H' s2∧A2 x u∧J.yld i H x H'∧tn (i+1) s2.heap∧∀ b∈fp,H' b=none) E s1) E s
 done:∀(X:Cx),X.prog=P→X.w=w→X.K=K→X.calm=true→∀(i:Nat) (pins:List (Addr×Obj)) (s:Shared) (σ:St) (H:Hp) (E:Value→Shared→Prop),Ao X pins σ H s→(∀ b∈fp,Fd X pins H b)→tn i s.heap→J.stop i H→
  wpAny (model P w) X.A (pyNext (.ref it)) (fun r s1=>r=none∧Ao X pins σ H s1) E s
 self:∀(A:Around) (i:Nat) (s:Shared) (Q:Value→Shared→Prop) (E:Value→Shared→Prop),tn i s.heap→Q (.ref it) s→wpAny (model P w) A (pyIter (.ref it)) Q E s
abbrev TI:=St→Hp→(It→Hp→Prop)→Prop
def Y5 (X:Cx)(pins:List (Addr×Obj))(σ:St)(tg:Expr)(R:It→Hp→Prop)(itv:Value)(s2:Shared):Prop:=
 ∃(it:Addr) (fp:List Addr) (tn:Nat→Heap→Prop) (J:It) (H':Hp),itv=.ref it∧Ao X pins σ H' s2∧KJ X.prog X.w X.K tg J fp it tn∧tn 0 s2.heap∧(∀ b∈fp,Fd X pins H' b)∧R J H'
def PI (X:Cx)(tg iter:Expr)(wi:TI):Prop:=
 ∀(pins:List (Addr×Obj)) (s:Shared) (σ:St) (H:Hp) (R:It→Hp→Prop),Ao X pins σ H s→wi σ H R→
  wpAny (model X.prog X.w) X.A (eval iter X.env) (fun v s1=>wpAny (model X.prog X.w) X.A (pyIter v) (Y5 X pins σ tg R) X.xe s1) X.xe s
theorem Kn {M:Model}{A:Around}{E:Value→Shared→Prop}{s:Shared}{tg:Expr}{it:Addr}{u:Value}{o:Obj}{n:String}{vs:Array Value}{Q:Unit→Shared→Prop}(ho:s.heap.get? it=some o)(hc:o.cls=.type n)(hd:o.data=.fields vs)
 (hn:["enumerate","zip","dict_itemiterator","dict_reverseitemiterator","odict_iterator","itertools.zip_longest","itertools.pairwise"].contains n=false) (hQ:Q () s):wpAny M A (letOwnedTupleGo tg (.ref it) u) Q E s:=by
 unfold letOwnedTupleGo
 cases tg <;> first
  | exact wpAny_pure hQ
  | (cases u <;> first
   | exact wpAny_pure hQ
   | (refine wpAny_bind (wpAny_load ho ?_)
      rw[hc,hd]
      show wpAny M A (if(["enumerate","zip","dict_itemiterator","dict_reverseitemiterator","odict_iterator","itertools.zip_longest","itertools.pairwise"].contains n&&vs[0]?==some (rawInt _))=true then _ else _) Q E s
      rw[if_neg (by intro h;rw[hn,Bool.false_and]at h;cases h)]
      exact wpAny_pure hQ))
def Va (K:PySem.W.Frag)(a:Addr):It:=
 ⟨fun i H=>∃ xs x,Ax K H a xs∧xs[i]?=some x,fun i H x H'=>H'=H∧∀ xs,Ax K H a xs→xs[i]?=some x,fun i H=>∃ xs,Ax K H a xs∧xs.length≤i⟩
def Vb (K:PySem.W.Frag)(a:Addr):It:=
 ⟨fun i H=>∃ xs x,Af K H a xs∧xs[i]?=some x,fun i H x H'=>H'=H∧∀ xs,Af K H a xs→xs[i]?=some x,fun i H=>∃ xs,Af K H a xs∧xs.length≤i⟩
def Tn (lo:Int)(n:Nat):It:=⟨fun i _=>i<n,fun i H x H'=>H'=H∧x=.int (lo+i),fun i _=>n≤i⟩
theorem Ox {P:Program}{w:World}{K:PySem.W.Frag}{tg:Expr}(a it:Addr):KJ P w K tg (Va K a) [it] it (fun i h=>h.IsListIter it a i) where
 mem:=by simp
 obj:=fun i h st b hb=>by
  have e:b=it:=by simpa using hb
  subst e
  obtain⟨o,e,c,d⟩:=st
  exact⟨o,e,fun v z=>by rw[d]at z;cases z⟩
 keep:=fun i h h' st k=>st.at fun o e=>k it (by simp) o e
 item:=by
  intro X hP hw hK hc i pins s σ H E I hf st hg
  subst hP hw hK
  obtain⟨xs,x,hq,hx⟩:=hg
  obtain⟨its,rv,p,hz⟩:=I.list hq
  obtain⟨u,hu,ru⟩:=rv.get hx
  obtain⟨f0,f1,f2,f3,f4,f5⟩:=hf it (by simp)
  refine wpAny_pyNext_list_item st p.isList (x:=u) (by simpa using hu) fun h' st' sb=>?_
  have I1:Ao X pins σ H { s with heap:=h' }:=I.turned (t':=s.toks) (fun b o hb e=>(sb.2 b hb).trans e) f0 f1 f3 f4 f5
  obtain⟨o,e,c,d⟩:=id st'
  exact⟨u,rfl,Kn (s:={ s with heap:=h' }) e c d (by decide) ⟨x,H,I1,ru,⟨rfl,fun ys hy=>by rw[I.list_inj hy hq];exact hx⟩,st',fun b hb=>(hf b hb).1⟩⟩
 done:=by
  intro X hP hw hK hc i pins s σ H E I hf st hg
  subst hP hw hK
  obtain⟨xs,hq,hx⟩:=hg
  obtain⟨its,rv,p,hz⟩:=I.list hq
  obtain⟨f0,f1,f2,f3,f4,f5⟩:=hf it (by simp)
  have hl:=rv.length
  exact wpAny_pyNext_list_end (I.ok.hd hc) st p.isList (by simp;omega) fun h' eb=>⟨rfl,I.turned (t':=s.toks) (fun b o hb e=>eb b o hb e) f0 f1 f3 f4 f5⟩
 self:=fun _ _ _ _ _ st h=>wpAny_pyIter_listiter st h
theorem NI {P:Program}{w:World}{K:PySem.W.Frag}{tg:Expr}(a it:Addr):KJ P w K tg (Vb K a) [it] it (fun i h=>h.IsTupleIter it a i) where
 mem:=by simp
 obj:=fun i h st b hb=>by
  have e:b=it:=by simpa using hb
  subst e
  obtain⟨o,e,c,d⟩:=st
  exact⟨o,e,fun v z=>by rw[d]at z;cases z⟩
 keep:=fun i h h' st k=>st.at fun o e=>k it (by simp) o e
 item:=by
  intro X hP hw hK hc i pins s σ H E I hf st hg
  subst hP hw hK
  obtain⟨xs,x,hq,hx⟩:=hg
  obtain⟨its,rv,p,hz⟩:=I.tuple hq
  obtain⟨u,hu,ru⟩:=rv.get hx
  obtain⟨f0,f1,f2,f3,f4,f5⟩:=hf it (by simp)
  refine wpAny_pyNext_tuple_item st (show s.heap.IsTuple a its.toArray from p) (x:=u) (by simpa using hu) fun h' st' sb=>?_
  have I1:Ao X pins σ H { s with heap:=h' }:=I.turned (t':=s.toks) (fun b o hb e=>(sb.2 b hb).trans e) f0 f1 f3 f4 f5
  obtain⟨o,e,c,d⟩:=id st'
  exact⟨u,rfl,Kn (s:={ s with heap:=h' }) e c d (by decide) ⟨x,H,I1,ru,⟨rfl,fun ys hy=>by rw[I.tuple_inj hy hq];exact hx⟩,st',fun b hb=>(hf b hb).1⟩⟩
 done:=by
  intro X hP hw hK hc i pins s σ H E I hf st hg
  subst hP hw hK
  obtain⟨xs,hq,hx⟩:=hg
  obtain⟨its,rv,p,hz⟩:=I.tuple hq
  obtain⟨f0,f1,f2,f3,f4,f5⟩:=hf it (by simp)
  have hl:=rv.length
  exact wpAny_pyNext_tuple_end (I.ok.hd hc) st (show s.heap.IsTuple a its.toArray from p) (by simp;omega) fun h' eb=>⟨rfl,I.turned (t':=s.toks) (fun b o hb e=>eb b o hb e) f0 f1 f3 f4 f5⟩
 self:=fun _ _ _ _ _ st h=>wpAny_pyIter_tupleiter st h
theorem NJ {P:Program}{w:World}{K:PySem.W.Frag}{tg:Expr}(it:Addr)(lo:Int)(n:Nat):KJ P w K tg (Tn lo n) [it] it (fun i h=>IsRangeIter h it (lo+(i:Nat)*1) ((n:Int)-(i:Nat)) 1) where
 mem:=by simp
 obj:=fun i h st b hb=>by
  have e:b=it:=by simpa using hb
  subst e
  exact⟨_,st,fun v z=>by
   have z':Data.fields _=Data.cell v:=z
   cases z'⟩
 keep:=fun i h h' st k=>k it (by simp) _ st
 item:=by
  intro X hP hw hK hc i pins s σ H E I hf st hg
  subst hP hw hK
  obtain⟨f0,f1,f2,f3,f4,f5⟩:=hf it (by simp)
  have W:=Walks.range (prog:=X.prog) (w:=X.w) (I.ok.hd hc) it lo 1 n
  refine W.item i s _ _ hg st fun v h' tk hv st' kk=>?_
  obtain⟨t,rfl⟩:=hv
  have I1:Ao X pins σ H { s with heap:=h',toks:=tk }:=I.turned (fun b o hb e=>kk b o (by simpa using hb) e) f0 f1 f3 f4 f5
  refine⟨_,rfl,Kn (s:={ s with heap:=h',toks:=tk }) (n:="range_iterator") st' rfl rfl (by decide) ⟨.int (lo+i),H,I1,⟨t,?_⟩,⟨rfl,rfl⟩,st',fun b hb=>(hf b hb).1⟩⟩
  rw[Int.mul_one]
 done:=by
  intro X hP hw hK hc i pins s σ H E I hf st hg
  subst hP hw hK
  obtain⟨f0,f1,f2,f3,f4,f5⟩:=hf it (by simp)
  exact wpAny_pyNext_range_end (I.ok.hd hc) st (by have:n≤i:=hg;omega) fun h' eb=>⟨rfl,I.turned (t':=s.toks) (fun b o hb e=>eb b o hb e) f0 f1 f3 f4 f5⟩
 self:=fun _ _ _ _ _ st h=>wpAny_pyIter_rangeiter st h
section
variable {X:Cx}{tg:Expr}
def Sv (K:PySem.W.Frag)(tl:TE):TI:=fun σ H R=>tl σ H fun x H1=>∃ a,x=.ref a∧(∃ xs,Ax K H1 a xs)∧R (Va K a) H1
def YA (K:PySem.W.Frag)(tl:TE):TI:=fun σ H R=>tl σ H fun x H1=>∃ a,x=.ref a∧(∃ xs,Af K H1 a xs)∧R (Vb K a) H1
theorem Dl {l:Expr}{tl:TE}(hl:PE X l tl):PI X tg l (Sv X.K tl):=by
 intro pins s σ H R I h
 refine BZ (hl pins s σ H _ I h) fun v s1 zq=>?_
 obtain⟨x,H1,I1,r1,q1⟩:=zq
 obtain⟨a,e,⟨xs,hq⟩,q⟩:=q1
 subst e
 cases r1
 obtain⟨its,rv,p,hz⟩:=I1.list hq
 refine wpAny_pyIter_list p.isList ?_
 refine⟨s1.heap.objs.size,[s1.heap.objs.size],_,_,H1,rfl,I1.kept (t':=s1.toks) fun b o e=>Heap.get?_push_of_some _ e,Ox a _,⟨_,Heap.get?_push_size _ rfl,rfl,rfl⟩,fun b hb=>?_,q⟩
 have e:b=s1.heap.objs.size:=by simpa using hb
 subst e
 exact I1.fpOk (Nat.le_refl _) (I1.hok.fresh (Nat.le_refl _))
theorem Fj {l:Expr}{tl:TE}(hl:PE X l tl):PI X tg l (YA X.K tl):=by
 intro pins s σ H R I h
 refine BZ (hl pins s σ H _ I h) fun v s1 zq=>?_
 obtain⟨x,H1,I1,r1,q1⟩:=zq
 obtain⟨a,e,⟨xs,hq⟩,q⟩:=q1
 subst e
 cases r1
 obtain⟨its,rv,p,hz⟩:=I1.tuple hq
 refine wpAny_pyIter_tuple (show s1.heap.IsTuple a its.toArray from p) ?_
 refine⟨s1.heap.objs.size,[s1.heap.objs.size],_,_,H1,rfl,I1.kept (t':=s1.toks) fun b o e=>Heap.get?_push_of_some _ e,NI a _,⟨_,Heap.get?_push_size _ rfl,rfl,rfl⟩,fun b hb=>?_,q⟩
 have e:b=s1.heap.objs.size:=by simpa using hb
 subst e
 exact I1.fpOk (Nat.le_refl _) (I1.hok.fresh (Nat.le_refl _))
theorem MD {pins:List (Addr×Obj)}{σ:St}{H:Hp}{s:Shared}{R:It→Hp→Prop}{E:Value→Shared→Prop}{lo hi:Int}{t u v:Tok}{tk:Nat}(I:Ao X pins σ H s)(h1:-(2 ^ 62)≤lo)(h2:lo<2 ^ 62)(h3:-(2 ^ 62)≤hi)(h4:hi<2 ^ 62)
 (q:R (Tn lo (hi-lo).toNat) H):wpAny (model X.prog X.w) X.A (pyIter (.ref s.heap.objs.size)) (Y5 X pins σ tg R) E { s with heap:=s.heap.push { cls:=.type "range",data:=.fields #[.int lo t,.int hi u,.int 1 v] },toks:=tk }:=by
 refine wpAny_pyIter_range (IsRange.new ..) (small_one h1 h2 h3 h4) ?_
 have I1:Ao X pins σ H { s with heap:=s.heap.push { cls:=.type "range",data:=.fields #[.int lo t,.int hi u,.int 1 v] },toks:=tk }:=I.kept fun b o e=>Heap.get?_push_of_some _ e
 refine⟨(s.heap.push { cls:=.type "range",data:=.fields #[.int lo t,.int hi u,.int 1 v] }).objs.size,[(s.heap.push { cls:=.type "range",data:=.fields #[.int lo t,.int hi u,.int 1 v] }).objs.size],_,_,H,rfl,
  I1.kept (t':=tk) fun b o e=>Heap.get?_push_of_some _ e,NJ _ lo (hi-lo).toNat,?_,fun b hb=>?_,q⟩
 ·have e1:lo+((0:Nat):Int)*1=lo:=by simp
  have e2:(((hi-lo).toNat:Nat):Int)-((0:Nat):Int)=Builtin.Range.rangeSize lo hi 1:=by rw[rangeSize_one];split <;> omega
  show IsRangeIter _ _ (lo+((0:Nat):Int)*1) ((((hi-lo).toNat:Nat):Int)-((0:Nat):Int)) 1
  rw[e1,e2]
  exact Heap.get?_push_size _ rfl
 ·have e:b=(s.heap.push { cls:=.type "range",data:=.fields #[.int lo t,.int hi u,.int 1 v] }).objs.size:=by simpa using hb
  subst e
  exact I1.fpOk (Nat.le_refl _) (I1.hok.fresh (Nat.le_refl _))
def Vc (ta:TA):TI:=fun σ H R=>ta σ H fun vs H1=>∃ j:Int,vs=[.int j]∧-(2 ^ 62)≤j∧j<2 ^ 62∧R (Tn 0 j.toNat) H1
def Vd (ta:TA):TI:=fun σ H R=>ta σ H fun vs H1=>∃ i j:Int,vs=[.int i,.int j]∧(-(2 ^ 62)≤i∧i<2 ^ 62∧-(2 ^ 62)≤j∧j<2 ^ 62)∧R (Tn i (j-i).toNat) H1
theorem DE {a:Expr}{ta:TA}{p pos:Pos}(hg:Gl X "range")(hm:X.mg "range"=none)(ha:PA X [a] ta)(hs:starEach [a] X.env=[(false,eval a X.env)]:=by rfl):PI X tg (.Call (.Name "range" p) [a] [] pos) (Vc ta):=by
 intro pins s σ H R I h
 refine Call_ (Du I hg hm boot_range (PyProof.Rows.callWith_type1 (BZ (ha pos pins s σ H _ I h) fun us s1 zq=>?_) hs rfl))
 obtain⟨vs,H1,I1,r1,q1⟩:=zq
 obtain⟨j,e,q1,q2,q⟩:=q1
 subst e
 cases r1 with
 | cons r rr=>
  cases rr
  obtain⟨t,rfl⟩:=r
  exact call_range_1 (MD I1 (by omega) (by omega) q1 q2 (by simpa using q))
theorem Ko {a b:Expr}{ta:TA}{p pos:Pos}(hg:Gl X "range")(hm:X.mg "range"=none)(ha:PA X [a,b] ta)(hs:starEach [a,b] X.env=[(false,eval a X.env),(false,eval b X.env)]:=by rfl)(hs2:starEach [b] X.env=[(false,eval b X.env)]:=by rfl):
 PI X tg (.Call (.Name "range" p) [a,b] [] pos) (Vd ta):=by
 intro pins s σ H R I h
 refine Call_ (Du I hg hm boot_range (PyProof.Rows.callWith_type1 (BZ (ha pos pins s σ H _ I h) fun us s1 zq=>?_) (by rw[hs,hs2]) (by rw[hs2];rfl)))
 obtain⟨vs,H1,I1,r1,q1⟩:=zq
 obtain⟨i,j,e,⟨q1,q2,q3,q4⟩,q⟩:=q1
 subst e
 cases r1 with
 | cons r rr=>
  cases rr with
  | cons r' rr=>
   cases rr
   obtain⟨t,rfl⟩:=r
   obtain⟨t',rfl⟩:=r'
   exact call_range_2 (MD I1 q1 q2 q3 q4 q)
def YB (wi:TI)(g:TG)(tb:TS):TS:=fun D σ H=>wi σ H fun J H1=>∃ W:Nat→Nat→St→Hp→Prop,(∃ m,W 0 m σ H1)∧∀ i m σ H,W i m σ H→
 (J.stop i H∧D.nx σ H)∨(J.go i H∧∃ N:St→Hp→Prop,(∀ σ' H',N σ' H'→∃ m',m'<m∧W (i+1) m' σ' H')∧∀ x H',J.yld i H x H'→g x σ H' fun σ2 H2=>tb { D with nx:=N,ct:=N,bk:=D.nx } σ2 H2)
def Gf (fp:List Addr)(h:Heap):List (Addr×Obj):=fp.filterMap fun b=>(h.get? b).map fun o=>(b,o)
theorem CG {fp:List Addr}{h:Heap}{b:Addr}{o:Obj}(hb:b∈fp)(e:h.get? b=some o):(b,o)∈Gf fp h:=List.mem_filterMap.mpr ⟨b,hb,by rw[e];rfl⟩
theorem Oy {fp:List Addr}{h:Heap}{p:Addr×Obj}(hp:p∈Gf fp h):p.1∈fp∧h.get? p.1=some p.2:=by
 obtain⟨b,hb,e⟩:=List.mem_filterMap.mp hp
 cases q:h.get? b with
 | none=>rw[q]at e;cases e
 | some o=>
  rw[q]at e
  have e':(b,o)=p:=Option.some.inj e
  subst e'
  exact⟨hb,q⟩
theorem Ao.pinned {pins:List (Addr×Obj)}{σ:St}{H:Hp}{s:Shared}{fp:List Addr}(I:Ao X pins σ H s)(hf:∀ b∈fp,Fd X pins H b)(ho:∀ b∈fp,∃ o,s.heap.get? b=some o∧∀ v,o.data≠.cell v):Ao X (pins++Gf fp s.heap) σ H s:=
 I.pins_of fun p hp=>(List.mem_append.mp hp).elim (fun z=>I.pin p (List.mem_append_right _ z)) fun z=>by
  obtain⟨hb,e⟩:=Oy z
  obtain⟨f0,f1,f2,_⟩:=hf p.1 hb
  obtain⟨o,e',d⟩:=ho p.1 hb
  rw[e]at e';cases e'
  exact⟨e,f0,f1,f2,d⟩
theorem Ao.unpinned {pins pl:List (Addr×Obj)}{σ:St}{H:Hp}{s:Shared}(I:Ao X (pins++pl) σ H s):Ao X pins σ H s:=I.pins_of fun p hp=>I.pin p (List.mem_append_right _ (List.mem_append_left _ hp))
theorem B0 {iter:Expr}{body:List Stmt}{wi:TI}{g:TG}{tb:TS}{pos:Pos}(hp:PassesOwn (model X.prog X.w) X.A X.env X.xe)(hc:X.calm=true)(hi:PI X tg iter wi)(hg:PG X tg g)(hb:MB X body tb)
 (hs:∀ x,foldedSetIterable iter X.env x=pure x:=by intro _;rfl):PS X (.For tg iter body [] pos) (YB wi g tb):=by
 intro pins s σ H D I h
 refine wpAny_For (BZ (hi pins s σ H _ I h) fun v s1 h1=>BZ h1 fun itv s2 h2=>?_) hs
 obtain⟨it,fp,tn,J,H2,e,I2,T,st2,f2,W,⟨m0,w0⟩,turn⟩:=h2
 subst e
 have stat:∀{H':Hp},(∀ b∈fp,H' b=none)→∀ b∈fp,Fd X pins H' b:=fun hn b hb=>⟨hn b hb,(f2 b hb).2⟩
 refine codeAny_forLoop_any (fun n s'=>∃ i σ' H',Ao X pins σ' H' s'∧tn i s'.heap∧(∀ b∈fp,H' b=none)∧W i n σ' H') ?_ m0 ⟨0,σ,H2,I2,st2,fun b hb=>(f2 b hb).1,w0⟩
 rintro n s3 ⟨i,σ3,H3,I3,st3,fr3,w3⟩
 rcases turn i n σ3 H3 w3 with⟨stop,qn⟩ | ⟨go,N,hN,step⟩
 ·refine wpAny_passesOwn hp (BZ (T.done X rfl rfl rfl hc i pins s3 σ3 H3 X.xe I3 (stat fr3) st3 stop) fun r s4 zq=>?_)
  obtain⟨hr,I4⟩:=zq
  subst hr
  exact wpAny_execs_nil ⟨σ3,H3,I4,qn⟩
 ·refine wpAny_passesOwn hp (BZ (T.item X rfl rfl rfl hc i pins s3 σ3 H3 X.xe I3 (stat fr3) st3 go) fun r s4 zq=>?_)
  obtain⟨u,hr,h4⟩:=zq
  subst hr
  refine wpAny_passesOwn hp (BZ h4 fun _ s5 zq=>?_)
  obtain⟨x,H5,I5,r5,y5,st5,fr5⟩:=zq
  have I5':=I5.pinned (stat fr5) (T.obj _ _ st5)
  refine wpAny_passesOwn hp (BZ (hg _ s5 σ3 H5 x u _ I5' r5 (step x H5 y5)) fun _ s6 zq=>?_)
  obtain⟨σ6,H6,I6,q6⟩:=zq
  refine wpAny_passesOwn hp (BZ (hb _ s6 σ6 H6 _ I6 q6) fun f s7 q7=>?_)
  have again:∀{σ7:St} {H7:Hp},Ao X (pins++Gf fp s5.heap) σ7 H7 s7→N σ7 H7→∃ m,m<n∧∃ i σ' H',Ao X pins σ' H' s7∧tn i s7.heap∧(∀ b∈fp,H' b=none)∧W i m σ' H':=fun {σ7 H7} I7 n7=>by
   obtain⟨m',hm,w7⟩:=hN σ7 H7 n7
   refine⟨m',hm,i+1,σ7,H7,I7.unpinned,T.keep _ _ _ st5 fun b hb o e=>(I7.pin (b,o) (List.mem_append_right _ (List.mem_append_right _ (CG hb e)))).1,fun b hb=>?_,w7⟩
   obtain⟨o,e,d⟩:=T.obj _ _ st5 b hb
   exact(I7.pin (b,o) (List.mem_append_right _ (List.mem_append_right _ (CG hb e)))).2.1
  cases f with
  | next=>obtain⟨σ7,H7,I7,n7⟩:=q7;exact again I7 n7
  | cont=>obtain⟨σ7,H7,I7,n7⟩:=q7;exact again I7 n7
  | brk=>obtain⟨σ7,H7,I7,q7⟩:=q7;exact⟨σ7,H7,I7.unpinned,q7⟩
  | ret v=>obtain⟨x7,σ7,H7,I7,r7,q7⟩:=q7;exact⟨x7,σ7,H7,I7.unpinned,r7,q7⟩
end
theorem G6 {K:PySem.W.Frag}{a:Addr}{xs:List V}{g:TG}{tb:TS}{D:Dj}{σ:St}{H:Hp}(Pv:Nat→St→Hp→Prop)(h0:Pv 0 σ H)(hl:∀ i σ H,i≤xs.length→Pv i σ H→Ax K H a xs)
 (hs:∀ i x σ H,xs[i]?=some x→Pv i σ H→g x σ H fun σ2 H2=>tb { D with nx:=Pv (i+1),ct:=Pv (i+1),bk:=D.nx } σ2 H2) (hd:∀ σ H,Pv xs.length σ H→D.nx σ H):
 ∃ W:Nat→Nat→St→Hp→Prop,(∃ m,W 0 m σ H)∧∀ i m σ H,W i m σ H→
  ((Va K a).stop i H∧D.nx σ H)∨((Va K a).go i H∧∃ N:St→Hp→Prop,(∀ σ' H',N σ' H'→∃ m',m'<m∧W (i+1) m' σ' H')∧∀ x H',(Va K a).yld i H x H'→g x σ H' fun σ2 H2=>tb { D with nx:=N,ct:=N,bk:=D.nx } σ2 H2):=by
 refine⟨fun i m σ H=>m=xs.length-i∧i≤xs.length∧Pv i σ H,⟨xs.length,by simp,Nat.zero_le _,h0⟩,?_⟩
 rintro i m σ H ⟨rfl,hi,p⟩
 have q:=hl i σ H hi p
 by_cases hlt:i<xs.length
 ·refine .inr ⟨⟨xs,xs[i],q,by simp[hlt]⟩,Pv (i+1),fun σ' H' p'=>⟨xs.length-(i+1),by omega,rfl,hlt,p'⟩,fun x H' y=>?_⟩
  obtain⟨e,y⟩:=y
  subst e
  exact hs i x σ _ (y xs q) p
 ·have e:i=xs.length:=by omega
  subst e
  exact .inl ⟨⟨xs,q,Nat.le_refl _⟩,hd σ H p⟩
theorem G7 {K:PySem.W.Frag}{a:Addr}{xs:List V}{g:TG}{tb:TS}{D:Dj}{σ:St}{H:Hp}(Pv:Nat→St→Hp→Prop)(h0:Pv 0 σ H)(hl:∀ i σ H,i≤xs.length→Pv i σ H→Af K H a xs)
 (hs:∀ i x σ H,xs[i]?=some x→Pv i σ H→g x σ H fun σ2 H2=>tb { D with nx:=Pv (i+1),ct:=Pv (i+1),bk:=D.nx } σ2 H2) (hd:∀ σ H,Pv xs.length σ H→D.nx σ H):
 ∃ W:Nat→Nat→St→Hp→Prop,(∃ m,W 0 m σ H)∧∀ i m σ H,W i m σ H→
  ((Vb K a).stop i H∧D.nx σ H)∨((Vb K a).go i H∧∃ N:St→Hp→Prop,(∀ σ' H',N σ' H'→∃ m',m'<m∧W (i+1) m' σ' H')∧∀ x H',(Vb K a).yld i H x H'→g x σ H' fun σ2 H2=>tb { D with nx:=N,ct:=N,bk:=D.nx } σ2 H2):=by
 refine⟨fun i m σ H=>m=xs.length-i∧i≤xs.length∧Pv i σ H,⟨xs.length,by simp,Nat.zero_le _,h0⟩,?_⟩
 rintro i m σ H ⟨rfl,hi,p⟩
 have q:=hl i σ H hi p
 by_cases hlt:i<xs.length
 ·refine .inr ⟨⟨xs,xs[i],q,by simp[hlt]⟩,Pv (i+1),fun σ' H' p'=>⟨xs.length-(i+1),by omega,rfl,hlt,p'⟩,fun x H' y=>?_⟩
  obtain⟨e,y⟩:=y
  subst e
  exact hs i x σ _ (y xs q) p
 ·have e:i=xs.length:=by omega
  subst e
  exact .inl ⟨⟨xs,q,Nat.le_refl _⟩,hd σ H p⟩
theorem GK {lo:Int}{n:Nat}{g:TG}{tb:TS}{D:Dj}{σ:St}{H:Hp}(Pv:Nat→St→Hp→Prop)(h0:Pv 0 σ H)
 (hs:∀ i σ H,i<n→Pv i σ H→g (.int (lo+i)) σ H fun σ2 H2=>tb { D with nx:=Pv (i+1),ct:=Pv (i+1),bk:=D.nx } σ2 H2) (hd:∀ σ H,Pv n σ H→D.nx σ H):
 ∃ W:Nat→Nat→St→Hp→Prop,(∃ m,W 0 m σ H)∧∀ i m σ H,W i m σ H→
  ((Tn lo n).stop i H∧D.nx σ H)∨((Tn lo n).go i H∧∃ N:St→Hp→Prop,(∀ σ' H',N σ' H'→∃ m',m'<m∧W (i+1) m' σ' H')∧∀ x H',(Tn lo n).yld i H x H'→g x σ H' fun σ2 H2=>tb { D with nx:=N,ct:=N,bk:=D.nx } σ2 H2):=by
 refine⟨fun i m σ H=>m=n-i∧i≤n∧Pv i σ H,⟨n,by simp,Nat.zero_le _,h0⟩,?_⟩
 rintro i m σ H ⟨rfl,hi,p⟩
 by_cases hlt:i<n
 ·refine .inr ⟨hlt,Pv (i+1),fun σ' H' p'=>⟨n-(i+1),by omega,rfl,hlt,p'⟩,fun x H' y=>?_⟩
  obtain⟨e,y⟩:=y
  subst e y
  exact hs i σ _ hlt p
 ·have e:i=n:=by omega
  subst e
  exact .inl ⟨Nat.le_refl _,hd σ H p⟩
theorem ME {c:TT}{tb:TS}{D:Dj}{σ:St}{H:Hp}(Pv:St→Hp→Prop)(μ:St→Hp→Nat)(h0:Pv σ H)
 (hs:∀ σ H,Pv σ H→c σ H fun b H1=>if b=true then tb { D with nx:=fun σ' H'=>Pv σ' H'∧μ σ' H'<μ σ H,ct:=fun σ' H'=>Pv σ' H'∧μ σ' H'<μ σ H,bk:=D.nx } σ H1 else D.nx σ H1)
 (mono:∀ σ H Q Q',(∀ b H1,Q b H1→Q' b H1)→c σ H Q→c σ H Q'):P5 c tb D σ H:=by
 refine⟨fun m σ H=>m=μ σ H∧Pv σ H,⟨_,rfl,h0⟩,?_⟩
 rintro m σ H ⟨rfl,p⟩
 refine mono σ H _ _ (fun b H1 q=>?_) (hs σ H p)
 cases b with
 | true=>exact⟨_,fun σ' H' ⟨p',l⟩=>⟨_,l,rfl,p'⟩,q⟩
 | false=>exact q
abbrev R2:=V→V→Hp→VK→Prop
def GL (X:Cx)(f:Value→Value→Sem Value)(r:R2):Prop:=
 ∀(pins:List (Addr×Obj)) (s:Shared) (σ:St) (H:Hp) (x y:V) (v u:Value) (Q:VK),Ao X pins σ H s→A2 x v→A2 y u→r x y H Q→
  wpAny (model X.prog X.w) X.A (f v u) (EP X pins σ Q) X.xe s
def YC (X:Cx)(f:Value→Sem Value)(r:V→Hp→VK→Prop):Prop:=
 ∀(pins:List (Addr×Obj)) (s:Shared) (σ:St) (H:Hp) (x:V) (v:Value) (Q:VK),Ao X pins σ H s→A2 x v→r x H Q→
  wpAny (model X.prog X.w) X.A (f v) (EP X pins σ Q) X.xe s
def Dw (X:Cx)(f:Value)(r:List V→Hp→VK→Prop):Prop:=
 ∀(pins:List (Addr×Obj)) (s:Shared) (σ:St) (H:Hp) (xs:List V) (us:List Value) (Q:VK),Ao X pins σ H s→A1 xs us→r xs H Q→
  wpAny (model X.prog X.w) X.A (call f us) (EP X pins σ Q) X.xe s
def MF (r:R2)(ta tb:TE):TE:=fun σ H Q=>ta σ H fun x H1=>tb σ H1 fun y H2=>r x y H2 Q
def ZK (r:V→Hp→VK→Prop)(ta:TE):TE:=fun σ H Q=>ta σ H fun x H1=>r x H1 Q
def rI (C:Int→Int→Prop)(g:Int→Int→V):R2:=fun x y H Q=>∃ i j,x=.int i∧y=.int j∧C i j∧Q (g i j) H
def Rt (g:Int→Int→V):R2:=fun x y H Q=>∃ i j,x=.int i∧y=.int j∧Q (g i j) H
def rU (g:Int→V):V→Hp→VK→Prop:=fun x H Q=>∃ i,x=.int i∧Q (g i) H
section
variable {X:Cx}{a b c:Expr}{ta tb tc:TE}{pos:Pos}
theorem To (ha:PE X a ta)(hb:PE X b tb){pins:List (Addr×Obj)}{s:Shared}{σ:St}{H:Hp}{R:V→V→Hp→Prop}(I:Ao X pins σ H s)
 (h:ta σ H fun x H1=>tb σ H1 fun y H2=>R x y H2) {Q:Value→Shared→Prop} {f:Value→Value→Sem Value}
 (hf:∀ v u s2 x y H2,Ao X pins σ H2 s2→A2 x v→A2 y u→R x y H2→wpAny (model X.prog X.w) X.A (f v u) Q X.xe s2):
 wpAny (model X.prog X.w) X.A (eval a X.env) (fun v s₁=>wpAny (model X.prog X.w) X.A (eval b X.env) (fun u s₂=>wpAny (model X.prog X.w) X.A (f v u) Q X.xe s₂) X.xe s₁) X.xe s:=by
 refine BZ (ha pins s σ H _ I h) fun v s1 zq=>?_
 obtain⟨x,H1,I1,r1,q1⟩:=zq
 refine BZ (hb pins s1 σ H1 _ I1 q1) fun u s2 zq=>?_
 obtain⟨y,H2,I2,r2,q2⟩:=zq
 exact hf v u s2 x y H2 I2 r1 r2 q2
theorem AY {op:Operator}{r:R2}(ho:GL X (binaryOp op) r)(ha:PE X a ta)(hb:PE X b tb):PE X (.BinOp a op b pos) (MF r ta tb):=by
 intro pins s σ H Q I h
 exact wpAny_BinOp (To ha hb I h fun v u s2 x y H2 I2 rx ry q=>ho pins s2 σ H2 x y v u Q I2 rx ry q)
theorem P6 {op:UnaryOp}{r:V→Hp→VK→Prop}(ho:YC X (unaryOp op) r)(ha:PE X a ta):PE X (.UnaryOp op a pos) (ZK r ta):=by
 intro pins s σ H Q I h
 exact UnaryOp_ (BZ (ha pins s σ H _ I h) fun v s1 ⟨x,H1,I1,r1,q1⟩=>ho pins s1 σ H1 x v Q I1 r1 q1)
theorem Ve {f:Value→Value→Sem Value}{C:Int→Int→Prop}{g:Int→Int→Int}
 (rule:∀(i j:Int) (t u:Tok) (s:Shared) (Q:Value→Shared→Prop) (E:Value→Shared→Prop),C i j→Q (.int (g i j) s.toks) { s with toks:=s.toks+1 }→wpAny (model X.prog X.w) X.A (f (.int i t) (.int j u)) Q E s):
 GL X f (rI C fun i j=>.int (g i j)):=by
 intro pins s σ H x y v u Q I rx ry h
 obtain⟨i,j,rfl,rfl,hc,q⟩:=h
 obtain⟨t,rfl⟩:=rx
 obtain⟨t',rfl⟩:=ry
 exact rule i j t t' s _ _ hc ⟨.int (g i j),H,I.tok _,⟨_,rfl⟩,q⟩
theorem Vf {f:Value→Value→Sem Value}{g:Int→Int→Int}
 (rule:∀(i j:Int) (t u:Tok) (s:Shared) (Q:Value→Shared→Prop) (E:Value→Shared→Prop),Q (.int (g i j) s.toks) { s with toks:=s.toks+1 }→wpAny (model X.prog X.w) X.A (f (.int i t) (.int j u)) Q E s):
 GL X f (Rt fun i j=>.int (g i j)):=by
 intro pins s σ H x y v u Q I rx ry h
 obtain⟨i,j,rfl,rfl,q⟩:=h
 obtain⟨t,rfl⟩:=rx
 obtain⟨t',rfl⟩:=ry
 exact rule i j t t' s _ _ ⟨.int (g i j),H,I.tok _,⟨_,rfl⟩,q⟩
theorem Ru {f:Value→Value→Sem Value}{g:Int→Int→Bool}
 (rule:∀(i j:Int) (t u:Tok) (s:Shared) (Q:Value→Shared→Prop) (E:Value→Shared→Prop),Q (.bool (g i j)) s→wpAny (model X.prog X.w) X.A (f (.int i t) (.int j u)) Q E s):
 GL X f (Rt fun i j=>.bl (g i j)):=by
 intro pins s σ H x y v u Q I rx ry h
 obtain⟨i,j,rfl,rfl,q⟩:=h
 obtain⟨t,rfl⟩:=rx
 obtain⟨t',rfl⟩:=ry
 exact rule i j t t' s _ _ ⟨.bl (g i j),H,I,rfl,q⟩
def YD (i j:Int):Prop:=0<j∧j<1073741824
def YE (i j:Int):Prop:=0≤j∧j≤1000000∧i.natAbs<2 ^ 64
theorem A0:GL X (binaryOp .Add) (Rt fun i j=>.int (i+j)):=Vf fun _ _ _ _ _ _ _ q=>add_int q
theorem BH:GL X (binaryOp .Sub) (Rt fun i j=>.int (i-j)):=Vf fun _ _ _ _ _ _ _ q=>sub_int q
theorem LN:GL X (binaryOp .FloorDiv) (rI YD fun i j=>.int (i / j)):=Ve fun i j _ _ _ _ _ hc q=>by
 have h1:(0:Int)<j:=hc.1
 have h2:j<1073741824:=hc.2
 exact floordiv_int (by omega) (by rw[Int.fdiv_eq_ediv_of_nonneg i (by omega)];exact q) (.inl (PyProof.noPylong_small (by omega)))
theorem Cd:GL X (binaryOp .Mod) (rI (fun _ j=>0<j) fun i j=>.int (i%j)):=Ve fun i j _ _ _ _ _ hc q=>by
 have h1:(0:Int)<j:=hc
 exact mod_int' (by omega) (by rw[Int.fmod_eq_emod_of_nonneg i (by omega)];exact q)
theorem JP:GL X (binaryOp .Pow) (rI YE fun i j=>.int (i ^ j.toNat)):=Ve fun _ _ _ _ _ _ _ hc q=>pow_int_small hc.1 hc.2.1 hc.2.2 q
theorem ZL {f:Value→Sem Value}{g:Int→Int}
 (rule:∀(i:Int) (t:Tok) (s:Shared) (Q:Value→Shared→Prop) (E:Value→Shared→Prop),Q (.int (g i) s.toks) { s with toks:=s.toks+1 }→wpAny (model X.prog X.w) X.A (f (.int i t)) Q E s):
 YC X f (rU fun i=>.int (g i)):=by
 intro pins s σ H x v Q I rx h
 obtain⟨i,rfl,q⟩:=h
 obtain⟨t,rfl⟩:=rx
 exact rule i t s _ _ ⟨.int (g i),H,I.tok _,⟨_,rfl⟩,q⟩
theorem NK:YC X (unaryOp .USub) (rU fun i=>.int (-i)):=ZL fun _ _ _ _ _ q=>neg_int q
end
def KK:V→V→Bool
 | .non,.non=>true | .non,.int _=>true | .int _,.non=>true | .non,.bl _=>true | .bl _,.non=>true | .non,.str _=>true | .str _,.non=>true
 | .int _,.int _=>true | .bl _,.bl _=>true | .str _,.str _=>true | .byt _,.byt _=>true
 | .int _,.str _=>true | .str _,.int _=>true | .bl _,.str _=>true | .str _,.bl _=>true
 | _,_=>false
def P7:R2:=fun x y H Q=>KK x y=true∧Q (.bl (decide (x=y))) H
def ZM:R2:=fun x y H Q=>KK x y=true∧Q (.bl (!decide (x=y))) H
theorem N8 {i j:Int}:decide (V.int i=V.int j)=(i==j):=by
 rw[Bool.eq_iff_iff]
 simp
theorem P8 {i j:Bool}:decide (V.bl i=V.bl j)=(i==j):=by
 rw[Bool.eq_iff_iff]
 simp
theorem N9 {i j:Str}:decide (V.str i=V.str j)=(i==j):=by
 rw[Bool.eq_iff_iff]
 simp
theorem OA {i j:Array UInt8}:decide (V.byt i=V.byt j)=(i.toList==j.toList):=by
 rw[Bool.eq_iff_iff]
 cases i
 cases j
 simp
section
variable {X:Cx}{a b c:Expr}{ta tb tc:TE}{pos:Pos}
theorem BF {pins:List (Addr×Obj)}{σ:St}{H:Hp}{s:Shared}{Q:VK}{k k':Bool}(I:Ao X pins σ H s)(q:Q (.bl k) H)(e:k=k'):EP X pins σ Q (.bool k') s:=by
 subst e
 exact⟨.bl k,H,I,rfl,q⟩
theorem Aj:GL X (compareOp .Eq) P7:=by
 intro pins s σ H x y v u Q I rx ry h
 obtain⟨hs,q⟩:=h
 cases x with
 | non=>
  cases rx
  cases y with
  | non=>cases ry;exact PySem.EqNone.eq_none_none (BF I q (by simp))
  | bl j=>cases ry;exact PySem.EqNone.eq_none_bool (BF I q (by simp))
  | int j=>obtain⟨t',rfl⟩:=ry;exact PySem.EqNone.eq_none_int (BF I q (by simp))
  | str j=>obtain⟨t',rfl⟩:=ry;exact PySem.EqNone.eq_none_str (BF I q (by simp))
  | _=>exact absurd (show false=true from hs) Bool.false_ne_true
 | bl i=>
  cases rx
  cases y with
  | non=>cases ry;exact PySem.EqNone.eq_bool_none (BF I q (by simp))
  | bl j=>cases ry;exact eq_bool (BF I q P8)
  | str j=>obtain⟨t',rfl⟩:=ry;exact PySem.EqMixed.eq_bool_str (BF I q (by simp))
  | _=>exact absurd (show false=true from hs) Bool.false_ne_true
 | int i=>
  obtain⟨t,rfl⟩:=rx
  cases y with
  | non=>cases ry;exact PySem.EqNone.eq_int_none (BF I q (by simp))
  | int j=>obtain⟨t',rfl⟩:=ry;exact eq_int (BF I q N8)
  | str j=>obtain⟨t',rfl⟩:=ry;exact PySem.EqMixed.eq_int_str (BF I q (by simp))
  | _=>exact absurd (show false=true from hs) Bool.false_ne_true
 | str i=>
  obtain⟨t,rfl⟩:=rx
  cases y with
  | non=>cases ry;exact PySem.EqNone.eq_str_none (BF I q (by simp))
  | bl j=>cases ry;exact PySem.EqMixed.eq_str_bool (BF I q (by simp))
  | int j=>obtain⟨t',rfl⟩:=ry;exact PySem.EqMixed.eq_str_int (BF I q (by simp))
  | str j=>obtain⟨t',rfl⟩:=ry;exact eq_str (BF I q N9)
  | _=>exact absurd (show false=true from hs) Bool.false_ne_true
 | byt i=>
  obtain⟨t,rfl⟩:=rx
  cases y with
  | byt j=>obtain⟨t',rfl⟩:=ry;exact PySem.W.eq_bytes (BF I q OA)
  | _=>exact absurd (show false=true from hs) Bool.false_ne_true
 | _=>cases y <;> exact absurd (show false=true from hs) Bool.false_ne_true
theorem MG:GL X (compareOp .NotEq) ZM:=by
 intro pins s σ H x y v u Q I rx ry h
 obtain⟨hs,q⟩:=h
 cases x with
 | non=>
  cases rx
  cases y with
  | non=>cases ry;exact PySem.EqNone.ne_none_none (BF I q (by simp))
  | bl j=>cases ry;exact PySem.EqNone.ne_none_bool (BF I q (by simp))
  | int j=>obtain⟨t',rfl⟩:=ry;exact PySem.EqNone.ne_none_int (BF I q (by simp))
  | str j=>obtain⟨t',rfl⟩:=ry;exact PySem.EqNone.ne_none_str (BF I q (by simp))
  | _=>exact absurd (show false=true from hs) Bool.false_ne_true
 | bl i=>
  cases rx
  cases y with
  | non=>cases ry;exact PySem.EqNone.ne_bool_none (BF I q (by simp))
  | bl j=>cases ry;exact ne_bool (BF I q (congrArg not P8))
  | str j=>obtain⟨t',rfl⟩:=ry;exact PySem.EqMixed.ne_bool_str (BF I q (by simp))
  | _=>exact absurd (show false=true from hs) Bool.false_ne_true
 | int i=>
  obtain⟨t,rfl⟩:=rx
  cases y with
  | non=>cases ry;exact PySem.EqNone.ne_int_none (BF I q (by simp))
  | int j=>obtain⟨t',rfl⟩:=ry;exact ne_int (BF I q (congrArg not N8))
  | str j=>obtain⟨t',rfl⟩:=ry;exact PySem.EqMixed.ne_int_str (BF I q (by simp))
  | _=>exact absurd (show false=true from hs) Bool.false_ne_true
 | str i=>
  obtain⟨t,rfl⟩:=rx
  cases y with
  | non=>cases ry;exact PySem.EqNone.ne_str_none (BF I q (by simp))
  | bl j=>cases ry;exact PySem.EqMixed.ne_str_bool (BF I q (by simp))
  | int j=>obtain⟨t',rfl⟩:=ry;exact PySem.EqMixed.ne_str_int (BF I q (by simp))
  | str j=>obtain⟨t',rfl⟩:=ry;exact ne_str (BF I q (congrArg not N9))
  | _=>exact absurd (show false=true from hs) Bool.false_ne_true
 | byt i=>
  obtain⟨t,rfl⟩:=rx
  cases y with
  | byt j=>obtain⟨t',rfl⟩:=ry;exact PySem.W.ne_bytes (BF I q (congrArg not OA))
  | _=>exact absurd (show false=true from hs) Bool.false_ne_true
 | _=>cases y <;> exact absurd (show false=true from hs) Bool.false_ne_true
theorem FS:GL X (compareOp .Lt) (Rt fun i j=>.bl (decide (i<j))):=Ru fun _ _ _ _ _ _ _ q=>lt_int q
theorem MH:GL X (compareOp .LtE) (Rt fun i j=>.bl (decide (i≤j))):=Ru fun _ _ _ _ _ _ _ q=>le_int q
theorem Kq:GL X (compareOp .Gt) (Rt fun i j=>.bl (decide (j<i))):=Ru fun _ _ _ _ _ _ _ q=>gt_int q
theorem Vg:GL X (compareOp .GtE) (Rt fun i j=>.bl (decide (j≤i))):=Ru fun _ _ _ _ _ _ _ q=>ge_int q
theorem Oz:GL X (compareOp .Lt) (fun x y H Q=>∃ i j,x=.str i∧y=.str j∧Q (.bl (decide (i.cps.toList<j.cps.toList))) H):=by
 intro pins s σ H x y v u Q I rx ry h
 obtain⟨i,j,rfl,rfl,q⟩:=h
 obtain⟨t,rfl⟩:=rx
 obtain⟨t',rfl⟩:=ry
 exact lt_str (BF I q rfl)
theorem O0:GL X (compareOp .In) (fun x y H Q=>∃ i j,x=.str i∧y=.str j∧Q (.bl (!(Builtin.Str.occurrences j i 0 j.length 1).isEmpty)) H):=by
 intro pins s σ H x y v u Q I rx ry h
 obtain⟨i,j,rfl,rfl,q⟩:=h
 obtain⟨t,rfl⟩:=rx
 obtain⟨t',rfl⟩:=ry
 exact in_str (BF I q rfl)
theorem Ht:GL X (compareOp .Is) (fun x y H Q=>y=.non∧Q (.bl (decide (x=.non))) H):=by
 intro pins s σ H x y v u Q I rx ry h
 obtain⟨rfl,q⟩:=h
 cases ry
 refine is_none_gen (BF I q ?_)
 cases x <;> first
  | (cases rx;rfl)
  | (obtain⟨t,rfl⟩:=rx;rfl)
theorem OB:GL X (compareOp .IsNot) (fun x y H Q=>y=.non∧Q (.bl (!decide (x=.non))) H):=by
 intro pins s σ H x y v u Q I rx ry h
 obtain⟨rfl,q⟩:=h
 cases ry
 refine isnot_none_gen (BF I q ?_)
 cases x <;> first
  | (cases rx;rfl)
  | (obtain⟨t,rfl⟩:=rx;rfl)
theorem AN (b:Expr){op:CmpOp}(h:op≠.In:=by decide)(h2:op≠.NotIn:=by decide):behindInMarks op b=false:=by
 have e1:(op==CmpOp.In)=false:=by cases op <;> first | rfl | exact absurd rfl h
 have e2:(op==CmpOp.NotIn)=false:=by cases op <;> first | rfl | exact absurd rfl h2
 cases b <;> simp[behindInMarks,e1,e2]
theorem A3 {op:CmpOp}{r:R2}(ho:GL X (compareOp op) r)(ha:PE X a ta)(hb:PE X b tb)(hm:behindInMarks op b=false):PE X (.Compare a [op] [b] pos) (MF r ta tb):=by
 intro pins s σ H Q I h
 exact wpAny_Compare1 (To ha hb I h fun v u s2 x y H2 I2 rx ry q=>ho pins s2 σ H2 x y v u Q I2 rx ry q) hm
def FT (t:TE):TT:=fun σ H Q=>t σ H fun x H'=>∃ k,x=.bl k∧Q k H'
theorem AQ {op:CmpOp}{r:R2}(ho:GL X (compareOp op) r)(ha:PE X a ta)(hb:PE X b tb)(hm:behindInMarks op b=false):PT X (.Compare a [op] [b] pos) (FT (MF r ta tb)):=by
 intro pins s σ H Q I h
 refine wpAny_isTrue_Compare1 (BZ (ha pins s σ H _ I h) fun v s1 ⟨x,H1,I1,r1,q1⟩=>BZ (hb pins s1 σ H1 _ I1 q1) fun u s2 ⟨y,H2,I2,r2,q2⟩=>
  BZ (ho pins s2 σ H2 x y v u _ I2 r1 r2 q2) fun c s3 ⟨z,H3,I3,r3,k,e,q3⟩=>?_) hm
 subst e
 cases r3
 exact wpAny_truthy_bool ⟨H3,I3,q3⟩
theorem Hu:(sizeLine:Nat)<2 ^ 63:=by rw[sizeLine_eq];decide
theorem CH:GL X (binaryOp .Add) (fun x y H Q=>∃ i j,x=.str i∧y=.str j∧i.length+j.length≤sizeLine∧Q (.str (i++j)) H):=by
 intro pins s σ H x y v u Q I rx ry h
 obtain⟨i,j,rfl,rfl,hz,q⟩:=h
 obtain⟨t,rfl⟩:=rx
 obtain⟨t',rfl⟩:=ry
 exact add_str (fun t' tk=>⟨.str (i++j),H,I.tok _,⟨_,rfl⟩,q⟩) hz
theorem Fk {x:V}{us:List Value}(r:A1 [x] us):∃ u,us=[u]∧A2 x u:=by
 cases r with
 | cons r1 r2=>cases r2;exact⟨_,rfl,r1⟩
theorem Sw {x y:V}{us:List Value}(r:A1 [x,y] us):∃ u w',us=[u,w']∧A2 x u∧A2 y w':=by
 cases r with
 | cons r1 r2=>
  cases r2 with
  | cons r3 r4=>cases r4;exact⟨_,_,rfl,r1,r3⟩
theorem Ex:Dw X (.builtin "abs") (fun xs H Q=>∃ i,xs=[.int i]∧Q (.int (if i<0 then -i else i)) H):=by
 intro pins s σ H xs us Q I r h
 obtain⟨i,rfl,q⟩:=h
 obtain⟨u,rfl,t,rfl⟩:=Fk r
 exact call_abs_int fun u tk=>⟨.int (if i<0 then -i else i),H,I.tok _,⟨_,rfl⟩,q⟩
theorem Kr (hc:X.calm=true):Dw X (.builtin "max") (fun xs H Q=>∃ i j,xs=[.int i,.int j]∧Q (.int (if j>i then j else i)) H):=by
 intro pins s σ H xs us Q I r h
 obtain⟨i,j,rfl,q⟩:=h
 obtain⟨u,w',rfl,⟨t,rfl⟩,⟨t',rfl⟩⟩:=Sw r
 refine max_two_ints (I.ok.hd hc) fun h' tk k=>⟨_,H,I.kept k,?_,q⟩
 by_cases hj:j>i
 ·rw[if_pos hj,if_pos hj];exact⟨_,rfl⟩
 ·rw[if_neg hj,if_neg hj];exact⟨_,rfl⟩
theorem Ey:Dw X (.type "int") (fun xs H Q=>(∃ i,xs=[.int i]∧Q (.int i) H)∨∃ k,xs=[.bl k]∧Q (.int (if k then 1 else 0)) H):=by
 intro pins s σ H xs us Q I r h
 rcases h with⟨i,rfl,q⟩ | ⟨k,rfl,q⟩
 ·obtain⟨u,rfl,t,rfl⟩:=Fk r
  exact call_int_int ⟨.int i,H,I,⟨_,rfl⟩,q⟩
 ·obtain⟨u,rfl,r1⟩:=Fk r
  cases r1
  exact call_int_bool ⟨.int (if k then 1 else 0),H,I.tok _,⟨_,rfl⟩,q⟩
end
structure Tp (h:Heap)(x dx C:Addr)(mA:Str→Option Value):Prop where
 obj:h.get? x=some (PySem.W.instObj C dx)
 ns:h.Ns1 dx mA
 ne:dx≠x
theorem O1 {h:Heap}{dx:Addr}{mA:Str→Option Value}(n:h.Ns1 dx mA):∃ od,h.get? dx=some od∧∀ name,PySem.W.lookIn name od=some (mA name):=by
 obtain⟨o,es,ep,ho,hd,hk,_,hm⟩:=n
 refine⟨o,ho,fun name=>?_⟩
 have e:=hm name
 unfold nsFind findBy at e
 rw[← Array.find?_toList]at e
 unfold PySem.W.lookIn
 rw[hd]
 dsimp only
 split
 ·rename_i y q
  rw[q]at e
  exact congrArg some e
 ·rename_i q
  rw[q]at e
  have a:es.toList.any (·.refKey)=false:=by
   rw[List.any_eq_false]
   intro y hy
   obtain⟨z,t,hkey⟩:=hk y (Array.mem_toList_iff.mp hy)
   simp[DictEntry.refKey,hkey]
  have a':¬ es.toList.any (·.refKey)=true:=by rw[a];exact Bool.false_ne_true
  rw[if_neg a']
  exact congrArg some e
theorem Tp.look {h:Heap}{x dx C:Addr}{mA:Str→Option Value}(I:Tp h x dx C mA):∃ od,PySem.W.InstAt h x (PySem.W.instObj C dx) C (some od)∧∀ name,PySem.W.lookIn name od=some (mA name):=
 let ⟨od,ho,hl⟩:=O1 I.ns
 ⟨od,⟨I.obj,rfl,rfl,ho⟩,hl⟩
theorem Hs.some_of {v:V}{o:Option Value}(r:Hs (some v) o):∃ u,o=some u∧A2 v u:=by
 cases o with
 | none=>exact(show False from r).elim
 | some u=>exact⟨u,rfl,r⟩
section
variable {P:Program}{w:World}{H H':Hp}{h h':Heap}{a C dx:Addr}{fs fs':List (Str×V)}
theorem Rv (hok:GQ P w H h)(e:H a=some (.ins C dx fs)):∃ mA,Tp h a dx C mA∧(∀ f,Hs (fs.lookup f) (mA f))∧PySem.Within mA (fs.map (·.1))∧fs.length≤1000∧H dx=some (.own a):=by
 obtain⟨d,z,ne,ob,mA,n,r,q⟩:=(show BW P w H h a (.ins C dx fs)from hok a _ e)
 exact⟨mA,⟨ob,n,ne⟩,r,q,z,d⟩
end
structure YF (K:PySem.W.Frag)(C:Addr):Prop where
 pg:PySem.W.plainGet K C Str.empty=true
 hd:PySem.W.hasDictIn K C=true
 po:PySem.W.plainOver K C=true
 sa:PySem.W.findIn K (.ref C) "__setattr__"=some (some (.builtin "object.__setattr__"))
theorem YF.get {K:PySem.W.Frag}{C:Addr}(c:YF K C)(f:Str):PySem.W.plainGet K C f=true:=c.pg
structure Zd (K:PySem.W.Frag)(C:Addr)(f:Str)(v:V)(u:Value):Prop where
 at_:PySem.W.findIn K (.ref C) f=some (some u)
 rel:A2 v u
 get:PySem.W.specialIn K u "__get__"=some none
 cp:PySem.W.copiedNames.contains f=false
structure ZN (K:PySem.W.Frag)(C:Addr)(m:Str)(f:Addr):Prop where
 at_:PySem.W.findIn K (.ref C) m=some (some (.ref f))
 fn:PySem.W.isFn K (.ref f)=true
 kp:PySem.W.keepIn K (.ref f)=true
section
variable {X:Cx}{pins:List (Addr×Obj)}{σ:St}{H:Hp}{s:Shared}{A:Around}{E:Value→Shared→Prop}{Q:Value→Shared→Prop}{c:Value}{b:Bool}
inductive Hv (K:PySem.W.Frag)(H:Hp):V→Value→Prop where
 | non:Hv K H .non (.type "NoneType")
 | bl (x:Bool):Hv K H (.bl x) (.type "bool")
 | int (i:Int):Hv K H (.int i) (.type "int")
 | str (x:Str):Hv K H (.str x) (.type "str")
 | flt (x:UInt64):Hv K H (.flt x) (.type "float")
 | lst {a:Addr} {xs:List V} (e:H a=some (.lst xs)):Hv K H (.ref a) (.type "list")
 | frz {a:Addr} {o:Obj} {xs:List V} (e:H a=some (.frz o (.lst xs))):Hv K H (.ref a) (.type "list")
 | tup {a:Addr} {xs:List V} (e:H a=some (.tup xs)):Hv K H (.ref a) (.type "tuple")
 | dK {a:Addr} {kvs:List (BC×V)} (e:H a=some (.dK kvs)):Hv K H (.ref a) (.type "dict")
 | dT {a:Addr} {kvs:List (List BC×V)} (e:H a=some (.dT kvs)):Hv K H (.ref a) (.type "dict")
 | ins {a C dx:Addr} {fs:List (Str×V)} (e:H a=some (.ins C dx fs)) (cl:YF K C) (ha:PySem.W.findIn K (.ref C) "__class__"=some (some (.builtin "object.__class__")))
  (hn:PySem.W.specialIn K (.builtin "object.__class__") "__get__"=some (some (.builtin "getset_descriptor.__get__"))) (htk:PySem.W.takesIn K (.builtin "object.__class__")=some true)
  (hm:PySem.W.mroIn K C (.type "object")=some true):Hv K H (.ref a) (.ref C)
theorem Ks {x:V}{u t:Value}(I:Ao X pins σ H s)(rx:A2 x u)(ty:Hv X.K H x t)(e:PySem.W.kitOne X.K t c=some b)(h:∀ tk,Q (.bool b) { s with toks:=tk }):
 wpAny (model X.prog X.w) A (call (.builtin "isinstance") [u,c]) Q E s:=by
 cases ty with
 | non=>cases (show u=Value.none from rx);exact PySem.W.kia_one PySem.W.kitx_none I.kIn True.intro e (fun z=>nomatch z) h
 | bl y=>cases (show u=Value.bool y from rx);exact PySem.W.kia_one PySem.W.kitx_bool I.kIn True.intro e (fun z=>nomatch z) h
 | int i=>obtain⟨t,q⟩:=(show ∃ t,u=Value.int i t from rx);cases q;exact PySem.W.kia_one PySem.W.kitx_int I.kIn True.intro e (fun z=>nomatch z) h
 | str y=>obtain⟨t,q⟩:=(show ∃ t,u=Value.str y t from rx);cases q;exact PySem.W.kia_one PySem.W.kitx_str I.kIn True.intro e (fun z=>nomatch z) h
 | flt y=>obtain⟨t,q⟩:=(show ∃ t,u=Value.float y t from rx);cases q;exact PySem.W.kia_one PySem.W.kitx_float I.kIn True.intro e (fun z=>nomatch z) h
 | @lst a xs ea=>
  cases (show u=Value.ref a from rx)
  obtain⟨_,_,n,_,h1⟩:=(show BW X.prog X.w H s.heap a (.lst xs)from I.hok a _ ea)
  exact PySem.W.kia_one PySem.W.kitx_list I.kIn ⟨_,h1,rfl⟩ e (fun z=>nomatch z) h
 | @frz a ob xs ea=>
  cases (show u=Value.ref a from rx)
  obtain⟨_,_,_,n,_,h1⟩:=(show BW X.prog X.w H s.heap a (.frz ob (.lst xs))from I.hok a _ ea)
  exact PySem.W.kia_one PySem.W.kitx_list I.kIn ⟨_,h1,rfl⟩ e (fun z=>nomatch z) h
 | @tup a xs ea=>
  cases (show u=Value.ref a from rx)
  obtain⟨_,_,_,p⟩:=(show BW X.prog X.w H s.heap a (.tup xs)from I.hok a _ ea)
  obtain⟨o,h1,h2,_⟩:=p
  exact PySem.W.kia_one PySem.W.kitx_tuple I.kIn ⟨o,h1,h2⟩ e (fun z=>nomatch z) h
 | @dK a kvs ea=>
  cases (show u=Value.ref a from rx)
  obtain⟨_,_,vs,_,p⟩:=(show BW X.prog X.w H s.heap a (.dK kvs)from I.hok a _ ea)
  obtain⟨o,es,ep,h1,h2,_⟩:=p
  exact PySem.W.kia_one PySem.W.kitx_dict I.kIn ⟨o,h1,h2.1⟩ e (fun z=>nomatch z) h
 | @dT a kvs ea=>
  cases (show u=Value.ref a from rx)
  obtain⟨_,_,xs,_,o,es,ep,h1,h2,_⟩:=(show BW X.prog X.w H s.heap a (.dT kvs)from I.hok a _ ea)
  exact PySem.W.kia_one PySem.W.kitx_dict I.kIn ⟨o,h1,h2.1⟩ e (fun z=>nomatch z) h
 | @ins a C dx fs ea cl ha hn htk hm=>
  cases (show u=Value.ref a from rx)
  obtain⟨mA,O,_⟩:=Rv I.hok ea
  obtain⟨od,J,_⟩:=O.look
  exact PySem.W.kia_one (PySem.W.kitx_own (cl.get _) cl.hd ha hn htk hm) I.kIn J e (fun z=>nomatch z) h
end
structure Ce (k:Nat)(A:Around):Prop where
 hd:A.handled=none
 dp:A.depth+3*k+5<recursionLimit
 un:A.units+16*k+200<cLine
theorem Ce.mono {j k:Nat}{A:Around}(r:Ce k A)(h:j≤k):Ce j A:=⟨r.hd,by have:=r.dp;omega,by have:=r.un;omega⟩
theorem Ce.deeper {k:Nat}{A:Around}(r:Ce (k+1) A)(env:Env):Ce k (A.deeper env):=
 ⟨r.hd,by have:=r.dp;show A.depth+1+3*k+5<_;omega,by have:=r.un;show A.units+3+16*k+200<_;omega⟩
theorem Ce.depth {k:Nat}{A:Around}(r:Ce k A):A.depth<recursionLimit:=by have:=r.dp;omega
theorem Ce.units {k:Nat}{A:Around}(r:Ce k A):A.units+64<cLine:=by have:=r.un;omega
theorem Ce.units0 {k:Nat}{A:Around}(r:Ce k A):A.units<cLine:=by have:=r.un;omega
def Vh:TA:=fun _ H Q=>Q [] H
def Ea (ta:TE)(tr:TA):TA:=fun σ H Q=>ta σ H fun x H1=>tr σ H1 fun xs H2=>Q (x::xs) H2
section
variable {X:Cx}{e:Expr}{es:List Expr}{te:TE}{t:TA}{pos:Pos}
theorem AB:PA X [] Vh:=fun _ _ _ _ H Q I h=>Calls.spliced_nil ⟨[],H,I,.nil,h⟩
theorem CY (ha:PE X e te)(hr:PA X es t)(hs:starEach (e::es) X.env=(false,eval e X.env)::starEach es X.env:=by rfl):PA X (e::es) (Ea te t):=by
 intro pos pins s σ H Q I h
 rw[hs]
 show wpAny _ _ (spliced ((false,eval e X.env)::backTo pos (starEach es X.env))) _ _ s
 refine Calls.spliced_cons (BZ (ha pins s σ H _ I h) fun u s1 zq=>?_)
 obtain⟨x,H1,I1,r1,q1⟩:=zq
 exact BZ (hr pos pins s1 σ H1 _ I1 q1) fun us s2 ⟨xs,H2,I2,r2,q2⟩=>⟨x::xs,H2,I2,.cons r1 r2,q2⟩
def YG (t:TA):TE:=fun σ H Q=>t σ H fun xs H1=>xs.length≤sizeLine∧∀ p,H1 p=none→Q (.ref p) (upd H1 p (.tup xs))
def YH (t:TA):TE:=fun σ H Q=>t σ H fun xs H1=>xs.length≤sizeLine∧∀ p,H1 p=none→Q (.ref p) (upd H1 p (.lst xs))
theorem Al {x1}(h:PA X es t):PE X (.Tuple es x1 pos) (YG t):=by
 intro pins s σ H Q I hq
 refine wpAny_Tuple_spliced (BZ (h pos pins s σ H _ I hq) fun us s1 ⟨xs,H1,I1,r,z,q⟩=>⟨by rw[← r.length];exact z,?_⟩)
 have hf:H1 s1.heap.objs.size=none:=I1.hok.fresh (Nat.le_refl _)
 refine⟨.ref s1.heap.objs.size,upd H1 s1.heap.objs.size (.tup xs),I1.laid (t':=s1.toks) (fun b u e=>Heap.get?_push_of_some _ e) (Nat.le_refl _) ?_,rfl,q _ hf⟩
 exact⟨z,us,r,⟨_,Heap.get?_push_size _ rfl,rfl,_,rfl⟩⟩
theorem Bq (h:PA X es t):PE X (.List es pos) (YH t):=by
 intro pins s σ H Q I hq
 refine wpAny_List_spliced (BZ (h pos pins s σ H _ I hq) fun us s1 ⟨xs,H1,I1,r,z,q⟩=>⟨by rw[← r.length];exact z,?_⟩)
 have hf:H1 s1.heap.objs.size=none:=I1.hok.fresh (Nat.le_refl _)
 refine⟨.ref s1.heap.objs.size,upd H1 s1.heap.objs.size (.lst xs),I1.laid (t':=s1.toks) (fun b u e=>Heap.get?_push_of_some _ e) (Nat.le_refl _) ?_,rfl,q _ hf⟩
 exact⟨z,us,0,r,Heap.get?_push_size _ rfl⟩
end
abbrev Sp:=List V→Hp→VK→XK→Prop
abbrev O2:=List Env→Hp→Shared→XK→Value→Shared→Prop
structure P9 (P:Program)(w:World)(K:PySem.W.Frag)(mg:Str→Option Value)(base:Heap)(A:Around)(outer:List Env)(s:Shared)(H:Hp):Prop where
 frames:A.frames=some outer
 mod:Mod K mg base
 bs:∀ b o,base.get? b=some o→s.heap.get? b=some o∧H b=none
 bsz:base.objs.size≤s.heap.objs.size
 funs:s.heap.FunFrames base outer
 frf:∀ b∈Iz outer,H b=none
 hok:GQ P w H s.heap
 bare:AllBare s.gens
def CE (outer:List Env)(P:Program)(w:World)(H:Hp)(s:Shared)(Q:VK)(u:Value)(s':Shared):Prop:=
 ∃ v H',s'.os=s.os∧AllBare s'.gens∧Un (Iz outer) [] H H' s.heap s'.heap∧GQ P w H' s'.heap∧A2 v u∧Q v H'
def CR (CX:O2)(outer:List Env)(P:Program)(w:World)(H:Hp)(s:Shared)(Q:VK)(E:XK)(r:Result)(s':Shared):Prop:=
 match r with
 | .ok (.ret u)=>CE outer P w H s Q u s'
 | .ok _=>False
 | .error e=>CX outer H s E e s'
structure Av (P:Program)(w:World)(K:PySem.W.Frag)(mg:Str→Option Value)(base:Heap)(CX:O2)(k:Nat)(f:Addr)(fd:FuncData)(ps:List Str)(sp:Sp):Prop where
 len:∀ vs H Q E,sp vs H Q E→vs.length=ps.length
 run:∀(A:Around) (outer:List Env) (s:Shared) (H:Hp) (args:Args) (us:List Value) (vs:List V) (Q:VK) (E:XK),Ce k A→P9 P w K mg base A outer s H→BindsTo s fd args (ps.zip us)→A1 vs us→sp vs H Q E→
  codeAny (model P w) A (.call (.ref f) args) (CR CX outer P w H s Q E) s
section
variable {X:Cx}{pins:List (Addr×Obj)}{σ:St}{H:Hp}{s s':Shared}
theorem Ao.env0 (I:Ao X pins σ H s):P9 X.prog X.w X.K X.mg X.base X.A X.stack s H:=
 ⟨I.ok.frames,I.ok.mod,I.bs,Nat.le_trans I.ok.bsz I.sz,I.stack,I.stkFree,I.hok,I.bare⟩
theorem Ao.after {Q:VK}{u:Value}(I:Ao X pins σ H s)(h:CE X.stack X.prog X.w H s Q u s'):EP X pins σ Q u s':=by
 obtain⟨v,H',os,bare,un,hok,r,q⟩:=h
 obtain⟨hh,g,d,t,os'⟩:=s'
 obtain rfl:os'=s.os:=os
 exact⟨v,H',I.call (h':=hh) (g':=g) (d':=d) (t':=t) (ch:=[]) un hok bare (fun b z=>absurd z (by simp)),r,q⟩
end
def Sx (sp:Sp)(dvs:List V)(E:XK)(t:TA):TE:=fun σ H Q=>t σ H fun vs H1=>sp (vs++dvs) H1 Q E
def JQ (K:PySem.W.Frag)(fd:FuncData)(ps:List Str)(ds:List Value):Prop:=
 ∀(s:Shared) (us:List Value),K.In s.heap→(us++ds).length=ps.length→BindsTo s fd ⟨us,[]⟩ (ps.zip (us++ds))
theorem JQ.all {K:PySem.W.Frag}{fd:FuncData}{ps:List Str}(h:∀ us:List Value,us.length=ps.length→bindArgs fd ⟨us,[]⟩=pure (ps.zip us)):JQ K fd ps []:=fun s us _ hl=>by
 rw[List.append_nil]at hl ⊢
 exact .of_eq (h us hl)
def NL (CX:O2)(X:Cx)(E:XK):Prop:=∀(pins:List (Addr×Obj)) (σ:St) (H:Hp) (s:Shared) (e:Value) (s':Shared),Ao X pins σ H s→CX X.stack H s E e s'→X.xe e s'
section
variable {X:Cx}{CX:O2}{k:Nat}{f C:Addr}{fd:FuncData}{ps:List Str}{sp:Sp}{dvs:List V}{ds:List Value}{E:XK}{x m:Str}{p pos apos:Pos}{e o:Expr}{es:List Expr}{ta:TE}{t:TA}
theorem Tq {pins:List (Addr×Obj)}{σ:St}{H:Hp}{s:Shared}{Q:VK}{us:List Value}{vs:List V}(F:Av X.prog X.w X.K X.mg X.base CX k f fd ps sp)(hr:Ce k X.A)(hb:JQ X.K fd ps ds)(hd:A1 dvs ds)(hx:NL CX X E)
 (I:Ao X pins σ H s) (r:A1 vs us) (h:sp (vs++dvs) H Q E):wpAny (model X.prog X.w) X.A (call (.ref f) us) (EP X pins σ Q) X.xe s:=by
 have r2:A1 (vs++dvs) (us++ds):=r.append hd
 have hl:(us++ds).length=ps.length:=by rw[← r2.length];exact F.len _ _ _ _ h
 refine wpAny_call (codeAny_mono (F.run X.A X.stack s H ⟨us,[]⟩ (us++ds) (vs++dvs) Q E hr I.env0 (hb s us I.kIn hl) r2 h) fun r s' hq=>?_)
 cases r with
 | error e=>exact hx pins σ H s e s' I hq
 | ok fl=>
  cases fl with
  | ret u=>exact I.after hq
  | next=>exact False.elim hq
  | brk=>exact False.elim hq
  | cont=>exact False.elim hq
theorem Rw (F:Av X.prog X.w X.K X.mg X.base CX k f fd ps sp)(hr:Ce k X.A)(hg:Gl X x)(hm:X.mg x=some (.ref f))(hk:PySem.W.keepIn X.K (.ref f)=true)(hb:JQ X.K fd ps ds)(hd:A1 dvs ds)(hx:NL CX X E)
 (ha:PA X (e::es) t) (hdb:(x==("__debug__":Str))=false:=by decide) (he:starEach (e::es) X.env=(false,eval e X.env)::starEach es X.env:=by rfl) (hpl:(backTo pos (starEach es X.env)).any (·.1)=false:=by rfl):
 PE X (.Call (.Name x p) (e::es) [] pos) (Sx sp dvs E t):=by
 intro pins s σ H Q I h
 refine wpAny_Call_Name_kw (G5 I hg hm ?_ hdb)
 refine PySem.W.callWith_K (h₀:=X.base) I.ok.mod.kin hk (BZ (ha pos pins s σ H _ I h) fun us s1 ⟨vs,H1,I1,r,q⟩=>⟨I1.kIn,?_⟩) he hpl
 exact Tq F hr hb hd hx I1 r q
structure Mk (K:PySem.W.Frag)(C f:Addr):Prop where
 makes:PySem.W.makesIn K C=true
 init:PySem.W.findIn K (.ref C) "__init__"=some (some (.ref f))
 fn:PySem.W.isFn K (.ref f)=true
 kp:PySem.W.keepIn K (.ref C)=true
end
section
variable {X:Cx}{CX:O2}{k:Nat}{f C:Addr}{fd:FuncData}{ps ks:List Str}{sp:Sp}{E:XK}{x m:Str}{p pos apos kpos:Pos}{e o:Expr}{es:List Expr}{kws:List Keyword}{te ta:TE}{t tk:TA}{nm:Option Str}
structure YI (K:PySem.W.Frag)(fd:FuncData)(ps ks:List Str)(g:List Value→List Value→List Value)(gV:List V→List V→List V):Prop where
 to:∀(s:Shared) (us ws:List Value),K.In s.heap→(g us ws).length=ps.length→BindsTo s fd ⟨us,ks.zip ws⟩ (ps.zip (g us ws))
 rel:∀{vs:List V} {us:List Value} {zs:List V} {ws:List Value},A1 vs us→A1 zs ws→A1 (gV vs zs) (g us ws)
variable {g:List Value→List Value→List Value}{gV:List V→List V→List V}
end
structure AW (N P:List Str)(sc:Scope):Prop where
 kind:sc.kind=.function
 co:sc.isCoroutine=false
 gen:sc.isGenerator=false
 nd:N.Nodup
 pre:N.take P.length=P
 par:∀ x∈P,sc.names.lookup x=some .local∨sc.names.lookup x=some .cell
 nofree:∀ y∈sc.names,y.2≠.free
theorem Kt {kindOf:Str→Option NameKind}{x:Str}:∀{binds:List (Str×Value)} {m:Str→Option Value},(∀ v,(x,v)∉binds)→bindL kindOf binds m x=m x
 | [],_,_=>rfl
 | (n,v)::r,m,h=>by
  unfold bindL
  rw[Kt fun w hw=>h w (List.mem_cons_of_mem _ hw)]
  split
  ·have:x≠n:=by rintro rfl;exact h v List.mem_cons_self
   simp[this]
  ·rfl
theorem Ku {kindOf:Str→Option NameKind}{x:Str}:∀{binds:List (Str×Value)} {m:Str→Option Value},(∀ v,(x,v)∉binds)→bindC kindOf binds m x=m x
 | [],_,_=>rfl
 | (n,v)::r,m,h=>by
  unfold bindC
  rw[Ku fun w hw=>h w (List.mem_cons_of_mem _ hw)]
  split
  ·rfl
  ·have:x≠n:=by rintro rfl;exact h v List.mem_cons_self
   simp[this]
theorem Kv {kindOf:Str→Option NameKind}{x:Str}{v:Value}:∀{P:List Str} {vs:List Value} {i:Nat} {m:Str→Option Value},P.Nodup→P[i]?=some x→vs[i]?=some v→kindOf x=some .local→
 bindL kindOf (P.zip vs) m x=some v
 | [],_,_,_,_,h,_,_=>by simp at h
 | _::_,[],_,_,_,_,h,_=>by simp at h
 | p::P,w::vs,0,m,nd,h1,h2,hk=>by
  simp at h1 h2;subst h1;subst h2
  show bindL kindOf ((p,w)::P.zip vs) m p=_
  unfold bindL
  rw[Kt fun v hv=>(List.nodup_cons.mp nd).1 (List.of_mem_zip hv).1,if_pos hk]
  simp
 | p::P,w::vs,i+1,m,nd,h1,h2,hk=>by
  show bindL kindOf ((p,w)::P.zip vs) m x=_
  unfold bindL
  exact Kv (i:=i) (List.nodup_cons.mp nd).2 (by simpa using h1) (by simpa using h2) hk
theorem Kw {kindOf:Str→Option NameKind}{x:Str}{v:Value}:∀{P:List Str} {vs:List Value} {i:Nat} {m:Str→Option Value},P.Nodup→P[i]?=some x→vs[i]?=some v→kindOf x≠some .local→
 bindC kindOf (P.zip vs) m x=some v
 | [],_,_,_,_,h,_,_=>by simp at h
 | _::_,[],_,_,_,_,h,_=>by simp at h
 | p::P,w::vs,0,m,nd,h1,h2,hk=>by
  simp at h1 h2;subst h1;subst h2
  show bindC kindOf ((p,w)::P.zip vs) m p=_
  unfold bindC
  rw[Ku fun v hv=>(List.nodup_cons.mp nd).1 (List.of_mem_zip hv).1,if_neg hk]
  simp
 | p::P,w::vs,i+1,m,nd,h1,h2,hk=>by
  show bindC kindOf ((p,w)::P.zip vs) m x=_
  unfold bindC
  exact Kw (i:=i) (List.nodup_cons.mp nd).2 (by simpa using h1) (by simpa using h2) hk
def Fl (N:List Str)(vs:List V):St:=vs.map some++List.replicate (N.length-vs.length) none
def JR (CX:O2)(P:Program)(w:World)(K:PySem.W.Frag)(mg:Str→Option Value)(base:Heap)(N:List Str)(qual:Str)(scope:Scope)(f:Addr)(cd:Value)(A:Around)(outer:List Env)(s:Shared)(H:Hp)(E:XK):Cx where
 prog:=P
 w:=w
 K:=K
 mg:=mg
 base:=base
 A:=A.deeper (envOfC qual scope s.heap.objs.size f cd)
 N:=N
 s₀:=s
 H₀:=H
 env:=envOfC qual scope s.heap.objs.size f cd
 outer:=outer
 stack:=envOfC qual scope s.heap.objs.size f cd::outer
 ex:=[]
 calm:=true
 fn:=fun _=>true
 pn:=[]
 xe:=fun e s'=>wpAny (model P w) (A.deeper (envOfC qual scope s.heap.objs.size f cd)) (leaving (envOfC qual scope s.heap.objs.size f cd) e) (fun _ s''=>CX outer H s E e s'') (fun e' s''=>CX outer H s E e' s'') s'
theorem MI {sc:Scope}{n:Nat}{x:Str}(h:sc.names.lookup x=some .cell):∃ c,(cellsFrom n sc.names []).lookup x=some c:=by
 have q:=PySem.W.cellsFrom_some sc.names n [] (.inl h)
 exact Option.isSome_iff_exists.mp q
theorem O3 {CX:O2}{P:Program}{w:World}{K:PySem.W.Frag}{mg:Str→Option Value}{base:Heap}{N ps:List Str}{qual:Str}{scope:Scope}{f:Addr}{cd:Value}{A:Around}{outer:List Env}{s s1:Shared}{H:Hp}{E:XK}{us:List Value}{vs:List V}
 (S:AW N ps scope) (hd:A.handled=none) (e0:P9 P w K mg base A outer s H) (hl:vs.length=ps.length) (r:A1 vs us)
 (x:InCallC s s.heap.objs.size (bindL (envOfC qual scope s.heap.objs.size f cd).kindOf (ps.zip us) fun _=>none) (cellsFrom (s.heap.objs.size+1) scope.names []) (bindC (envOfC qual scope s.heap.objs.size f cd).kindOf (ps.zip us) fun _=>none) s1):
 Ao (JR CX P w K mg base N qual scope f cd A outer s H E) [] (Fl N vs) H s1:=by
 have hpl:ps.length≤N.length:=by have:=congrArg List.length S.pre;rw[List.length_take]at this;omega
 obtain⟨h1,tk,rfl,hk⟩:=x.done
 have noA:∀ b:Addr,b∉(JR CX P w K mg base N qual scope f cd A outer s H E).ex:=fun b z=>absurd (show b∈([]:List Addr)from z) (by simp)
 refine⟨⟨e0.mod,S.kind,rfl,rfl,Nat.le_refl _,fun y z c h1 h2=>?_,fun y hy=>?_,fun y c _ h=>?_,fun _=>hd,Around.frames_deeper e0.frames,.inr ⟨rfl,rfl⟩,fun b z=>absurd z (noA b),e0.bs,e0.bsz,fun b _ _=>noA b,fun b z=>absurd z (noA b),e0.funs,e0.frf⟩,
  rfl,e0.bare,Un.kept hk,⟨_,x.toInCall.ns,fun i y v h1 h2 h3=>?_⟩,fun y c h=>⟨_,x.cell y c h⟩,e0.hok.fresh (Nat.le_refl _),fun y c h=>?_,fun p hp=>absurd (show p∈([]:List (Addr×Obj))from hp) (by simp),e0.hok.kept hk,?_⟩
 ·exact name_of_addr x.apart (PySem.mem_of_lookup h1) (PySem.mem_of_lookup h2)
 ·have hy:scope.names.lookup y=some .cell∨scope.names.lookup y=some .free:=hy
  rcases hy with hy | hy
  ·exact MI hy
  ·exact absurd rfl (S.nofree _ (PySem.mem_of_lookup hy))
 ·exact Nat.le_of_lt (x.above y c (PySem.mem_of_lookup h))
 ·have hi:i<vs.length:=by
   unfold Fl at h2
   by_cases hi:i<vs.length
   ·exact hi
   ·rw[List.getElem?_append_right (by simpa using hi)]at h2
    rw[List.getElem?_replicate]at h2
    split at h2 <;> cases h2
  have ha:vs[i]?=some v:=by
   unfold Fl at h2
   rw[List.getElem?_append_left (by simpa using hi),List.getElem?_map]at h2
   cases e:vs[i]? with
   | none=>rw[e]at h2;cases h2
   | some a=>rw[e]at h2;cases h2;rfl
  obtain⟨u,hu,rv⟩:=r.get ha
  have hp:ps[i]?=some y:=by
   rw[← S.pre,List.getElem?_take_of_lt (by omega)];exact h1
  have ndP:ps.Nodup:=by rw[← S.pre];exact S.nd.sublist (List.take_sublist _ _)
  refine⟨u,rv,?_⟩
  rcases S.par y (List.mem_of_getElem? hp)with k | k
  ·exact .inl ⟨k,Kv ndP hp hu k⟩
  ·obtain⟨c,e⟩:=MI (n:=s.heap.objs.size+1) k
   refine .inr ⟨.inl k,c,e,?_⟩
   have q:=x.cell y c e
   rw[Kw ndP hp hu (by show scope.names.lookup y≠_;rw[k];decide)]at q
   exact q
 ·exact e0.hok.fresh (Nat.le_of_lt (x.above y c (PySem.mem_of_lookup h)))
 ·unfold Fl
  show _=N.length
  rw[List.length_append,List.length_map,List.length_replicate]
  omega
theorem Sy {CX:O2}{P:Program}{w:World}{K:PySem.W.Frag}{mg:Str→Option Value}{base:Heap}{k:Nat}{f:Addr}{name qual:Str}{params:Arguments}{body:List Stmt}{scope:Scope}{dV kV doc pm cdv ct oc:Value}{an od:Option Addr}
 {osl:Array (Option Value)} {N ps:List Str} {sp:Sp} (lk:K.lookup f=some ⟨oc,od,.func (PySem.W.fnOf name qual params body scope dV kV doc pm an cdv ct),osl⟩) (hcd:PySem.W.codeIn K cdv qual=true) (S:AW N ps scope)
 (len:∀ vs H Q E,sp vs H Q E→vs.length=ps.length)
 (hbody:∀(A:Around) (outer:List Env) (s:Shared) (H:Hp) (vs:List V) (Q:VK) (E:XK),Ce k (A.deeper (envOfC qual scope s.heap.objs.size f cdv))→sp vs H Q E→
  ∃ t,MB (JR CX P w K mg base N qual scope f cdv A outer s H E) body t∧t { nx:=fun _ H'=>Q .non H',rt:=Q } (Fl N vs) H):
 Av P w K mg base CX (k+1) f (PySem.W.fnOf name qual params body scope dV kV doc pm an cdv ct) ps sp:=by
 refine⟨len,fun A outer s H args us vs Q E hr e0 hb r hsp=>?_⟩
 have hl:=len _ _ _ _ hsp
 have KX:K.In s.heap:=e0.mod.kin.keeps fun b o e=>(e0.bs b o e).1
 have lim:s.heap.NoLimit:=e0.mod.nolimit.keeps fun b o e=>(e0.bs b o e).1
 have hkind:∀ y∈ps.zip us,scope.names.lookup y.1=some .local∨(scope.names.lookup y.1=some .cell∧((cellsFrom (s.heap.objs.size+1) scope.names []).lookup y.1).isSome=true):=fun⟨n,v⟩ hy=>by
  rcases S.par n (List.of_mem_zip hy).1 with q | q
  ·exact .inl q
  ·exact .inr ⟨q,PySem.W.cellsFrom_some _ _ _ (.inl q)⟩
 refine codeAny_call_function hr.depth (KX _ _ lk) rfl S.co S.gen rfl (PySem.W.codeRec_of KX hcd) (hb _ _ _ _ ?_)
 refine wpAny_newFunctionEnv_cells S.kind hkind fun env he s1 x=>?_
 subst he
 refine⟨lim.keeps x.toInCall.keep,codeAny_func ?_⟩
 obtain⟨t,ht,hq⟩:=hbody A outer s H vs Q E (hr.deeper _) hsp
 have I:Ao (JR CX P w K mg base N qual scope f cdv A outer s H E) [] (Fl N vs) H s1:=O3 S hr.hd e0 hl r x
 refine wpAny_mono (ht [] s1 (Fl N vs) H _ I hq) (fun fl s' hs=>?_) fun e s' hs=>hs
 have fin:∀{σ':St} {H':Hp} {v:V} {u:Value},Ao (JR CX P w K mg base N qual scope f cdv A outer s H E) [] σ' H' s'→A2 v u→Q v H'→CE outer P w H s Q u s':=
  fun {σ' H' v u} J rv q=>⟨v,H',J.os,J.bare,J.base,J.hok,rv,q⟩
 cases fl with
 | ret u=>
  obtain⟨v,σ',H',J,rv,q⟩:=hs
  exact fin J rv q
 | next=>
  obtain⟨σ',H',J,q⟩:=hs
  exact fin (v:=V.non) (u:=Value.none) J rfl q
 | brk=>
  obtain⟨_,_,_,q⟩:=hs
  exact False.elim q
 | cont=>
  obtain⟨_,_,_,q⟩:=hs
  exact False.elim q
section
variable {X:Cx}{x:Str}{p pos:Pos}{e:Expr}{es:List Expr}{t:TA}{id T:String}{r:List V→Hp→VK→Prop}
def YJ (r:List V→Hp→VK→Prop)(t:TA):TE:=fun σ H Q=>t σ H fun vs H1=>r vs H1 Q
theorem AT (hc:Dw X (.builtin id) r)(hg:Gl X x)(hm:X.mg x=none)(hv:bootBuiltins x=some (.builtin id))(ha:PA X (e::es) t)(hn:x≠"__name__":=by decide)(hdb:(x==("__debug__":Str))=false:=by decide)
 (he:starEach (e::es) X.env=(false,eval e X.env)::starEach es X.env:=by rfl) (hpl:(backTo pos (starEach es X.env)).any (·.1)=false:=by rfl):PE X (.Call (.Name x p) (e::es) [] pos) (YJ r t):=by
 intro pins s σ H Q I h
 refine wpAny_Call_Name_kw (Du I hg hm hv ?_ hn hdb)
 exact PyProof.Rows.callWith_builtin1 (BZ (ha pos pins s σ H _ I h) fun us s1 ⟨vs,H1,I1,r1,q1⟩=>hc pins s1 σ H1 vs us Q I1 r1 q1) he hpl
theorem Bw (hc:Dw X (.type T) r)(hg:Gl X x)(hm:X.mg x=none)(hv:bootBuiltins x=some (.type T))(ha:PA X (e::es) t)(hn:x≠"__name__":=by decide)(hdb:(x==("__debug__":Str))=false:=by decide)
 (he:starEach (e::es) X.env=(false,eval e X.env)::starEach es X.env:=by rfl) (hpl:(backTo pos (starEach es X.env)).any (·.1)=false:=by rfl):PE X (.Call (.Name x p) (e::es) [] pos) (YJ r t):=by
 intro pins s σ H Q I h
 refine wpAny_Call_Name_kw (Du I hg hm hv ?_ hn hdb)
 exact PyProof.Rows.callWith_type1 (BZ (ha pos pins s σ H _ I h) fun us s1 ⟨vs,H1,I1,r1,q1⟩=>hc pins s1 σ H1 vs us Q I1 r1 q1) he hpl
end
end L2
namespace HT
open PySem PyProof.Rows
section
variable {prog:Program}{w:World}{A:Around}{E:Value→Shared→Prop}{s:Shared}
theorem Rx {t b:Addr}{vs ws:List Value}{Q:Value→Shared→Prop}(ht:IsTup s.heap t vs.toArray)(hb:IsTup s.heap b ws.toArray)(hv:vs≠[])
 (h1:ws=[]→Q (.ref t) s) (h2:ws≠[]→Q (.ref s.heap.objs.size) { s with heap:=s.heap.push { cls:=.type "tuple",data:=.seq (vs++ws).toArray } })
 (hsz:vs.length+ws.length≤sizeLine):wpAny (model prog w) A (binaryOp .Add (.ref t) (.ref b)) Q E s:=by
 obtain⟨⟨cls,dd,data,sl⟩,ho,hc,n,hd⟩:=id ht
 obtain⟨⟨cls2,dd2,data2,sl2⟩,ho2,hc2,n2,hd2⟩:=id hb
 simp only at hc hd hc2 hd2
 subst hc hd hc2 hd2
 have e:vs.toArray++ws.toArray=(vs++ws).toArray:=by simp
 by_cases hw:ws=[]
 ·exact concat_meets ⟨_,ho,rfl⟩ ⟨_,ho2,rfl⟩ noFill_tuple_add seq_tuple_add PySem.F.slot_tuple_add PySem.F.entry_tuple_add (PySem.F.args_tuple_add_2 _ _)
   (tuple_addW1 t b vs.toArray ws.toArray n n2 dd dd2 sl sl2 (by simpa using hv) (by simp[hw])) ⟨ho,ho2,h1 hw⟩
 ·refine concat_meets ⟨_,ho,rfl⟩ ⟨_,ho2,rfl⟩ noFill_tuple_add seq_tuple_add PySem.F.slot_tuple_add PySem.F.entry_tuple_add (PySem.F.args_tuple_add_2 _ _)
   (tuple_addW2 t b vs.toArray ws.toArray n n2 dd dd2 sl sl2 (by simpa using hv) (by simpa using hw) (by rw[List.size_toArray,List.size_toArray];exact hsz)) ⟨ho,ho2,?_⟩
  rw[e]
  exact h2 hw
def Ig (n d:Nat):Option Int→Nat
 | none=>d
 | some v=>if v<0 then(v+(n:Int)).toNat else min v.toNat n
end
end HT
namespace L2
open PySem PySem.Spec PyProof.Rows
abbrev TO:=St→Hp→(Option Int→Hp→Prop)→Prop
def PO (X:Cx)(e:Option Expr)(t:TO):Prop:=
 ∀(pins:List (Addr×Obj)) (s:Shared) (σ:St) (H:Hp) (Q:Option Int→Hp→Prop),Ao X pins σ H s→t σ H Q→
  wpAny (model X.prog X.w) X.A (evalPart e X.env) (fun u s'=>∃ o H',Ao X pins σ H' s'∧IsPart u o∧Q o H') X.xe s
def Ry:TO:=fun _ H Q=>Q none H
def Vi (t:TE):TO:=fun σ H Q=>t σ H fun x H1=>∃ i,x=.int i∧Q (some i) H1
section
variable {X:Cx}{e:Expr}{te:TE}{lo hi:Option Expr}{tl th:TO}{pos p2:Pos}
theorem OC:PO X none Ry:=by
 intro pins s σ H Q I h
 rw[evalPart_none]
 exact wpAny_pure ⟨none,H,I,.none,h⟩
theorem I0 (h:PE X e te):PO X (some e) (Vi te):=by
 intro pins s σ H Q I hw
 rw[evalPart_some]
 refine BZ (h pins s σ H _ I hw) fun u s1 zq=>?_
 obtain⟨x,H1,I1,r1,q1⟩:=zq
 obtain⟨i,rfl,q⟩:=q1
 obtain⟨t,rfl⟩:=r1
 exact⟨some i,H1,I1,.int i t,q⟩
def Xo (X:Cx)(r:V→Option Int→Option Int→Hp→VK→Prop):Prop:=
 ∀(pins:List (Addr×Obj)) (s:Shared) (σ:St) (H:Hp) (x:V) (v vl vu:Value) (lo hi:Option Int) (sl:Addr) (Q:VK),Ao X pins σ H s→A2 x v→s.heap.IsSliceOf sl vl vu .none→IsPart vl lo→IsPart vu hi→r x lo hi H Q→
  ∃ T id,typeLookup (.type T) "__getitem__"=pure (some (.builtin id))∧s.TypeIs v T∧wpAny (model X.prog X.w) X.A (getItem v (.ref sl)) (EP X pins σ Q) X.xe s
def ZO (r:V→Option Int→Option Int→Hp→VK→Prop)(te:TE)(tl th:TO):TE:=fun σ H Q=>te σ H fun x H1=>tl σ H1 fun l H2=>th σ H2 fun u H3=>r x l u H3 Q
theorem JS {r:V→Option Int→Option Int→Hp→VK→Prop}(hr:Xo X r)(he:PE X e te)(hl:PO X lo tl)(hu:PO X hi th):PE X (.Subscript e (.Slice lo hi none p2) pos) (ZO r te tl th):=by
 intro pins s σ H Q I h
 refine Subscript_ (BZ (he pins s σ H _ I h) fun v s1 zq=>?_)
 obtain⟨x,H1,I1,r1,q1⟩:=zq
 refine wpAny_Slice (BZ (hl pins s1 σ H1 _ I1 q1) fun vl s2 ⟨l,H2,I2,pl,q2⟩=>BZ (hu pins s2 σ H2 _ I2 q2) fun vu s3 zq=>?_)
 obtain⟨u,H3,I3,pu,q3⟩:=zq
 rw[evalPart_none]
 refine wpAny_pure ?_
 have I4:Ao X pins σ H3 { s3 with heap:=s3.heap.push { cls:=.type "slice",data:=.fields #[vl,vu,.none] } }:=I3.kept (t':=s3.toks) fun b ob q=>Heap.get?_push_of_some _ q
 obtain⟨T,id,hT,ht,hg⟩:=hr pins { s3 with heap:=s3.heap.push { cls:=.type "slice",data:=.fields #[vl,vu,.none] } } σ H3 x v vl vu l u s3.heap.objs.size Q I4 r1 (Heap.IsSliceOf.new ..) pl pu q3
 show wpAny (model X.prog X.w) X.A (subscriptTail e (.Slice lo hi none p2) v (.ref s3.heap.objs.size)) (EP X pins σ Q) X.xe { s3 with heap:=s3.heap.push { cls:=.type "slice",data:=.fields #[vl,vu,.none] } }
 exact tail_any (ops:=[.ref s3.heap.objs.size,v]) ht hT hg (by with_unfolding_all rfl)
def Gg (xs:List V)(lo hi:Option Int):List V:=(xs.drop (HT.Ig xs.length 0 lo)).take (HT.Ig xs.length xs.length hi-HT.Ig xs.length 0 lo)
theorem IS (xs:List V)(lo hi:Option Int):(Gg xs lo hi).length≤xs.length:=by
 unfold Gg
 rw[List.length_take,List.length_drop]
 omega
def Vj (K:PySem.W.Frag):R2:=fun x y H Q=>∃ a b xs ys,x=.ref a∧y=.ref b∧Af K H a xs∧Af K H b ys∧xs≠[]∧xs.length+ys.length≤sizeLine∧
 (ys=[]→Q (.ref a) H)∧(ys≠[]→∀ p,H p=none→Q (.ref p) (upd H p (.tup (xs++ys))))
theorem A1.nil_iff {xs:List V}{us:List Value}(r:A1 xs us):us=[]↔xs=[]:=by
 cases r with
 | nil=>simp
 | cons _ _=>simp
theorem Rz:GL X (binaryOp .Add) (Vj X.K):=by
 intro pins s σ H x y v u Q I rx ry h
 obtain⟨a,b,xs,ys,rfl,rfl,ha,hb,hx,hz,q1,q2⟩:=h
 cases rx
 cases ry
 obtain⟨its,r1,p1,_⟩:=I.tuple ha
 obtain⟨its2,r2,p2,_⟩:=I.tuple hb
 refine HT.Rx p1 p2 (fun z=>hx (r1.nil_iff.mp z)) (fun z=>⟨.ref a,H,I,rfl,q1 (r2.nil_iff.mp z)⟩) (fun z=>?_) (by rw[← r1.length,← r2.length];exact hz)
 refine⟨.ref s.heap.objs.size,_,I.laid (t':=s.toks) (o:=.tup (xs++ys)) (fun b ob q=>Heap.get?_push_of_some _ q) (Nat.le_refl _) ?_,rfl,q2 (fun w=>z (r2.nil_iff.mpr w)) _ (I.hok.fresh (Nat.le_refl _))⟩
 exact⟨by rw[List.length_append];exact hz,_,r1.append r2,IsTup.new _ _⟩
end
def Ts (n:Nat)(i:Int):Option Nat:=if 0≤i then(if i<n then some i.toNat else none)else if -(n:Int)≤i then some (i+n).toNat else none
def Gh {α:Type}(xs:List α)(i:Int):Option α:=(Ts xs.length i).bind fun j=>xs[j]?
theorem OD {n:Nat}{i:Int}{j:Nat}(h:Ts n i=some j):seqIndex? i n=some j∧j<n∧-(n:Int)≤i∧i<n:=by
 unfold Ts at h
 by_cases h0:0≤i
 ·rw[if_pos h0]at h
  by_cases h1:i<n
  ·rw[if_pos h1]at h
   have e:i.toNat=j:=Option.some.inj h
   exact⟨by rw[seqIndex_of h0 h1,e],by omega,by omega,h1⟩
  ·rw[if_neg h1]at h;cases h
 ·rw[if_neg h0]at h
  by_cases h1:-(n:Int)≤i
  ·rw[if_pos h1]at h
   have e:(i+n).toNat=j:=Option.some.inj h
   exact⟨by rw[seqIndex_neg (by omega) h1,e],by omega,h1,by omega⟩
  ·rw[if_neg h1]at h;cases h
theorem LO {α:Type}{xs:List α}{i:Int}{v:α}(h:Gh xs i=some v):∃ j,seqIndex? i xs.length=some j∧xs[j]?=some v∧j<xs.length∧-(xs.length:Int)≤i∧i<xs.length:=by
 unfold Gh at h
 cases e:Ts xs.length i with
 | none=>rw[e]at h;cases h
 | some j=>
  rw[e]at h
  obtain⟨h1,h2,h3,h4⟩:=OD e
  exact⟨j,h1,h,h2,h3,h4⟩
theorem DK {α:Type}{xs:List α}{j:Nat}{v:α}(h:xs[j]?=some v):Gh xs (j:Int)=some v:=by
 have hj:j<xs.length:=(List.getElem?_eq_some_iff.mp h).1
 have e:Ts xs.length (j:Int)=some j:=by
  unfold Ts
  rw[if_pos (by omega),if_pos (by omega)];simp
 unfold Gh;rw[e];exact h
def R0 (b:Expr):Prop:=∀ o i,subscripted b false o i=operate [o,i] (getItem o i)
def VJ (X:Cx)(r:R2):Prop:=
 ∀(value slice:Expr) (pins:List (Addr×Obj)) (s:Shared) (σ:St) (H:Hp) (x y:V) (v u:Value) (Q:VK),Ao X pins σ H s→A2 x v→A2 y u→r x y H Q→
  subscripted slice false v u=operate [v,u] (getItem v u)→wpAny (model X.prog X.w) X.A (subscriptTail value slice v u) (EP X pins σ Q) X.xe s
def YK (X:Cx)(id:String)(r:V→List V→Hp→VK→Prop):Prop:=
 ∀(pins:List (Addr×Obj)) (s:Shared) (σ:St) (H:Hp) (x:V) (xs:List V) (v:Value) (us:List Value) (Q:VK),Ao X pins σ H s→A2 x v→A1 xs us→r x xs H Q→
  wpAny (model X.prog X.w) X.A (call (.builtin id) (v::us)) (EP X pins σ Q) X.xe s
section
variable {X:Cx}{a b:Expr}{ta tb:TE}{pos:Pos}
theorem AK {r:R2}(hr:VJ X r)(ha:PE X a ta)(hb:PE X b tb)(hs:R0 b):PE X (.Subscript a b pos) (MF r ta tb):=by
 intro pins s σ H Q I h
 exact Subscript_ (To ha hb I h fun v u s2 x y H2 I2 rx ry q=>hr a b pins s2 σ H2 x y v u Q I2 rx ry q (hs _ _))
def YL (K:PySem.W.Frag):R2:=fun x y H Q=>∃ p xs i v,x=.ref p∧y=.int i∧Ax K H p xs∧Gh xs i=some v∧Q v H
def Tt (K:PySem.W.Frag):R2:=fun x y H Q=>∃ p xs i v,x=.ref p∧y=.int i∧Af K H p xs∧Gh xs i=some v∧Q v H
def YM:R2:=fun x y H Q=>∃ z i c,x=.str z∧y=.int i∧z.length≤sizeLine∧Gh z.cps.toList i=some c∧Q (.str ⟨#[c]⟩) H
theorem Ay:VJ X (YL X.K):=by
 intro value slice pins s σ H x y v u Q I rx ry h hs
 obtain⟨p,xs,i,z,rfl,rfl,hq,he,q⟩:=h
 cases rx
 obtain⟨t,rfl⟩:=ry
 obtain⟨its,r,pl,hz⟩:=I.list hq
 obtain⟨j,h1,h2,h3,h4,h5⟩:=LO he
 obtain⟨w,ew,rw'⟩:=r.get h2
 have hl:=r.length
 have hn:=Hu
 have fin:EP X pins σ Q w s:=⟨z,H,I,rw',q⟩
 by_cases h0:0≤i
 ·have hj:i.toNat=j:=by
   rw[seqIndex_of h0 h5]at h1
   exact Option.some.inj h1
  exact item_listR pl.isList h0 (by omega) (by rw[hj];simpa using ew) fin hs
 ·have hj:(i+(its.toArray.size:Int)).toNat=j:=by
   rw[seqIndex_neg (by omega) h4]at h1
   rw[List.size_toArray,← hl]
   exact Option.some.inj h1
  exact subscriptTail_builtinR (x:=w) pl.isList.typeIs slot_list_getitem.lookup
   (wpAny_getItem_list_neg (Q:=fun r s'=>r=w∧EP X pins σ Q r s') pl.isList (by omega) (by rw[List.size_toArray] <;> omega) (by omega) (by rw[hj];simpa using ew) ⟨rfl,fin⟩) hs
theorem AO:VJ X (Tt X.K):=by
 intro value slice pins s σ H x y v u Q I rx ry h hs
 obtain⟨p,xs,i,z,rfl,rfl,hq,he,q⟩:=h
 cases rx
 obtain⟨t,rfl⟩:=ry
 obtain⟨its,r,pl,hz⟩:=I.tuple hq
 obtain⟨j,h1,h2,h3,h4,h5⟩:=LO he
 obtain⟨w,ew,rw'⟩:=r.get h2
 have hl:=r.length
 have hn:=Hu
 have fin:EP X pins σ Q w s:=⟨z,H,I,rw',q⟩
 exact subscriptTail_builtinR (x:=w) pl.typeIs slot_tuple_getitem.lookup
  (getItem_tuple (j:=j) (Q:=fun r s'=>r=w∧EP X pins σ Q r s') pl (by omega) (by omega) (by rw[List.size_toArray,← hl];exact h1) (by simpa using ew) ⟨rfl,fin⟩) hs
theorem Hx:VJ X YM:=by
 intro value slice pins s σ H x y v u Q I rx ry h hs
 obtain⟨z,i,c,rfl,rfl,hz,he,q⟩:=h
 obtain⟨t,rfl⟩:=rx
 obtain⟨t',rfl⟩:=ry
 obtain⟨j,h1,h2,h3,h4,h5⟩:=LO he
 have hl:z.cps.toList.length=z.length:=by simp[Str.length]
 rw[hl]at h1 h4 h5
 have hn:=Hu
 exact tail_any (typeIs_str s z t) slot_str_getitem.lookup (getItem_str (c:=c) (by
  have e1:decide (i < -(2 ^ 63:Int))=false:=decide_eq_false (by omega)
  have e2:decide (i≥2 ^ 63)=false:=decide_eq_false (by omega)
  rw[e1,e2,Bool.or_false]) (by rw[h1];simpa using h2) ⟨.str ⟨#[c]⟩,H,I.tok _,⟨_,rfl⟩,q⟩) hs
theorem NM (its:List Value)(n j:Nat)(u:Value):Obj.mapSeq (·.setIfInBounds j u) { cls:=.type "list",data:=.seq its.toArray n }={ cls:=.type "list",data:=.seq (its.set j u).toArray n }:=by
 simp[Obj.mapSeq]
theorem Ao.lst {pins:List (Addr×Obj)}{σ:St}{H:Hp}{s:Shared}{p:Addr}{xs:List V}(I:Ao X pins σ H s)(h:H p=some (.lst xs)):
 ∃(its:List Value) (n:Nat),A1 xs its∧s.heap.get? p=some { cls:=.type "list",data:=.seq its.toArray n }∧xs.length≤sizeLine:=by
 obtain⟨z,its,n,r,e⟩:=I.hok p _ h
 exact⟨its,n,r,e,z⟩
theorem Ao.lstUpd {pins:List (Addr×Obj)}{σ:St}{H:Hp}{s:Shared}{p:Addr}{xs ys:List V}{its its':List Value}{n n':Nat}{f:Obj→Obj}(I:Ao X pins σ H s)(h:H p=some (.lst xs))
 (ho:s.heap.get? p=some { cls:=.type "list",data:=.seq its.toArray n }) (hf:f { cls:=.type "list",data:=.seq its.toArray n }={ cls:=.type "list",data:=.seq its'.toArray n' }) (r:A1 ys its') (hz:ys.length≤sizeLine) (t:Nat):
 Ao X pins σ (upd H p (.lst ys)) { s with heap:=s.heap.update p f,toks:=t }:=by
 have e:(s.heap.update p f).get? p=some { cls:=.type "list",data:=.seq its'.toArray n' }:=by
  rw[Heap.get?_update_self f ho (by rw[hf] <;> rfl),hf]
 refine I.write (x:=p) (e:=p) (by rw[h];trivial) (.inl rfl) (fun b u hb q=>(Heap.get?_update_other _ _ (Ne.symm hb)).trans q) ⟨_,e⟩ ?_
 exact⟨hz,its',n',r,e⟩
def Vk:V→V→V→Hp→(Hp→Prop)→Prop:=fun o i v H Q=>∃ p xs k j,o=.ref p∧i=.int k∧H p=some (.lst xs)∧Ts xs.length k=some j∧Q (upd H p (.lst (xs.set j v)))
theorem JT:VZ X Vk:=by
 intro pins s σ H o i v ov iv u Q I ro ri rv h
 obtain⟨p,xs,k,j,rfl,rfl,hp,hj,q⟩:=h
 cases ro
 obtain⟨t,rfl⟩:=ri
 obtain⟨its,n,r,ho,hz⟩:=I.lst hp
 obtain⟨h1,h2,h3,h4⟩:=OD hj
 have hl:=r.length
 have hn:=Hu
 have I':Ao X pins σ (upd H p (.lst (xs.set j v))) { s with heap:=s.heap.update p (Obj.mapSeq (·.setIfInBounds j u)) }:=
  I.lstUpd hp ho (NM its n j u) (r.set rv j) (by rw[List.length_set];exact hz) s.toks
 by_cases h0:0≤k
 ·have hk:k.toNat=j:=by
   rw[seqIndex_of h0 h4]at h1
   exact Option.some.inj h1
  exact PySem.W.ki_setAt ho h0 (by omega) (by rw[List.size_toArray,← hl];exact h4) (by rw[hk];exact⟨_,I',q⟩)
 ·have hk:(k+(its.toArray.size:Int)).toNat=j:=by
   rw[seqIndex_neg (by omega) h3]at h1
   rw[List.size_toArray,← hl]
   exact Option.some.inj h1
  exact PySem.W.ki_setBack ho (by omega) (by rw[List.size_toArray,← hl];exact h3) (by omega) (by rw[hk];exact⟨_,I',q⟩)
theorem LP (lo hi:Option Int)(n:Nat):(sliceBounds lo hi none n).1=((HT.Ig n 0 lo:Nat):Int)∧(sliceBounds lo hi none n).2.1=((HT.Ig n n hi:Nat):Int)∧(sliceBounds lo hi none n).2.2=1:=by
 refine⟨?_,?_,rfl⟩
 ·cases lo with
  | none=>simp[sliceBounds,HT.Ig]
  | some i=>
   simp only[sliceBounds,HT.Ig,Option.getD_none,show(1:Int)>0 by decide,if_true]
   by_cases h:i<0
   ·simp only[h,if_true] <;> omega
   ·simp only[h,if_false] <;> omega
 ·cases hi with
  | none=>simp[sliceBounds,HT.Ig]
  | some i=>
   simp only[sliceBounds,HT.Ig,Option.getD_none,show(1:Int)>0 by decide,if_true]
   by_cases h:i<0
   ·simp only[h,if_true] <;> omega
   ·simp only[h,if_false] <;> omega
theorem KL (its:List Value)(lo hi:Option Int):slicePick its.toArray lo hi none=((its.drop (HT.Ig its.length 0 lo)).take (HT.Ig its.length its.length hi-HT.Ig its.length 0 lo)).toArray:=by
 obtain⟨h1,h2,h3⟩:=LP lo hi its.toArray.size
 unfold slicePick
 rw[h1,h2,h3]
 simp only[sliceRange_one,pick_run,List.size_toArray] <;> rfl
def Vm (K:PySem.W.Frag):V→Option Int→Option Int→Hp→VK→Prop:=fun x lo hi H Q=>∃ a xs,x=.ref a∧Ax K H a xs∧∀ p,H p=none→Q (.ref p) (upd H p (.lst (Gg xs lo hi)))
theorem LQ:Xo X (Vm X.K):=by
 intro pins s σ H x v vl vu lo hi sl Q I rx hs pl pu h
 obtain⟨a,xs,rfl,hx,q⟩:=h
 cases rx
 obtain⟨its,r,ht,hz⟩:=I.list hx
 have hlen:=r.length
 refine⟨"list",_,slot_list_getitem.lookup,ht.isList.typeIs,?_⟩
 refine wpAny_getItem_list_slice ht.isList hs pl pu .none (by simp) ?_ (by rw[List.size_toArray] <;> omega)
 rw[KL,← hlen]
 refine⟨.ref s.heap.objs.size,_,I.laid (t':=s.toks) (o:=.lst (Gg xs lo hi)) (fun b ob q=>Heap.get?_push_of_some _ q) (Nat.le_refl _) ?_,rfl,q _ (I.hok.fresh (Nat.le_refl _))⟩
 exact⟨Nat.le_trans (IS xs lo hi) hz,_,0,(r.drop (HT.Ig xs.length 0 lo)).take (HT.Ig xs.length xs.length hi-HT.Ig xs.length 0 lo),Heap.get?_push_size _ rfl⟩
def Bl:V→Bool
 | .non=>true
 | .bl _=>true
 | .int _=>true
 | .str _=>true
 | _=>false
def JU:V→V→Bool
 | .non,.non=>true
 | .bl a,.bl b=>a==b
 | .bl a,.int b=>(if a then 1 else 0)==b
 | .int a,.bl b=>a==(if b then 1 else 0)
 | .int a,.int b=>a==b
 | .str a,.str b=>a==b
 | _,_=>false
theorem LR {A:Around}{s:Shared}{y x:V}{u v:Value}(ry:A2 y u)(rx:A2 x v)(fy:Bl y=true)(fx:Bl x=true):SeqAt.EqAt A s u v (JU y x):=by
 cases y with
 | non=>
  cases ry
  cases x with
  | non=>cases rx;exact SeqAt.EqAt.same _
  | bl b=>cases rx;exact SeqAt.EqAt.none_bool b
  | int b=>obtain⟨t,rfl⟩:=rx;exact SeqAt.EqAt.none_int b t
  | str b=>obtain⟨t,rfl⟩:=rx;exact SeqAt.EqAt.none_str b t
  | _=>exact absurd (show false=true from fx) Bool.false_ne_true
 | bl a=>
  cases ry
  cases x with
  | non=>cases rx;exact SeqAt.EqAt.bool_none a
  | bl b=>cases rx;exact SeqAt.EqAt.bool_bool a b
  | int b=>obtain⟨t,rfl⟩:=rx;exact SeqAt.EqAt.bool_int a b t
  | str b=>obtain⟨t,rfl⟩:=rx;exact SeqAt.EqAt.bool_str a b t
  | _=>exact absurd (show false=true from fx) Bool.false_ne_true
 | int a=>
  obtain⟨t',rfl⟩:=ry
  cases x with
  | non=>cases rx;exact SeqAt.EqAt.int_none a t'
  | bl b=>cases rx;exact SeqAt.EqAt.int_bool a t' b
  | int b=>obtain⟨t,rfl⟩:=rx;exact SeqAt.EqAt.int_int a t' b t
  | str b=>obtain⟨t,rfl⟩:=rx;exact SeqAt.EqAt.int_str a t' b t
  | _=>exact absurd (show false=true from fx) Bool.false_ne_true
 | str a=>
  obtain⟨t',rfl⟩:=ry
  cases x with
  | non=>cases rx;exact SeqAt.EqAt.str_none a t'
  | bl b=>cases rx;exact SeqAt.EqAt.str_bool a t' b
  | int b=>obtain⟨t,rfl⟩:=rx;exact SeqAt.EqAt.str_int a t' b t
  | str b=>obtain⟨t,rfl⟩:=rx;exact SeqAt.EqAt.str_str a t' b t
  | _=>exact absurd (show false=true from fx) Bool.false_ne_true
 | _=>exact absurd (show false=true from fy) Bool.false_ne_true
def R1 (x:V)(u:Value):Bool:=match u with
 | .none=>JU .non x
 | .bool b=>JU (.bl b) x
 | .int i _=>JU (.int i) x
 | .str z _=>JU (.str z) x
 | _=>false
theorem QA {x y:V}{u:Value}(r:A2 y u)(f:Bl y=true):R1 x u=JU y x:=by
 cases y with
 | non=>cases r;rfl
 | bl b=>cases r;rfl
 | int i=>obtain⟨t,rfl⟩:=r;rfl
 | str z=>obtain⟨t,rfl⟩:=r;rfl
 | _=>exact absurd (show false=true from f) Bool.false_ne_true
theorem LS {x:V}:∀{xs:List V} {us:List Value},A1 xs us→xs.all Bl=true→us.any (R1 x)=xs.any fun y=>JU y x
 | _,_,.nil,_=>rfl
 | y::xs,u::us,.cons r t,f=>by
  rw[List.all_cons,Bool.and_eq_true]at f
  rw[List.any_cons,List.any_cons,QA r f.1,LS t f.2]
theorem JV {A:Around}{s:Shared}{x:V}{v:Value}(rx:A2 x v)(fx:Bl x=true):∀{xs:List V} {us:List Value},A1 xs us→xs.all Bl=true→∀ u∈us,SeqAt.EqAt A s u v (R1 x u)
 | _,_,.nil,_=>fun u hu=>by cases hu
 | y::xs,u::us,.cons r t,f=>fun u' hu=>by
  rw[List.all_cons,Bool.and_eq_true]at f
  rcases List.mem_cons.mp hu with rfl | hu
  ·rw[QA r f.1];exact LR r rx f.1 fx
  ·exact JV rx fx t f.2 u' hu
def S0 (x:V)(xs:List V):Bool:=xs.any fun y=>JU y x
def ZP (K:PySem.W.Frag)(neg:Bool):R2:=fun x y H Q=>∃ p xs,y=.ref p∧(Ax K H p xs∨Af K H p xs)∧Bl x=true∧xs.all Bl=true∧Q (.bl (if neg then !S0 x xs else S0 x xs)) H
theorem Kx:GL X (compareOp .In) (ZP X.K false):=by
 intro pins s σ H x y v u Q I rx ry h
 obtain⟨p,xs,rfl,hq,fx,fs,q⟩:=h
 cases ry
 rcases hq with hq | hq
 ·obtain⟨its,r,pl,hz⟩:=I.list hq
  refine SeqAt.in_listAt (R1 x) pl.isList (fun w hw=>JV rx fx r fs w (by simpa using hw)) ⟨.bl _,H,I,rfl,?_⟩
  rw[show its.toArray.any (R1 x)=its.any (R1 x)by simp,LS r fs]
  exact q
 ·obtain⟨its,r,pl,hz⟩:=I.tuple hq
  refine SeqAt.in_tupleAt (R1 x) pl (fun w hw=>JV rx fx r fs w (by simpa using hw)) ⟨.bl _,H,I,rfl,?_⟩
  rw[show its.toArray.any (R1 x)=its.any (R1 x)by simp,LS r fs]
  exact q
theorem Ab:Dw X (.builtin "len") (fun xs H Q=>∃ p ys,xs=[.ref p]∧(Ax X.K H p ys∨Af X.K H p ys)∧Q (.int ys.length) H):=by
 intro pins s σ H xs us Q I r h
 obtain⟨p,ys,rfl,hq,q⟩:=h
 obtain⟨u,rfl,rx⟩:=Fk r
 cases rx
 have hn:=Hu
 rcases hq with hq | hq
 ·obtain⟨its,r',pl,hz⟩:=I.list hq
  have hlen:=r'.length
  exact Calls.call_len_list pl.isList (by simp only[List.size_toArray] <;> omega) ⟨.int ys.length,H,I.tok _,⟨s.toks+1,by rw[List.size_toArray,hlen]⟩,q⟩
 ·obtain⟨its,r',pl,hz⟩:=I.tuple hq
  have hlen:=r'.length
  exact len_tuple pl (by simp only[List.size_toArray] <;> omega) ⟨.int ys.length,H,I.tok _,⟨s.toks+1,by rw[List.size_toArray,hlen]⟩,q⟩
theorem E6:Dw X (.builtin "len") (fun xs H Q=>∃ z,xs=[.str z]∧z.length≤sizeLine∧Q (.int z.length) H):=by
 intro pins s σ H xs us Q I r h
 obtain⟨z,rfl,hz,q⟩:=h
 obtain⟨u,rfl,t,rfl⟩:=Fk r
 have hn:=Hu
 exact len_str (by omega) ⟨.int z.length,H,I.tok _,⟨_,rfl⟩,q⟩
theorem LT:Dw X (.type "list") (fun xs H Q=>∃ p ys,xs=[.ref p]∧(Ax X.K H p ys∨Af X.K H p ys)∧∀ l,H l=none→Q (.ref l) (upd H l (.lst ys))):=by
 intro pins s σ H xs us Q I r h
 obtain⟨p,ys,rfl,hq,q⟩:=h
 obtain⟨u,rfl,rx⟩:=Fk r
 cases rx
 have fin:∀(its:List Value),A1 ys its→ys.length≤sizeLine→∀(h':Heap) (c':Nat),(∀ b o',s.heap.get? b=some o'→h'.get? b=some o')→
  h'.get? s.heap.objs.size=some { cls:=.type "list",dict:=none,data:=.seq its.toArray c',slots:=#[] }→EP X pins σ Q (.ref s.heap.objs.size) { s with heap:=h' }:=fun its r' hz h' c' kp e=>
  ⟨.ref s.heap.objs.size,_,I.laid (t':=s.toks) kp (Nat.le_refl _) (show BW X.prog X.w _ h' _ (.lst ys)from⟨hz,its,c',r',e⟩),rfl,q _ (I.hok.fresh (Nat.le_refl _))⟩
 rcases hq with hq | hq
 ·obtain⟨its,r',pl,hz⟩:=I.list hq
  have hlen:=r'.length
  obtain⟨o,ho,hc,n,hd⟩:=pl.isList
  exact call_list_seq p (.inl rfl) ho hc hd (fun h' c' kp e=>fin its r' hz h' c' kp e) (by simp only[List.size_toArray] <;> omega)
 ·obtain⟨its,r',pl,hz⟩:=I.tuple hq
  have hlen:=r'.length
  obtain⟨o,ho,hc,n,hd⟩:=pl
  exact call_list_seq p (.inr rfl) ho hc hd (fun h' c' kp e=>fin its r' hz h' c' kp e) (by simp only[List.size_toArray] <;> omega)
theorem CT:Dw X (.type "tuple") (fun xs H Q=>∃ p ys,xs=[.ref p]∧((Ax X.K H p ys∧∀ l,H l=none→Q (.ref l) (upd H l (.tup ys)))∨(Af X.K H p ys∧Q (.ref p) H))):=by
 intro pins s σ H xs us Q I r h
 obtain⟨p,ys,rfl,h⟩:=h
 obtain⟨u,rfl,rx⟩:=Fk r
 cases rx
 rcases h with⟨hq,q⟩ | ⟨hq,q⟩
 ·obtain⟨its,r',pl,hz⟩:=I.list hq
  have hlen:=r'.length
  refine call_tuple_list pl.isList (fun h' kp=>?_) (by simp only[List.size_toArray] <;> omega)
  have I1:Ao X pins σ H { s with heap:=h' }:=I.kept (t':=s.toks) kp
  have I2:Ao X pins σ (upd H h'.objs.size (.tup ys)) { s with heap:=h'.push { cls:=.type "tuple",data:=.seq its.toArray } }:=
   I1.laid (t':=s.toks) (fun b o e=>Heap.get?_push_of_some _ e) (Nat.le_refl _) (show BW X.prog X.w _ _ _ (.tup ys)from⟨hz,its,r',IsTup.new _ _⟩)
  exact⟨.ref h'.objs.size,_,I2,rfl,q _ (I1.hok.fresh (Nat.le_refl _))⟩
 ·obtain⟨its,r',pl,hz⟩:=I.tuple hq
  exact call_tuple_same pl ⟨.ref p,H,I,rfl,q⟩
def YN (K:PySem.W.Frag)(T:String)(x:V)(H:Hp):Prop:=match x with
 | .str _=>T="str"
 | .int _=>T="int"
 | .ref p=>(T="list"∧∃ xs,Ax K H p xs)∨(T="tuple"∧∃ o,K.lookup p=some o∧o.cls=.type "tuple"∧o.dict=none)∨
  (T="dict"∧((∃ kvs,H p=some (.dK kvs))∨∃ kvs,H p=some (.dT kvs)))∨(T="set"∧∃ S n,H p=some (.set S n))
 | _=>False
theorem QB {pins:List (Addr×Obj)}{σ:St}{H:Hp}{s:Shared}{T:String}{x:V}{v:Value}(I:Ao X pins σ H s)(r:A2 x v)(ty:YN X.K T x H):
 s.TypeIs v T∧∀ a,v=.ref a→∃ ob,s.heap.get? a=some ob∧ob.dict=none:=by
 cases x with
 | str z=>
  obtain⟨t,rfl⟩:=r
  cases (show T="str" from ty)
  exact⟨typeIs_str s z t,fun _ e=>nomatch e⟩
 | int i=>
  obtain⟨t,rfl⟩:=r
  cases (show T="int" from ty)
  exact⟨typeIs_int s i t,fun _ e=>nomatch e⟩
 | ref p=>
  cases r
  rcases ty with⟨rfl,xs,hq⟩ | ⟨rfl,o,hk,hc,hd⟩ | ⟨rfl,hk⟩ | ⟨rfl,S,n,hk⟩
  ·obtain⟨its,_,pl,_⟩:=I.list hq
   refine⟨pl.isList.typeIs,fun a e=>?_⟩
   cases e
   obtain⟨o,n,e,c,hd,_⟩:=pl
   exact⟨o,e,hd⟩
  ·refine⟨⟨o,I.kIn p o hk,hc⟩,fun a e=>?_⟩
   cases e
   exact⟨o,I.kIn _ o hk,hd⟩
  ·have z:∃ o,s.heap.get? p=some o∧o.ExactDict:=by
    rcases hk with⟨kvs,hk⟩ | ⟨kvs,hk⟩
    ·obtain⟨_,_,_,_,o,_,_,e,ex,_⟩:=I.hok p _ hk
     exact⟨o,e,ex⟩
    ·obtain⟨_,_,_,_,o,_,_,e,ex,_⟩:=I.hok p _ hk
     exact⟨o,e,ex⟩
   obtain⟨o,e,ex⟩:=z
   refine⟨⟨o,e,ex.1⟩,fun a e2=>?_⟩
   cases e2
   exact⟨o,e,ex.2.1⟩
  ·obtain⟨o,_,_,_,e,ex,_⟩:=I.hok p _ hk
   refine⟨⟨o,e,ex.1⟩,fun a e2=>?_⟩
   cases e2
   exact⟨o,e,ex.2.1⟩
 | _=>exact False.elim ty
def YO (K:PySem.W.Frag)(T:String)(r:V→List V→Hp→VK→Prop)(to:TE):TE:=fun σ H Q=>to σ H fun x H1=>YN K T x H1∧r x [] H1 Q
def ZQ (K:PySem.W.Frag)(T:String)(r:V→List V→Hp→VK→Prop)(to:TE)(t:TA):TE:=fun σ H Q=>to σ H fun x H1=>YN K T x H1∧t σ H1 fun xs H2=>r x xs H2 Q
variable {o e:Expr}{es:List Expr}{to:TE}{t:TA}{name:Str}{apos cpos:Pos}{T id:String}{r:V→List V→Hp→VK→Prop}
theorem Tu (pa:PlainAttrs T)(slot:Slot T name id)(hty:typeOf (.builtin id)=pure (.type "method_descriptor"))(hm:YK X id r)(ho:PE X o to)
 (hbase:attributeBase o name X.env (eval o X.env)=eval o X.env:=by rfl) (hline:(apos.endLine==cpos.line)=true:=by rfl):PE X (.Call (.Attribute o name apos) [] [] cpos) (YO X.K T r to):=by
 intro pins s σ H Q I h
 refine wpAny_Call_method0_late hbase hline (BZ (ho pins s σ H _ I h) fun v s1 zq=>?_)
 obtain⟨x,H1,I1,r1,ty,q1⟩:=zq
 obtain⟨h1,h2⟩:=QB I1 r1 ty
 exact⟨T,id,pa,slot,hty,h1,h2,Calls.callWith_builtin rfl (PySem.evalArgs_none (hm pins s1 σ H1 x [] v [] Q I1 r1 .nil q1))⟩
theorem G8 (pa:PlainAttrs T)(slot:Slot T name id)(hty:typeOf (.builtin id)=pure (.type "method_descriptor"))(hm:YK X id r)(ho:PE X o to)(ha:PA X (e::es) t)
 (hbase:attributeBase o name X.env (eval o X.env)=eval o X.env:=by rfl)
 (hfew:((backTo cpos (starEach (e::es) X.env)).all (fun x=>!x.1)&&(backToKw cpos (keywordEach [] X.env)).all (fun x=>x.1.isSome)
  && decide ((e::es).length+([]:List Keyword).length+(if([]:List Keyword).isEmpty then 0 else 1)<30))=true:=by rfl)
 (hline:(apos.endLine==cpos.line)=true:=by rfl) (hs:starEach (e::es) X.env=(false,eval e X.env)::starEach es X.env:=by rfl) (hplain:(backTo cpos (starEach es X.env)).any (·.1)=false:=by rfl):
 PE X (.Call (.Attribute o name apos) (e::es) [] cpos) (ZQ X.K T r to t):=by
 intro pins s σ H Q I h
 refine wpAny_Call_method_late hbase hfew hline rfl (BZ (ho pins s σ H _ I h) fun v s1 zq=>?_)
 obtain⟨x,H1,I1,r1,ty,q1⟩:=zq
 obtain⟨h1,h2⟩:=QB I1 r1 ty
 refine⟨T,id,pa,slot,hty,h1,h2,?_⟩
 have hA:=ha cpos pins s1 σ H1 _ I1 q1
 rw[hs]at hA ⊢
 refine Calls.callWith_builtin (by show(false||(backTo cpos (starEach es X.env)).any (·.1))=false;rw[hplain] <;> rfl) (Calls.evalArgs_plain ?_)
 exact BZ hA fun us s2 ⟨vs,H2,I2,r2,q2⟩=>hm pins s2 σ H2 x vs v us Q I2 r1 r2 q2
/- xs.append(e),list.index on a module's tuple .. are YK facts of 06m -/
end
def Xp (X:Cx)(id:String)(r:V→List V→Hp→VK→Prop):Prop:=
 ∀(pins:List (Addr×Obj)) (s:Shared) (σ:St) (H:Hp) (x:V) (xs:List V) (v:Value) (us:List Value) (Q:VK),Ao X pins σ H s→A2 x v→A1 xs us→r x xs H Q→
  wpAny (model X.prog X.w) X.A (call (.builtin id) (v::us)) (EP X pins σ Q) X.xe s
theorem A1.one {x:V}{us:List Value}(h:A1 [x] us):∃ u,us=[u]∧A2 x u:=by
 cases h with
 | cons r t=>
  cases t
  exact⟨_,rfl,r⟩
theorem A1.two {x y:V}{us:List Value}(h:A1 [x,y] us):∃ u v,us=[u,v]∧A2 x u∧A2 y v:=by
 cases h with
 | cons r t=>
  cases t with
  | cons q t=>
   cases t
   exact⟨_,_,rfl,r,q⟩
theorem A1.zero:∀{us:List Value},A1 [] us→us=[]
 | _,.nil=>rfl
theorem A1.dropLast {xs:List V}{us:List Value}(h:A1 xs us):A1 xs.dropLast us.dropLast:=by
 induction h with
 | nil=>exact .nil
 | cons r t ih=>
  cases t with
  | nil=>exact .nil
  | cons q t'=>exact .cons r ih
theorem A1.rep {xs:List V}{us:List Value}(h:A1 xs us):∀ k:Nat,A1 (List.replicate k xs).flatten (List.replicate k us).flatten
 | 0=>.nil
 | k+1=>by
  rw[List.replicate_succ,List.replicate_succ,List.flatten_cons,List.flatten_cons]
  exact A1.append h (A1.rep h k)
theorem NN {α:Type}(l:List α):l.eraseIdx (l.length-1)=l.dropLast:=by
 induction l with
 | nil=>rfl
 | cons a r ih=>
  cases r with
  | nil=>rfl
  | cons b r=>
   have e:(a::b::r).length-1=((b::r).length-1)+1:=by
    have h1:(a::b::r).length=r.length+2:=rfl
    have h2:(b::r).length=r.length+1:=rfl
    omega
   rw[e,List.eraseIdx_cons_succ,ih]
   all_goals rfl
theorem Ky (its:List Value):∀(k:Nat) (acc:List Value),
 List.foldl (fun x1 x2=>x1++x2) acc.toArray (List.replicate k its.toArray)=(acc++(List.replicate k its).flatten).toArray
 | 0,acc=>by simp
 | k+1,acc=>by
  have e:acc.toArray++its.toArray=(acc++its).toArray:=by simp
  have e2:(acc++its)++(List.replicate k its).flatten=acc++(List.replicate (k+1) its).flatten:=by
   rw[List.replicate_succ,List.flatten_cons,List.append_assoc]
  rw[← e2,← Ky its k (acc++its),← e,List.replicate_succ,List.foldl_cons]
section
variable {X:Cx}{pins:List (Addr×Obj)}{σ:St}{H:Hp}{s:Shared}{l b:Addr}{xs ys zs:List V}
theorem Ao.lset {its its':List Value}{n:Nat}{f:Array Value→Array Value}{t':Nat}(I:Ao X pins σ H s)(hH:H l=some (.lst xs))
 (e:s.heap.get? l=some { cls:=.type "list",data:=.seq its.toArray n }) (hf:f its.toArray=its'.toArray) (hv:A1 ys its') (hz:ys.length≤sizeLine):
 Ao X pins σ (upd H l (.lst ys)) { s with heap:=s.heap.update l (Obj.mapSeq f),toks:=t' }:=by
 have q:=PySem.IsL.update e f
 rw[hf]at q
 refine I.write (x:=l) (e:=l) (by rw[hH];exact trivial) (.inl rfl) (fun b' u hb hu=>(Heap.get?_update_other s.heap (Obj.mapSeq f) (Ne.symm hb)).trans hu) ⟨_,q⟩ ?_
 exact⟨hz,its',_,hv,q⟩
theorem Ao.lnew {its:List Value}{t':Nat}(I:Ao X pins σ H s)(hv:A1 ys its)(hz:ys.length≤sizeLine):
 Ao X pins σ (upd H s.heap.objs.size (.lst ys)) { s with heap:=s.heap.push { cls:=.type "list",data:=.seq its.toArray },toks:=t' }:=
 I.laid (fun _ _ q=>Heap.get?_push_of_some _ q) (Nat.le_refl _) ⟨hz,its,0,hv,Heap.get?_push_size _ rfl⟩
theorem Ao.fresh (I:Ao X pins σ H s):H s.heap.objs.size=none:=I.hok.fresh (Nat.le_refl _)
theorem Ao.lstM (I:Ao X pins σ H s)(hH:H l=some (.lst xs)):xs.length≤sizeLine∧∃(its:List Value) (n:Nat),A1 xs its∧xs.length=its.length∧s.heap.get? l=some { cls:=.type "list",data:=.seq its.toArray n }:=by
 obtain⟨z,its,n,r,e⟩:=I.hok l _ hH
 exact⟨z,its,n,r,r.length,e⟩
theorem JW {n:Nat}(h:n≤sizeLine):Builtin.List.listTooLong n=false:=by
 unfold Builtin.List.listTooLong
 exact decide_eq_false (by omega)
end
section
variable {X:Cx}
def R3:V→List V→Hp→VK→Prop:=fun x vs H Q=>∃ l xs y,x=.ref l∧vs=[y]∧H l=some (.lst xs)∧xs.length<sizeLine∧Q .non (upd H l (.lst (xs++[y])))
theorem B7:Xp X "list.append" R3:=by
 intro pins s σ H x vs v us Q I rx rv h
 obtain⟨l,xs,y,rfl,rfl,hH,hz,q⟩:=h
 cases rx
 obtain⟨u,rfl,ru⟩:=rv.one
 obtain⟨z,its,n,r,hl,e⟩:=I.lstM hH
 refine call_meets F.slot_list_append ⟨_,e,rfl⟩ F.entry_list_append (F.args_list_append_2 _ _) (PySem.list_append l its.toArray n u (by rw[List.size_toArray];omega)) ⟨e,?_⟩
 refine⟨.non,_,I.lset (its':=its++[u]) hH e (by simp) (r.append (.cons ru .nil)) ?_,rfl,q⟩
 rw[List.length_append,List.length_singleton]
 omega
def R4:V→List V→Hp→VK→Prop:=fun x vs H Q=>∃ l b xs zs,x=.ref l∧vs=[.ref b]∧H l=some (.lst xs)∧H b=some (.lst zs)∧xs.length+zs.length≤sizeLine∧Q .non (upd H l (.lst (xs++zs)))
theorem O4:Xp X "list.extend" R4:=by
 intro pins s σ H x vs v us Q I rx rv h
 obtain⟨l,b,xs,zs,rfl,rfl,hH,hB,hz,q⟩:=h
 cases rx
 obtain⟨u,rfl,ru⟩:=rv.one
 cases ru
 obtain⟨z,its,n,r,hl,e⟩:=I.lstM hH
 obtain⟨z2,its2,n2,r2,hl2,e2⟩:=I.lstM hB
 have hsz:its.toArray.size+its2.toArray.size≤sizeLine:=by rw[List.size_toArray,List.size_toArray];omega
 have hlong:¬ (!its.toArray.isEmpty&&Builtin.List.listTooLong (its.toArray.size+its2.toArray.size))=true:=by
  rw[JW hsz,Bool.and_false]
  exact Bool.false_ne_true
 refine call_meets F.slot_list_extend ⟨_,e,rfl⟩ F.entry_list_extend (F.args_list_extend_2 _ _)
  (AutoSeq1.list_extend_list_list_0 l its.toArray n b its2.toArray n2 hlong (by rw[List.size_toArray];omega) (by omega)) ⟨e,e2,?_⟩
 refine⟨.non,_,I.lset (its':=its++its2) hH e (by simp) (r.append r2) ?_,rfl,q⟩
 rw[List.length_append]
 omega
def YQ:V→List V→Hp→VK→Prop:=fun x vs H Q=>∃ l xs y,x=.ref l∧vs=[]∧H l=some (.lst xs)∧xs[xs.length-1]?=some y∧Q y (upd H l (.lst xs.dropLast))
theorem Tv:Xp X "list.pop" YQ:=by
 intro pins s σ H x vs v us Q I rx rv h
 obtain⟨l,xs,y,rfl,rfl,hH,hy,q⟩:=h
 cases rx
 have hus:=rv.zero
 subst hus
 obtain⟨z,its,n,r,hl,e⟩:=I.lstM hH
 obtain⟨u,hu,ru⟩:=r.get hy
 have hy':its.toArray[its.toArray.size-1]?=some u:=by
  show its.toArray[its.length-1]?=some u
  rw[← Array.getElem?_toList,← hl]
  exact hu
 refine call_meets F.slot_list_pop ⟨_,e,rfl⟩ F.entry_list_pop (F.args_list_pop_1 _) (MeetsSeq.list_pop_last l its.toArray n u hy' (by rw[List.size_toArray];omega)) ⟨e,?_⟩
 refine⟨y,_,I.lset (its':=its.dropLast) hH e ?_ r.dropLast ?_,ru,q⟩
 ·show its.toArray.eraseIdxIfInBounds (its.toArray.size-1)=its.dropLast.toArray
  rw[List.size_toArray,List.eraseIdxIfInBounds_toArray,NN]
 ·rw[List.length_dropLast]
  omega
def YR:R2:=fun x y H Q=>∃ l k xs,x=.ref l∧y=.int k∧H l=some (.lst xs)∧-(2 ^ 63)≤k∧k<2 ^ 63∧xs.length*k.toNat≤sizeLine∧
 ∀ p,H p=none→Q (.ref p) (upd H p (.lst (List.replicate k.toNat xs).flatten))
theorem R5 {α:Type}(xs:List α)(k:Nat):(List.replicate k xs).flatten.length=k*xs.length:=by
 induction k with
 | zero=>simp
 | succ k ih=>rw[List.replicate_succ,List.flatten_cons,List.length_append,ih,Nat.succ_mul,Nat.add_comm]
theorem Tw:GL X (binaryOp .Mult) YR:=by
 intro pins s σ H x y v u Q I rx ry h
 obtain⟨l,k,xs,rfl,rfl,hH,h1,h2,hz,q⟩:=h
 cases rx
 obtain⟨t,rfl⟩:=ry
 obtain⟨z,its,n,r,hl,e⟩:=I.lstM hH
 have hlen:its.toArray.size*k.toNat≤sizeLine:=by rw[List.size_toArray,← hl];exact hz
 have hcap:¬ its.toArray.size*k.toNat>(2 ^ 63-1) / 8:=by
  have:(sizeLine:Nat)≤(2 ^ 63-1) / 8:=by decide
  omega
 have hfit:¬ (!Builtin.List.listFitsIndex k)=true:=by
  rw[fitsIndex_both h1 h2]
  exact Bool.false_ne_true
 have hlong:¬ Builtin.List.listTooLong (its.toArray.size*k.toNat)=true:=by
  rw[JW hlen]
  exact Bool.false_ne_true
 have hnew:List.foldl (fun x1 x2=>x1++x2) #[] (List.replicate (if its.toArray.isEmpty=true then 0 else k.toNat) its.toArray)=(List.replicate k.toNat its).flatten.toArray:=by
  have f0:∀ m:Nat,List.foldl (fun x1 x2=>x1++x2) #[] (List.replicate m its.toArray)=(List.replicate m its).flatten.toArray:=fun m=>by
   have:=Ky its m []
   rw[List.nil_append]at this
   exact this
  rw[f0]
  cases its with
  | nil=>simp
  | cons a r'=>rw[if_neg (by simp)]
 refine wpAny_binaryOp_repeat_ref (T:="list") (U:="int") (by decide) ⟨_,e,rfl⟩ (fun s'=>typeIs_int s' k t) noFill_list_mul F.fills_int_mul F.slot_int_rmul repeat_list F.slot_int_index.lookup
  (call_meets F.slot_int_rmul (typeIs_int s k t) F.entry_int_rmul (F.args_int_rmul_2 _ _) (int___rmul___int_list k t l its.toArray n)
   ⟨e,rfl,⟨_,e,rfl⟩,call_meets F.slot_list_mul ⟨_,e,rfl⟩ F.entry_list_mul (F.args_list_mul_2 _ _) (AutoListH.list___mul___list_int_3 l its.toArray n k t hfit hcap hlong) ⟨e,?_⟩⟩)
 rw[hnew]
 exact⟨.ref _,_,I.lnew (t':=s.toks) (r.rep k.toNat) (by rw[R5,Nat.mul_comm];exact hz),rfl,q _ I.fresh⟩
end
end L2
namespace Att
open PySem PySem.W PySem.Calls PyProof.Rows
theorem Ih {P:Params}{h:Heap}:∀(ns:List Int) (vs:List Value),WellAll P h vs (ns.map WData.int)→IntsAre vs ns:=by
 intro ns
 induction ns with
 | nil=>
  intro vs w
  rw[List.map_nil]at w
  cases w
  exact .nil
 | cons n ns ih=>
  intro vs w
  rw[List.map_cons]at w
  cases w with
  | cons a b=>
   cases a
   exact .cons _ _ (ih _ b)
theorem O5 {l:OpenLaw}{n:Nat}(hn:l.most=some n){P:Params}{h:Heap}{args:List WData}{vals:List Value}
 (hpre:l.row.toRowW.claim.pre args=true) (hwl:WellAll P h vals args):
 ∃ a vs ns,vals=[Value.ref a]∧args=[WData.list (ns.map WData.int)]∧h.get? a=some { cls:=.type "list",data:=.seq vs.toArray }∧IntsAre vs ns∧ns.length≤n:=by
 have hsh:WShape.hasAll [] args [.list .int]=true:=(pre_splitW hpre).1
 have hc:l.pre.holds [] { args:=args }=true:=(pre_splitW hpre).2
 obtain⟨d,r,rfl,h1,h2⟩:=hasAllW_cons hsh
 obtain rfl:=hasAllW_nil h2
 obtain⟨xs,rfl,h3⟩:=hasW_list h1
 obtain⟨ns,rfl⟩:=items_int h3
 have hlen:ns.length≤n:=by
  unfold OpenLaw.pre at hc
  have h4:(WTm.not (.lt (.lit (.int (n:Int))) (.len (.arg 0)))).holds [] { args:=[.list (ns.map .int)] }=true:=by
   have h4:=(holds_andW hc).1
   rw[hn]at h4
   exact h4
  have h5:=condW_of h4 (w_not (w_lt w_lit (w_len_list (w_arg rfl))))
  rw[List.length_map]at h5
  refine Nat.le_of_not_lt fun q=>?_
  have q':(n:Int)<((ns.length:Nat):Int):=by omega
  first
   | (rw[decide_eq_true q']at h5;exact absurd h5 (by decide))
   | (simp at h5;omega)
 cases hwl with
 | cons w1 w2=>
  cases w2
  cases w1 with
  | list ho hall=>exact⟨_,_,ns,rfl,rfl,ho,Ih ns _ hall,hlen⟩
theorem O6 (l:OpenLaw)(args:List WData):l.row.toRowW.claim.post args (.bool true) args=true:=
 postW_of (r:=l.row.toRowW) (X:=(true==true))
  (show WShape.has [] (.bool true) .bool=true by first | rfl | decide | simp[WShape.has,WShape.arms,WShape.armsAll])
  (show(WTm.eq .res (.lit (.bool true))).value [] { args:=args,res:=some (.bool true),after:=args }=some (.bool (true==true))from w_eq_bool (w_res rfl) w_lit) rfl
theorem MJ {l:OpenLaw}{n:Nat}{q:Program}{loose:List Str}{XP:(Str→Option Value)→Heap→Prop}{YP:World→Heap→Prop}{d:DefRec}
 (hn:l.most=some n) (hdf:d.params.defaults=[])
 (call:∀(w:World) (s₀ s₁:Shared) (mg mb:Str→Option Value) (fa:Addr) (o:Obj) (pm cd doc:Value) (a:Addr) (vs:List Value) (ns:List Int),
  Ground q loose [] XP w s₀ mg mb s₁.heap→YP w s₁.heap→
  s₁.heap.get? fa=some o→o.data=.func (docDef d.name d.params d.body d.scope pm cd doc)→s₁.heap.CodeRec cd d.name→mg d.name=some (.ref fa)→
  s₁.heap.get? a=some { cls:=.type "list",data:=.seq vs.toArray }→IntsAre vs ns→ns.length≤n→s₁.gens=#[]→
  codeAny (model l.prog w) callerA (.call (.ref fa) ⟨[.ref a],[]⟩) (fun r s'=>r=.ok (.ret (.bool true))∧OldK s₁.heap s'.heap∧s'.os=s₁.os∧AllBare s'.gens) s₁):
 WalkO q loose XP YP l.row.toRowW d [] (fun f vs=>PySem.call f vs):=by
 intro w s₀ s₁ mg mb G Y fa o pm cd doc dV kV ho hd hcd hD hmg hg args vals as hpre hlay hrd hwl hlo
 obtain rfl:dV=.none:=Dflts.none hD hdf
 obtain rfl:kV=.none:=Dflts.noKw hD
 obtain⟨a,vs,ns,rfl,rfl,hobj,hints,hlen⟩:=O5 hn hpre hwl
 refine enter_call (codeAny_mono (call w s₀ s₁ mg mb fa o pm cd doc a vs ns G Y ho (fd_plain hd) hcd hmg hobj hints hlen hg) fun r s' hq=>?_)
 obtain⟨rfl,h2,h3,h4⟩:=hq
 exact⟨.inl ⟨.bool true,.bool true,[],rfl,fun _=>rfl,.bool true,O6 l _,fun _=>⟨List.Pairwise.nil,fun _ hm=>(nomatch hm)⟩⟩,h2,h3,h4⟩
end Att
namespace L2
open PySem PySem.Spec PyProof.Rows
theorem Kz:∀{vs:List Value} {ns:List Int},IntsAre vs ns→A1 (ns.map V.int) vs
 | _,_,.nil=>.nil
 | _,_,.cons n t h=>.cons ⟨t,rfl⟩ (Kz h)
abbrev Y6 {K:PySem.W.Frag}{h:Heap}(_:K.In h):PySem.W.Frag:=K
end L2
/- THE LAST THEOREM (shape;LID,My.* are yours):
 My.Adr: a structure of the addresses that your layer names (classes,functions);My.Txt K t: a structure (Prop) of the equations over K;
 My.txt_mk:{K} {implicit addresses ..} (e1:nsIn K mainGlobals "law"=some (some (.ref f))) (e2:K.lookup f=some ⟨oc,od,.func (fnOf "law" "law" params body scope dV kV doc pm an cdv ct),sl⟩) (e3:codeIn K cdv "law"=true) ..:∃ t,My.Txt K t
set_option maxRecDepth 100000 in
set_option maxHeartbeats 0 in
theorem PySem.Challenge.cw_LID_holds : PySem.Challenge.rw_LID.Holds := by
 w_on;o_law;k_head;(case hw=>w_witness2)
 k_fill
 refine L2.walk_of (l:=PySem.Challenge.rw_LID) (n:=63) (k:=40) (x:="script") (CX:=fun w=>..) (sp:=fun _=>My.sp_law) rfl (by decide) rfl ⟨rfl,by decide,by decide⟩ (fun w h Y=>PySem.W.kIn_of Y) ?F ?S ?C
 case F=>
  intro w mg fa h KX G hmg
  have T:∃ t,My.Txt (L2.Y6 KX) t:=by
   dsimp only[L2.Y6]                          -- K must stand as «<heap const> w.params» for k_is
   refine' My.txt_mk ?e1 ?e2 ?e3 ..
   (case e1=>PySem.W.k_is)                    -- in the order: a name -> its address -> its object -> its parts
   (case e2=>PySem.W.k_is)
   ..
  obtain⟨t,T⟩:=T
  have e0:=hmg.symm.trans (PySem.W.mg_of KX G T.law)
  cases e0                                       -- fa is the law's own address
  exact⟨_,fun s u=>.of_eq rfl,fun base kb nb=>My.law_fn T kb nb⟩     -- if «.of_eq rfl» comes too early: refine' ⟨_,?b,fun base kb nb=>My.law_fn T kb nb⟩;exact fun s u=>.of_eq rfl
 case S=>exact fun w H a ns hl hO hS=>..
 case C=>exact ..
(the tactic k_is has no namespace: write k_is) -/
namespace L2
open PySem PySem.Spec PyProof.Rows
def E8 (s:Stmt):Arguments:=match s with
 | .FunctionDef _ a _ _ _ _ _ _ _ _=>a
 | _=>{ posonlyargs:=[],args:=[],vararg:=none,kwonlyargs:=[],kw_defaults:=[],kwarg:=none,defaults:=[] }
def Cp (s:Stmt):List Stmt:=match s with
 | .FunctionDef _ _ b _ _ _ _ _ _ _=>b
 | _=>[]
def AL (s:Stmt):Scope:=match s with
 | .FunctionDef _ _ _ _ _ _ sc _ _ _=>sc
 | _=>{ kind:=.function,names:=[],isGenerator:=false,isCoroutine:=false }
abbrev Bj:O2:=fun _ _ _ _ _ _=>False
abbrev E0:XK:=fun _ _ _=>False
theorem Vn {X:Cx}:NL Bj X E0:=fun _ _ _ _ _ _ _ h=>h.elim
structure Fun (K:PySem.W.Frag)(x qual:Str)(st:Stmt)(f:Addr)(fd:FuncData):Prop where
 ex:∃(oc:Value) (od:Option Addr) (kV doc pm:Value) (an:Option Addr) (cdv ct:Value) (osl:Array (Option Value)),
  fd=PySem.W.fnOf x qual (E8 st) (Cp st) (AL st) .none kV doc pm an cdv ct∧K.lookup f=some ⟨oc,od,.func fd,osl⟩∧PySem.W.codeIn K cdv qual=true
 kp:PySem.W.keepIn K (.ref f)=true
section
variable {P:Program}{w:World}{K:PySem.W.Frag}{mg:Str→Option Value}{base:Heap}
theorem Fun.ok {x qual:Str}{st:Stmt}{f:Addr}{fd:FuncData}{N ps:List Str}{k:Nat}{sp:Sp}(F:Fun K x qual st f fd)(S:AW N ps (AL st))(len:∀ vs H Q E,sp vs H Q E→vs.length=ps.length)
 (hbody:∀(cdv:Value) (A:Around) (outer:List Env) (s:Shared) (H:Hp) (vs:List V) (Q:VK) (E:XK),Ce k (A.deeper (envOfC qual (AL st) s.heap.objs.size f cdv))→sp vs H Q E→
  ∃ t,MB (JR Bj P w K mg base N qual (AL st) f cdv A outer s H E).nox (Cp st) t∧t { nx:=fun _ H'=>Q .non H',rt:=Q } (Fl N vs) H):Av P w K mg base Bj (k+1) f fd ps sp:=by
 obtain⟨oc,od,kV,doc,pm,an,cdv,ct,osl,rfl,lk,hcd⟩:=F.ex
 refine Sy lk hcd S len fun A outer s H vs Q E hr hsp=>?_
 obtain⟨t,h,q⟩:=hbody cdv A outer s H vs Q E hr hsp
 exact⟨t,h.nox,q⟩
theorem Fun.binds {x qual:Str}{st:Stmt}{f:Addr}{fd:FuncData}{ps:List Str}(F:Fun K x qual st f fd)
 (h:∀(kV doc pm:Value) (an:Option Addr) (cdv ct:Value) (us:List Value),us.length=ps.length→bindArgs (PySem.W.fnOf x qual (E8 st) (Cp st) (AL st) .none kV doc pm an cdv ct) ⟨us,[]⟩=pure (ps.zip us)):JQ K fd ps []:=by
 obtain⟨oc,od,kV,doc,pm,an,cdv,ct,osl,rfl,lk,hcd⟩:=F.ex
 exact .all (h kV doc pm an cdv ct)
theorem Tx {x qual:Str}{st:Stmt}{f:Addr}{oc:Value}{od an:Option Addr}{osl:Array (Option Value)}{kV doc pm cdv ct:Value}(l:K.lookup f=some ⟨oc,od,.func (PySem.W.fnOf x qual (E8 st) (Cp st) (AL st) .none kV doc pm an cdv ct),osl⟩)
 (c:PySem.W.codeIn K cdv qual=true) (k:PySem.W.keepIn K (.ref f)=true):Fun K x qual st f (PySem.W.fnOf x qual (E8 st) (Cp st) (AL st) .none kV doc pm an cdv ct):=⟨⟨oc,od,kV,doc,pm,an,cdv,ct,osl,rfl,l,c⟩,k⟩
end
theorem FU {A:Around}{k:Nat}(hr:Ce k A):A.units+1<cLine:=Nat.lt_of_le_of_lt (Nat.add_le_add_left (by decide:1≤64) _) hr.units
theorem K0 {n:Nat}(h:n≤1000):n<sizeLine:=Nat.lt_of_le_of_lt h (by decide)
section
variable {X:Cx}
theorem pv (i:Nat){x:Str}{pos:Pos}(hN:X.N[i]?=some x:=by rfl)(hv:X3 X.env.scope x:=by first | exact Or.inl rfl | exact Or.inr (Or.inl rfl) | exact Or.inr (Or.inr rfl))(hd:(x==("__debug__":Str))=false:=by decide)
 (hcd:(x==("__classdict__":Str))=false:=by decide):PE X (.Name x pos) (GR i):=P4 hN hv hd hcd
end
theorem Ah {A B:Prop}(h:B):if false=true then A else B:=by
 rw[if_neg Bool.false_ne_true]
 exact h
theorem Az {A B:Prop}(h:A):if true=true then A else B:=by
 rw[if_pos rfl]
 exact h
theorem Ba {c A B:Prop}[Decidable c](h1:c→A)(h2:¬ c→B):if c then A else B:=by
 by_cases h:c
 ·rw[if_pos h]
  exact h1 h
 ·rw[if_neg h]
  exact h2 h
def AI (H H':Hp):Prop:=∀ b o,H b=some o→H' b=some o
theorem AI.refl (H:Hp):AI H H:=fun _ _ h=>h
theorem AI.trans {H H1 H2:Hp}(a:AI H H1)(b:AI H1 H2):AI H H2:=fun c o h=>b c o (a c o h)
theorem AI.seq {K:PySem.W.Frag}{H H':Hp}{a:Addr}{xs:List V}(e:AI H H')(h:Ax K H a xs):Ax K H' a xs:=by
 rcases h with(h | ⟨o,h⟩) | h
 ·exact .inl (.inl (e _ _ h))
 ·exact .inl (.inr ⟨o,e _ _ h⟩)
 ·exact .inr h
def Sz (n:Nat)(x:Int):Prop:=x.natAbs<2 ^ n
theorem Sz.mono {m n:Nat}{x:Int}(h:Sz m x)(hn:m≤n):Sz n x:=Nat.lt_of_lt_of_le h (Nat.pow_le_pow_right (by decide) hn)
theorem Sz.mul {m n:Nat}{x y:Int}(h:Sz m x)(g:Sz n y):Sz (m+n) (x*y):=by
 unfold Sz at *
 rw[Int.natAbs_mul,Nat.pow_add]
 exact Nat.mul_lt_mul_of_lt_of_lt h g
theorem Sz.add {n:Nat}{x y:Int}(h:Sz n x)(g:Sz n y):Sz (n+1) (x+y):=by
 unfold Sz at *
 rw[Nat.pow_succ]
 omega
theorem Sz.sub {n:Nat}{x y:Int}(h:Sz n x)(g:Sz n y):Sz (n+1) (x-y):=by
 unfold Sz at *
 rw[Nat.pow_succ]
 omega
theorem Sz.of_le {n:Nat}{x y:Int}(h:Sz n y)(g:x.natAbs≤y.natAbs):Sz n x:=Nat.lt_of_le_of_lt g h
section
variable {X:Cx}
def QC (i j:Int):Prop:=Sz 4000 i∧Sz 4000 j
theorem QC.ok {i j:Int}(h:QC i j):IntMulOk i j:=IntMulOk.of_le (m:=4000) (n:=4000) (intBits_le_iff.mpr h.1) (intBits_le_iff.mpr h.2) (by decide)
theorem BQ:GL X (binaryOp .Mult) (rI QC fun i j=>.int (i*j)):=Ve fun _ _ _ _ _ _ _ hc q=>mul_int q hc.ok
def QD (_ j:Int):Prop:=j≠0∧Sz 4000 j
theorem QD.ok {i j:Int}(h:QD i j):Builtin.divisionGoesByPylong i j=false:=by
 refine PyProof.noPylong_of_log2 ?_
 have h0:j.natAbs≠0:=by have:=h.1;omega
 exact Nat.lt_trans ((Nat.log2_lt h0).mpr h.2) (by decide)
theorem Fn:GL X (binaryOp .FloorDiv) (rI QD fun i j=>.int (i.fdiv j)):=Ve fun _ _ _ _ _ _ _ hc q=>floordiv_int hc.1 q (.inl hc.ok)
def E9:List V→List V→Bool
 | [],[]=>true
 | x::xs,y::ys=>JU x y&&E9 xs ys
 | _,_=>false
theorem Fo (n:Nat)(e:Nat→Bool):(List.range (n+1)).all e=(e 0&&(List.range n).all fun i=>e (i+1)):=by
 rw[List.range_succ_eq_map,List.all_cons,List.all_map]
 rfl
def FW (xs ys:List V)(j:Nat):Bool:=match xs[j]?,ys[j]? with
 | some x,some y=>JU x y
 | _,_=>false
theorem FA:∀(xs ys:List V),((List.range (min xs.length ys.length)).all (FW xs ys)&&xs.length==ys.length)=E9 xs ys
 | [],[]=>by simp[E9]
 | [],y::ys=>by simp[E9]
 | x::xs,[]=>by simp[E9]
 | x::xs,y::ys=>by
  have ih:=FA xs ys
  have e:min (x::xs).length (y::ys).length=min xs.length ys.length+1:=by simp only[List.length_cons];omega
  rw[e,Fo]
  have e2:(fun i=>FW (x::xs) (y::ys) (i+1))=FW xs ys:=by
   funext i;simp[FW]
  rw[e2]
  have e3:((x::xs).length==(y::ys).length)=(xs.length==ys.length):=by simp
  have e4:FW (x::xs) (y::ys) 0=JU x y:=by simp[FW]
  rw[e3,e4,Bool.and_assoc,ih,E9]
def YS (K:PySem.W.Frag)(neg:Bool):R2:=fun x y H Q=>∃ a b xs ys,x=.ref a∧y=.ref b∧Af K H a xs∧Af K H b ys∧xs.all Bl=true∧ys.all Bl=true∧Q (.bl (if neg then !E9 xs ys else E9 xs ys)) H
theorem JX {pins:List (Addr×Obj)}{σ:St}{H:Hp}{s:Shared}{A:Around}{xs ys:List V}{us vs:List Value}(r1:A1 xs us)(r2:A1 ys vs)(f1:xs.all Bl=true)(f2:ys.all Bl=true):
 ∀ j (h1:j<us.toArray.size) (h2:j<vs.toArray.size),SeqAt.EqAt A s us.toArray[j] vs.toArray[j] (FW xs ys j):=by
 intro j h1 h2
 have l1:=r1.length
 have l2:=r2.length
 rw[List.size_toArray]at h1 h2
 have hx:xs[j]?=some (xs[j]'(by omega)):=List.getElem?_eq_getElem _
 have hy:ys[j]?=some (ys[j]'(by omega)):=List.getElem?_eq_getElem _
 obtain⟨u,hu,ru⟩:=r1.get hx
 obtain⟨v,hv,rv⟩:=r2.get hy
 have eu:us.toArray[j]'(by simpa using h1)=u:=by
  rw[List.getElem?_eq_getElem h1]at hu
  simpa using Option.some.inj hu
 have ev:vs.toArray[j]'(by simpa using h2)=v:=by
  rw[List.getElem?_eq_getElem h2]at hv
  simpa using Option.some.inj hv
 rw[eu,ev]
 have e:FW xs ys j=JU (xs[j]'(by omega)) (ys[j]'(by omega)):=by unfold FW;rw[hx,hy]
 rw[e]
 exact LR ru rv (List.all_eq_true.mp f1 _ (List.getElem_mem _)) (List.all_eq_true.mp f2 _ (List.getElem_mem _))
theorem LU (hu:X.A.units<cLine):GL X (compareOp .Eq) (YS X.K false):=by
 intro pins s σ H x y v u Q I rx ry h
 obtain⟨a,b,xs,ys,rfl,rfl,ha,hb,f1,f2,q⟩:=h
 cases rx
 cases ry
 obtain⟨its,r1,p1,_⟩:=I.tuple ha
 obtain⟨its2,r2,p2,_⟩:=I.tuple hb
 refine SeqAt.eq_tupleAt (e:=FW xs ys) (show s.heap.IsTuple a its.toArray from p1) (show s.heap.IsTuple b its2.toArray from p2) hu (JX (pins:=pins) (σ:=σ) (H:=H) r1 r2 f1 f2) ⟨.bl _,H,I,rfl,?_⟩
 rw[List.size_toArray,List.size_toArray,← r1.length,← r2.length,FA]
 exact q
def ZR (K:PySem.W.Frag):List V→Hp→VK→Prop:=fun xs H Q=>∃ x c t u b,xs=[x,c]∧Hv K H x t∧A2 c u∧(∀ p,c≠.ref p∨True)∧PySem.W.kitOne K t u=some b∧Q (.bl b) H
theorem Am:Dw X (.builtin "isinstance") (ZR X.K):=by
 intro pins s σ H xs us Q I r h
 obtain⟨x,c,t,u',b,rfl,ty,rc,_,hk,q⟩:=h
 obtain⟨u,w',rfl,r1,r2⟩:=Sw r
 have e:w'=u'∨∃ T,c=.ty T:=by
  cases c with
  | non=>left;cases rc;cases r2;rfl
  | bl _=>left;cases rc;cases r2;rfl
  | int i=>obtain⟨z,rfl⟩:=rc;exact absurd hk (by simp[PySem.W.kitOne,PySem.W.kitCls];cases ty <;> simp)
  | str i=>obtain⟨z,rfl⟩:=rc;exact absurd hk (by simp[PySem.W.kitOne,PySem.W.kitCls];cases ty <;> simp)
  | byt i=>obtain⟨z,rfl⟩:=rc;exact absurd hk (by simp[PySem.W.kitOne,PySem.W.kitCls];cases ty <;> simp)
  | flt i=>obtain⟨z,rfl⟩:=rc;exact absurd hk (by simp[PySem.W.kitOne,PySem.W.kitCls];cases ty <;> simp)
  | ref _=>left;cases rc;cases r2;rfl
  | ty _=>left;cases rc;cases r2;rfl
 rcases e with rfl | ⟨T,rfl⟩
 ·exact Ks I r1 ty hk fun tk=>⟨.bl b,H,I.tok tk,rfl,q⟩
 ·cases rc;cases r2
  exact Ks I r1 ty hk fun tk=>⟨.bl b,H,I.tok tk,rfl,q⟩
end
def A4 (X:Cx)(scope:Scope)(cl:List (Str×Addr))(C:Addr)(N:List Str)(s₀:Shared)(H₀:Hp)(ex:List Addr)(pn:List (Addr×Obj)):Cx where
 prog:=X.prog
 w:=X.w
 K:=X.K
 mg:=X.mg
 base:=X.base
 A:=X.A
 N:=N
 s₀:=s₀
 H₀:=H₀
 env:=compEnvC scope cl C X.env
 outer:=X.stack
 stack:=X.stack
 ex:=ex
 fn:=fun y=>(cl.lookup y).any fun c=>decide (C<c)
 calm:=X.calm
 pn:=pn
 xe:=fun _ _=>False
structure CN (X:Cx)(scope:Scope)(cl:List (Str×Addr))(x:Str)(fv:List Str)(js:List Nat):Prop where
 kind:scope.kind=.function
 nc:∀ y∈scope.names,y.2≠.cell
 nm:∀ y∈scope.names,y.2=.local→scope.names.lookup y.1=some .local
 hx:scope.names.lookup x=some .local
 fr:∀ y∈scope.names,y.2=.free→y.1∈fv
 nd:(x::fv).Nodup
 vis:∀ y∈fv,scope.names.lookup y=some .free∧X.env.scope.names.lookup y=some .cell∧(cl.lookup y).isSome=true
 cls:∀ p∈cl,X.env.cells.lookup p.1=some p.2
 sl:Paired (fun y j=>X.N[j]?=some y) fv js
def GZ (js:List Nat)(σ:St):St:=js.map fun j=>(σ[j]?).getD none
theorem CO {env:Env}(hk:env.scope.kind=.function):∀{names:List (Str×NameKind)} {y:Str},names.lookup y=some .free→env.kindOf y=some .cell→
 (names.map fun(n,k)=>if(k==NameKind.free&&env.scope.kind==.function&&env.kindOf n==some .cell)then(n,NameKind.cell)else(n,k)).lookup y=some .cell
 | [],_,h,_=>by simp at h
 | (n,k)::r,y,h,hy=>by
  have ih:=@CO env hk r y
  show List.lookup y ((if(k==NameKind.free&&env.scope.kind==.function&&env.kindOf n==some .cell)=true then(n,NameKind.cell)else(n,k))::_)=_
  cases hx:y==n with
  | true=>
   have e:y=n:=eq_of_beq hx
   subst e
   simp only[List.lookup_cons,hx]at h
   cases h
   rw[if_pos (by rw[hk,hy];rfl)]
   simp[List.lookup_cons]
  | false=>
   simp only[List.lookup_cons,hx]at h
   split
   ·simp only[List.lookup_cons,hx];exact ih h hy
   ·simp only[List.lookup_cons,hx];exact ih h hy
theorem De {env:Env}:∀{names:List (Str×NameKind)} {y:Str} {k':NameKind},
 (names.map fun(n,k)=>if(k==NameKind.free&&env.scope.kind==.function&&env.kindOf n==some .cell)then(n,NameKind.cell)else(n,k)).lookup y=some k'→
 names.lookup y=some k'∨(names.lookup y=some .free∧k'=.cell)
 | [],_,_,h=>by simp at h
 | (n,k)::r,y,k',h=>by
  have ih:=@De env r y k'
  have h:List.lookup y ((if(k==NameKind.free&&env.scope.kind==.function&&env.kindOf n==some .cell)=true then(n,NameKind.cell)else(n,k))::(r.map fun(n,k)=>if(k==NameKind.free&&env.scope.kind==.function&&env.kindOf n==some .cell)then(n,NameKind.cell)else(n,k)))=some k':=h
  cases hx:y==n with
  | true=>
   by_cases hc:(k==NameKind.free&&env.scope.kind==.function&&env.kindOf n==some .cell)=true
   ·rw[if_pos hc]at h
    simp only[List.lookup_cons,hx]at h
    cases h
    right
    have hk:k=.free:=by
     rw[Bool.and_eq_true,Bool.and_eq_true]at hc
     exact eq_of_beq hc.1.1
    subst hk
    exact⟨by simp[List.lookup_cons,hx],rfl⟩
   ·rw[if_neg hc]at h
    simp only[List.lookup_cons,hx]at h
    left
    simp only[List.lookup_cons,hx]
    exact h
  | false=>
   have h':(r.map fun(n,k)=>if(k==NameKind.free&&env.scope.kind==.function&&env.kindOf n==some .cell)then(n,NameKind.cell)else(n,k)).lookup y=some k':=by
    by_cases hc:(k==NameKind.free&&env.scope.kind==.function&&env.kindOf n==some .cell)=true
    ·rw[if_pos hc]at h
     simp only[List.lookup_cons,hx]at h
     exact h
    ·rw[if_neg hc]at h
     simp only[List.lookup_cons,hx]at h
     exact h
   simp only[List.lookup_cons,hx]
   exact ih h'
section
variable {X:Cx}{scope:Scope}{cl:List (Str×Addr)}{x:Str}{fv:List Str}{js:List Nat}
theorem CN.cell_of (S:CN X scope cl x fv js){y:Str}{c:Addr}(h:cl.lookup y=some c):X.env.cells.lookup y=some c:=S.cls (y,c) (PySem.mem_of_lookup h)
theorem CN.own (S:CN X scope cl x fv js){C:Addr}{y:Str}{k:NameKind}(h:(compEnvC scope cl C X.env).kindOf y=some k)(hk:k=.cell∨k=.free):y∈fv:=by
 have h':(scope.names.map fun(n,k)=>if(k==NameKind.free&&X.env.scope.kind==.function&&X.env.kindOf n==some .cell)then(n,NameKind.cell)else(n,k)).lookup y=some k:=h
 rcases De h' with q | ⟨q,_⟩
 ·rcases hk with rfl | rfl
  ·exact absurd rfl (S.nc _ (PySem.mem_of_lookup q))
  ·exact S.fr _ (PySem.mem_of_lookup q) rfl
 ·exact S.fr _ (PySem.mem_of_lookup q) rfl
theorem Gi {F:Str→Nat→Prop}:∀{ys:List Str} {js:List Nat} {i:Nat} {y:Str},Paired F ys js→ys[i]?=some y→∃ j,js[i]?=some j∧F y j:=by
 intro A B j x h
 induction h generalizing j with
 | nil=>
  intro e
  simp at e
 | cons r t ih=>
  intro e
  cases j with
  | zero=>
   simp at e
   subst e
   exact⟨_,rfl,r⟩
  | succ j=>
   obtain⟨y,h1,h2⟩:=ih (by simpa using e)
   exact⟨y,by simpa using h1,h2⟩
theorem JY {pins:List (Addr×Obj)}{σ:St}{H:Hp}{s:Shared}{h₁:Heap}{ex:List Addr}{tk:Nat}(S:CN X scope cl x fv js)(I:Ao X pins σ H s)
 (hf:∀ b∈ex,Fd X pins H b) (hlt:∀ b∈ex,b<s.heap.objs.size) (hns:h₁.Ns s.heap.objs.size (fun _=>none)) (hk:∀ b o,s.heap.get? b=some o→h₁.get? b=some o):
 Ao (A4 X scope cl s.heap.objs.size (x::fv) s H ex (X.pn++pins)) [] (none::GZ js σ) H { s with heap:=h₁,toks:=tk }:=by
 have nstk:∀ b∈ex,b∉Iz X.stack:=fun b hb z=>by
  rcases List.mem_cons.mp (I.stkSub b z)with e | e
  ·exact(hf b hb).2.1 e
  ·exact(hf b hb).2.2.1 e
 have ok:(A4 X scope cl s.heap.objs.size (x::fv) s H ex (X.pn++pins)).Ok:=by
  refine⟨I.ok.mod,S.kind,I.ok.glob,I.ok.blt,Nat.le_refl _,fun y z c h1 h2=>I.ok.inj y z c (S.cell_of h1) (S.cell_of h2),fun y hy=>?_,(fun y c h hc=>by
   have h':((cl.lookup y).any fun c=>decide (s.heap.objs.size<c))=true:=h
   rw[show cl.lookup y=some c from hc]at h'
   exact Nat.le_of_lt (of_decide_eq_true h')),I.ok.hd,I.ok.frames,.inl rfl,
   fun b hb=>⟨Nat.ne_of_lt (hlt b hb),fun y c h=>(hf b hb).2.2.2.2.1 y c (S.cell_of h)⟩,I.bs,Nat.le_trans I.ok.bsz I.sz,fun b o e hb=>?_,nstk,I.stack,I.stkFree⟩
  ·have hm:y∈fv:=by
    rcases hy with hy | hy
    ·exact S.own hy (.inl rfl)
    ·exact S.own hy (.inr rfl)
   exact Option.isSome_iff_exists.mp (S.vis y hm).2.2
  ·obtain⟨f0,f1,f2,f3,f4,f5⟩:=hf b hb
   rcases f3 with z | z
   ·exact I.ok.noex b o e z
   ·exact absurd (Nat.lt_of_lt_of_le (Heap.lt_size e) (Nat.le_trans I.ok.bsz z)) (Nat.lt_irrefl _)
 refine⟨ok,rfl,I.bare,Un.kept hk,⟨_,hns,fun i y v e1 e2 e3=>?_⟩,fun y c h=>?_,I.hok.fresh (Nat.le_refl _),fun y c h=>I.freeC y c (S.cell_of h),fun p hp=>?_,I.hok.kept hk,?_⟩
 ·cases i with
  | zero=>have z:(some (none:Option V))=some (some v):=e2;cases z
  | succ i=>
   have hy:fv[i]?=some y:=by simpa [A4]using e1
   obtain⟨j,hj,hN⟩:=Gi S.sl hy
   have hv:σ[j]?=some (some v):=by
    have z:(GZ js σ)[i]?=some (some v):=by simpa using e2
    unfold GZ at z
    rw[List.getElem?_map,hj]at z
    have z':(σ[j]?).getD none=some v:=Option.some.inj z
    cases q:σ[j]? with
    | none=>rw[q]at z';cases z'
    | some o=>rw[q]at z';exact congrArg some z'
   obtain⟨hfree,hcell,hsome⟩:=S.vis y (List.mem_of_getElem? hy)
   obtain⟨m,hn,hl⟩:=I.loc
   obtain⟨u,ru,look⟩:=hl j y v hN hv (.inr (.inl hcell))
   refine⟨u,ru,.inr ⟨.inl (CO I.ok.kind hfree hcell),?_⟩⟩
   obtain⟨c',hc'⟩:=Option.isSome_iff_exists.mp hsome
   rcases look with⟨k,_⟩ | ⟨_,c,ec,z⟩
   ·have k':X.env.scope.names.lookup y=some .local:=k
    rw[hcell]at k';cases k'
   ·have e:=S.cell_of hc'
    rw[ec]at e
    cases e
    exact⟨_,hc',by obtain⟨o,ho,hd⟩:=z;exact⟨o,hk _ _ ho,hd⟩⟩
 ·obtain⟨v,o,ho,hd⟩:=I.cell y c (S.cell_of h)
  exact⟨v,o,hk _ _ ho,hd⟩
 ·have hp':p∈X.pn++pins:=by simpa [A4]using hp
  obtain⟨e,n,ne,nf,d⟩:=I.pin p hp'
  refine⟨hk _ _ e,n,Nat.ne_of_lt (Heap.lt_size e),fun z=>?_,d⟩
  rcases List.mem_cons.mp (I.stkSub p.1 z)with q | q
  ·exact ne q
  ·exact nf q
 ·show(none::GZ js σ).length=(x::fv).length
  have:fv.length=js.length:=Paired.length S.sl
  simp[GZ,this]
theorem JZ {pins pins':List (Addr×Obj)}{σ σ':St}{H H':Hp}{s s':Shared}{h'':Heap}{ex:List Addr}{N:List Str}{pn:List (Addr×Obj)}(I:Ao X pins σ H s)(hf:∀ b∈ex,Fd X pins H b)
 (J:Ao (A4 X scope cl s.heap.objs.size N s H ex pn) pins' σ' H' s') (sb:Heap.SameBut s.heap.objs.size s'.heap h''):Ao X pins σ H' { s' with heap:=h'' }:=by
 have neC:∀ b o,s.heap.get? b=some o→b≠s.heap.objs.size:=fun b o e=>Nat.ne_of_lt (Heap.lt_size e)
 have u:Un (Iz X.stack) ex H H' s.heap s'.heap:=J.base
 have fr:H' s.heap.objs.size=none:=J.free
 refine I.call' (s':={ s' with heap:=h'' }) (ch:=ex) J.os ⟨fun b o e n hb hx=>?_,fun b o e n hb hx=>?_,u.free,fun b o e hx=>?_,u.tups,u.frzs,u.tbls⟩ (fun b o e=>?_) J.bare (fun b hb=>?_)
 ·exact(sb.2 b (neC b o e)).trans (u.keep b o e n hb hx)
 ·obtain⟨sl,q⟩:=u.slot b o e n hb hx
  exact⟨sl,(sb.2 b (neC b o e)).trans q⟩
 ·obtain⟨o',q⟩:=u.there b o e hx
  exact⟨o',(sb.2 b (neC b o e)).trans q⟩
 ·refine(J.hok b o e).stay (fun c v hc q=>(sb.2 c ?_).trans q) (fun _ q=>q) fun _ _ q=>q
  rcases hc with rfl | hc
  ·intro z;rw[z,fr]at e;cases e
  ·intro z;rw[z,fr]at hc;cases hc
 ·obtain⟨f0,f1,f2,f3,f4,f5⟩:=hf b hb
  exact⟨f3,f1,f4,f5⟩
end
def PF (X:Cx)(ifs:List Expr)(t:TT):Prop:=
 ∀(pins:List (Addr×Obj)) (s:Shared) (σ:St) (H:Hp) (Q:Bool→Hp→Prop),Ao X pins σ H s→t σ H Q→
  wpAny (model X.prog X.w) X.A (forIn ifs true fun c r=>if r=true then do let ok ← isTrue c X.env (eval c X.env);pure (ForInStep.yield ok)else pure (ForInStep.yield r)) (TP X pins σ Q) X.xe s
def Tz:TT:=fun _ H Q=>Q true H
theorem CI {X:Cx}:PF X [] Tz:=by
 intro pins s σ H Q I h
 rw[List.forIn_nil]
 exact wpAny_pure ⟨H,I,h⟩
theorem T1 {X:Cx}{c:Expr}{t:TT}(h:PT X c t):PF X [c] t:=by
 intro pins s σ H Q I hq
 rw[List.forIn_cons]
 refine wpAny_bind ?_
 rw[if_pos rfl]
 refine wpAny_bind (BZ (h pins s σ H Q I hq) fun b s1 q=>wpAny_pure ?_)
 dsimp only
 rw[List.forIn_nil]
 exact wpAny_pure q
section
variable {prog:Program}{w:World}{A:Around}{R:Result→Shared→Prop}{s:Shared}
theorem Fp {elt target iter:Expr}{ifs:List Expr}{scope:Scope}{pos:Pos}{it acc:Value}{env:Env}(I:Nat→Shared→Prop)
 (turn:∀ n s,I n s→wpAny (model prog w) A (pyNext it) (fun r s₁=>match r with
  | none=>R (.ok .next) s₁
  | some v=>wpAny (model prog w) A (letOwnedTupleGo target it v) (fun _ s₁'=>wpAny (model prog w) A (assign target env v) (fun _ s₂=>
   wpAny (model prog w) A (forIn ifs true fun c r=>if r=true then do let ok ← isTrue c env (eval c env);pure (ForInStep.yield ok)else pure (ForInStep.yield r)) (fun ok s₃=>
    if ok=true then wpAny (model prog w) A (eval elt env) (fun x s₄=>
     wpAny (model prog w) A (call (.builtin "list.append") [acc,x]) (fun _ s₅=>∃ m,m<n∧I m s₅) (fun _ _=>False) s₄) (fun _ _=>False) s₃
    else ∃ m,m<n∧I m s₃) (fun _ _=>False) s₂) (fun _ _=>False) s₁') (fun _ _=>False) s₁) (fun _ _=>False) s)
 (n:Nat) (h:I n s):
 codeAny (model prog w) A (.compLoop (.ListComp elt [⟨target,iter,ifs,0⟩] scope pos) 0 it acc env) R s:=by
 refine codeAny_loop rfl I (fun n s hI=>?_) n h
 show wpAny _ A ((compTurn (.ListComp elt [⟨target,iter,ifs,0⟩] scope pos) 0 it acc env).onRaise (fun x=>do noteFrame x env;theTreesLotGoes x)) _ _ s
 refine wpAny_noted ?_
 rw[compTurn_list]
 refine wpAny_bind (wpAny_standAt (wpAny_bind (wpAny_mono (turn n s hI) (fun r s₁ h₁=>?_) fun _ _ h'=>h'.elim)))
 cases r with
 | none=>exact wpAny_pure h₁
 | some v=>
  refine wpAny_bind (wpAny_mono h₁ (fun _ s₁' h₁'=>?_) fun _ _ h'=>h'.elim)
  refine wpAny_bind (wpAny_mono h₁' (fun _ s₂ h₂=>wpAny_bind (wpAny_mono h₂ (fun ok s₃ h₃=>?_) fun _ _ h'=>h'.elim)) fun _ _ h'=>h'.elim)
  cases ok with
  | false=>exact wpAny_pure ⟨rfl,h₃⟩
  | true=>
   exact wpAny_bind (wpAny_bind (wpAny_mono h₃ (fun x s₄ h₄=>wpAny_bind (wpAny_mono h₄ (fun _ s₅ h₅=>wpAny_pure (wpAny_pure ⟨rfl,h₅⟩)) fun _ _ h'=>h'.elim)) fun _ _ h'=>h'.elim))
end
def QE (wi:TI)(js:List Nat)(tt:TT)(te:TE):TE:=fun σ H Q=>wi σ H fun J H1=>∀ D,H1 D=none→∃ W:Nat→Nat→Hp→Prop,(∃ m,W 0 m (upd H1 D (.lst [])))∧∀ i m H,W i m H→
 (J.stop i H∧Q (.ref D) H)∨(J.go i H∧∀ x H',J.yld i H x H'→tt (some x::GZ js σ) H' fun b H2=>
  if b=true then te (some x::GZ js σ) H2 fun v H3=>∃ xs,H3 D=some (.lst xs)∧xs.length<sizeLine∧∃ m',m'<m∧W (i+1) m' (upd H3 D (.lst (xs++[v])))
  else ∃ m',m'<m∧W (i+1) m' H2)
theorem Bu {X:Cx}{elt iter:Expr}{ifs:List Expr}{x:Str}{px pos:Pos}{scope:Scope}{cl:List (Str×Addr)}{fv:List Str}{js:List Nat}{wi:TI}{tt:TT}{te:TE}(hc:X.calm=true)(hclos:closureFor scope X.env=pure cl)
 (S:CN X scope cl x fv js) (hi:PI X (.Name x px) iter wi)
 (ht:∀(C:Addr) (s₀:Shared) (H₀:Hp) (ex:List Addr) (pn:List (Addr×Obj)),PF (A4 X scope cl C (x::fv) s₀ H₀ ex pn) ifs tt)
 (he:∀(C:Addr) (s₀:Shared) (H₀:Hp) (ex:List Addr) (pn:List (Addr×Obj)),PE (A4 X scope cl C (x::fv) s₀ H₀ ex pn) elt te)
 (hs:∀ x,foldedSetIterable iter X.env x=pure x:=by intro _;rfl):PE X (.ListComp elt [⟨.Name x px,iter,ifs,0⟩] scope pos) (QE wi js tt te):=by
 intro pins s σ H Q I h
 rw[eval_ListComp]
 refine wpAny_comprehension_free (use:=none) rfl hs hclos S.kind S.nm (BZ (hi pins s σ H _ I h) fun v s1 h1=>BZ h1 fun itv s2 h2=>?_)
 obtain⟨it,fp,tn,J,H2,e,I2,T,st2,f2,hW⟩:=h2
 subst e
 have hD:H2 s2.heap.objs.size=none:=I2.hok.fresh (Nat.le_refl _)
 obtain⟨W,⟨m0,w0⟩,turn⟩:=hW s2.heap.objs.size hD
 have lt2:∀ b∈fp,b<s2.heap.objs.size:=fun b hb=>by
  obtain⟨o,e,_⟩:=T.obj _ _ st2 b hb
  exact Heap.lt_size e
 refine wpAny_newObj_type (wpAny_newFunctionEnv S.nc (by intro y hy;simp at hy) (fun h₁ hns₁ hsb₁=>?_) S.kind)
 dsimp only at hns₁ hsb₁ ⊢
 have I3:Ao X pins σ (upd H2 s2.heap.objs.size (.lst [])) { s2 with heap:=s2.heap.push { cls:=.type "list",dict:=none,data:=.seq ([]:List Value).toArray } }:=I2.lnew (t':=s2.toks) .nil (Nat.zero_le _)
 generalize hS3:({ s2 with heap:=s2.heap.push { cls:=.type "list",dict:=none,data:=.seq ([]:List Value).toArray } }:Shared)=s3 at I3
 have eh:s3.heap=s2.heap.push { cls:=.type "list",dict:=none,data:=.seq ([]:List Value).toArray }:=by rw[← hS3]
 rw[← eh]at hns₁ hsb₁ ⊢
 have hsz:s3.heap.objs.size=s2.heap.objs.size+1:=by rw[eh,Heap.size_push]
 have k23:∀ b o,s2.heap.get? b=some o→s3.heap.get? b=some o:=fun b o e=>by rw[eh];exact Heap.get?_push_of_some _ e
 have k34:∀ b o,s3.heap.get? b=some o→h₁.get? b=some o:=fun b o e=>hsb₁.extBut b o (Nat.ne_of_lt (Heap.lt_size e)) (Heap.get?_push_of_some _ e)
 have f3:∀ b∈fp,Fd X pins (upd H2 s2.heap.objs.size (.lst [])) b:=fun b hb=>⟨by rw[AX (Nat.ne_of_lt (lt2 b hb))];exact(f2 b hb).1,(f2 b hb).2⟩
 have lt3:∀ b∈fp,b<s3.heap.objs.size:=fun b hb=>by rw[hsz];exact Nat.lt_succ_of_lt (lt2 b hb)
 have I4:=JY (tk:=s3.toks) S I3 f3 lt3 (h₁:=h₁) (by simpa using hns₁) k34
 generalize hY:A4 X scope cl s3.heap.objs.size (x::fv) s3 (upd H2 s2.heap.objs.size (.lst [])) fp (X.pn++pins)=Y at I4
 have hYp:Y.prog=X.prog:=by rw[← hY];rfl
 have hYw:Y.w=X.w:=by rw[← hY];rfl
 have hYK:Y.K=X.K:=by rw[← hY];rfl
 have hYA:Y.A=X.A:=by rw[← hY];rfl
 have hYc:Y.calm=true:=by rw[← hY];exact hc
 have hYe:Y.env=compEnvC scope cl s3.heap.objs.size X.env:=by rw[← hY];rfl
 have hYx:Y.xe=fun _ _=>False:=by rw[← hY];rfl
 have hYN:Y.N=x::fv:=by rw[← hY];rfl
 have heY:PE Y elt te:=by rw[← hY];exact he _ _ _ _ _
 have htY:PF Y ifs tt:=by rw[← hY];exact ht _ _ _ _ _
 have stat:∀{H':Hp},(∀ b∈fp,H' b=none)→∀ b∈fp,Fd Y [] H' b:=fun {H'} hn b hb=>by
  obtain⟨g0,g1,g2,g3,g4,g5⟩:=f3 b hb
  rw[← hY]
  refine⟨hn b hb,Nat.ne_of_lt (lt3 b hb),fun z=>?_,.inl hb,fun y c e=>g4 y c (S.cell_of e),fun p hp=>g5 p (by simpa [A4]using hp)⟩
  rcases List.mem_cons.mp (I3.stkSub b z)with q | q
  ·exact g1 q
  ·exact g2 q
 have fin:∀{i:Nat} {m:Nat} {σ':St} {H':Hp} {s':Shared},Ao Y [] σ' H' s'→Q (.ref s2.heap.objs.size) H'→compPost (model X.prog X.w) X.A X.xe none (EP X pins σ Q) (.ref s2.heap.objs.size) s3.heap.objs.size (.ok .next) s':=fun {i m σ' H' s'} J q=>by
  obtain⟨mm,hn,_⟩:=J.loc
  rw[← hY]at J hn
  refine⟨mm,hn,fun h'' sb=>?_⟩
  exact⟨.ref _,H',JZ I3 f3 J sb,rfl,q⟩
 have st4:∀ s4:Shared,s4={ s3 with heap:=h₁,toks:=s3.toks }→tn 0 s4.heap:=fun s4 e=>by
  subst e
  exact T.keep _ _ _ st2 fun b hb o e=>k34 b o (k23 b o e)
 have loop:codeAny (model X.prog X.w) X.A (.compLoop (.ListComp elt [⟨.Name x px,iter,ifs,0⟩] scope pos) 0 (.ref it) (.ref s2.heap.objs.size) (compEnvC scope cl s3.heap.objs.size X.env))
  (compPost (model X.prog X.w) X.A X.xe none (EP X pins σ Q) (.ref s2.heap.objs.size) s3.heap.objs.size) { s3 with heap:=h₁,toks:=s3.toks }:=by
  refine Fp (fun n s'=>∃(i:Nat) (o:Option V) (H':Hp),Ao Y [] (o::GZ js σ) H' s'∧tn i s'.heap∧(∀ b∈fp,H' b=none)∧W i n H') ?_ m0 ⟨0,none,_,I4,st4 _ rfl,fun b hb=>(f3 b hb).1,w0⟩
  rintro n s5 ⟨i,o,H5,I5,st5,fr5,w5⟩
  rcases turn i n H5 w5 with⟨stop,q⟩ | ⟨go,step⟩
  ·have r:=T.done Y hYp hYw hYK hYc i [] s5 _ H5 (fun _ _=>False) I5 (stat fr5) st5 stop
   rw[hYA]at r
   refine BZ r fun r s6 zq=>?_
   obtain⟨hr,I6⟩:=zq
   subst hr
   exact fin (i:=i) (m:=n) I6 q
  ·have r:=T.item Y hYp hYw hYK hYc i [] s5 _ H5 (fun _ _=>False) I5 (stat fr5) st5 go
   rw[hYA]at r
   refine BZ r fun r s6 zq=>?_
   obtain⟨u,hr,h6⟩:=zq
   subst hr
   refine BZ h6 fun _ s7 zq=>?_
   obtain⟨y,H7,I7,r7,y7,st7,fr7⟩:=zq
   have I7':=I7.pinned (stat fr7) (T.obj _ _ st7)
   have hname:PG Y (.Name x px) (Ew 0):=BA (X:=Y) (i:=0) (by rw[hYN];exact S.nd) (by rw[hYN];rfl) (.inl (by rw[hYe];exact lookup_relabel_local S.hx)) (.inr (by rw[hYe];exact lookup_relabel_local S.hx))
   have r8:=hname _ s7 _ H7 y u (fun σ' H'=>σ'=some y::GZ js σ∧H'=H7) I7' r7 ⟨rfl,rfl⟩
   rw[hYp,hYw,hYA,hYe,hYx]at r8
   refine BZ r8 fun _ s8 zq=>?_
   obtain⟨σ8,H8,I8,e1,e2⟩:=zq
   subst e1 e2
   have r9:=htY _ s8 _ _ _ I8 (step y _ y7)
   rw[hYp,hYw,hYA,hYe,hYx]at r9
   refine BZ r9 fun b s9 zq=>?_
   obtain⟨H9,I9,q9⟩:=zq
   have again:∀{σ':St} {H':Hp} {s':Shared},Ao Y ([]++Gf fp s7.heap) (some y::GZ js σ) H' s'→(∃ m',m'<n∧W (i+1) m' H')→
    ∃ m,m<n∧∃(i:Nat) (o:Option V) (H':Hp),Ao Y [] (o::GZ js σ) H' s'∧tn i s'.heap∧(∀ b∈fp,H' b=none)∧W i m H':=fun {σ' H' s'} K7 ⟨m',hm,w7⟩=>by
    refine⟨m',hm,i+1,some y,H',K7.unpinned,T.keep _ _ _ st7 fun b hb o e=>(K7.pin (b,o) (List.mem_append_right _ (List.mem_append_right _ (CG hb e)))).1,fun b hb=>?_,w7⟩
    obtain⟨o,e,d⟩:=T.obj _ _ st7 b hb
    exact(K7.pin (b,o) (List.mem_append_right _ (List.mem_append_right _ (CG hb e)))).2.1
   cases b with
   | false=>
    rw[if_neg Bool.false_ne_true]at q9 ⊢
    exact again (σ':=[]) I9 q9
   | true=>
    rw[if_pos rfl]at q9 ⊢
    have r10:=heY _ s9 _ _ _ I9 q9
    rw[hYp,hYw,hYA,hYe,hYx]at r10
    refine BZ r10 fun v s10 zq=>?_
    obtain⟨y10,H10,I10,ry,xs,hxs,hlen,m',hm,w10⟩:=zq
    have r11:=B7 (X:=Y) _ s10 _ H10 (.ref s2.heap.objs.size) [y10] (.ref s2.heap.objs.size) [v] (fun _ H'=>H'=upd H10 s2.heap.objs.size (.lst (xs++[y10]))) I10 rfl (.cons ry .nil) ⟨_,xs,y10,rfl,rfl,hxs,hlen,rfl⟩
    rw[hYp,hYw,hYA,hYx]at r11
    refine BZ r11 fun _ s11 zq=>?_
    obtain⟨_,H11,I11,_,e11⟩:=zq
    subst e11
    exact again (σ':=[]) I11 ⟨m',hm,w10⟩
 have loop':∀ s4:Shared,s4={ s3 with heap:=h₁,toks:=s3.toks }→codeAny (model X.prog X.w) X.A (.compLoop (.ListComp elt [⟨.Name x px,iter,ifs,0⟩] scope pos) 0 (.ref it) (.ref s2.heap.objs.size) (compEnvC scope cl s3.heap.objs.size X.env))
  (compPost (model X.prog X.w) X.A X.xe none (EP X pins σ Q) (.ref s2.heap.objs.size) s3.heap.objs.size) s4:=fun s4 e=>by subst e;exact loop
 have e4:∀ t,t=s3.toks→({ s3 with heap:=h₁,toks:=t }:Shared)={ s3 with heap:=h₁,toks:=s3.toks }:=fun t e=>by rw[e]
 have fin4:∀ s4:Shared,s4={ s3 with heap:=h₁,toks:=s3.toks }→codeAny (model X.prog X.w) X.A (.compStart (.ListComp elt [⟨.Name x px,iter,ifs,0⟩] scope pos) 0 (.ref it) (.ref s2.heap.objs.size) (compEnvC scope cl s3.heap.objs.size X.env))
  (compPost (model X.prog X.w) X.A X.xe none (EP X pins σ Q) (.ref s2.heap.objs.size) s3.heap.objs.size) s4:=fun s4 e=>
  codeAny_compStart_list (loop' s4 e) (T.self X.A 0 s4 _ _ (st4 s4 e) (loop' s4 e))
 have es:({ s2 with heap:=s2.heap.push { cls:=.type "list",dict:=none,data:=.seq ([]:List Value).toArray } }:Shared)=s3:=hS3
 refine fin4 _ ?_
 rw[← es]
 rfl
structure YT (P:Program)(w:World)(l:List Env)(H H':Hp)(h h' B:Heap):Prop where
 inB:∀ b o,h.get? b=some o→b∉Iz l→∃ o1,B.get? b=some o1∧(H b=none→o1=o)
 trk:∀ b u,H' b=some u→∃ o,B.get? b=some o
 st:B.StaysIn h'
 fr:∀ b∈Iz l,H b=none∧∃ o,h.get? b=some o∧∀ vs,o.data≠.fields vs
 slot:∀ b o,h.get? b=some o→b∈Iz l→∃ sl,h'.get? b=some { o with slots:=sl }
 free:∀ b o,h.get? b=some o→H b=none→H' b=none
 tups:∀ b xs,H b=some (.tup xs)→H' b=some (.tup xs)
 frzs:∀ b o u,H b=some (.frz o u)→H' b=some (.frz o u)
 tbls:∀ b ps,H b=some (.tbl ps)→∃ more,H' b=some (.tbl (ps++more))
 hok:GQ P w H' h'
section
variable {P:Program}{w:World}{K:PySem.W.Frag}{mg:Str→Option Value}{base:Heap}{N:List Str}{qual:Str}{scope:Scope}{f:Addr}{cd:Value}{A:Around}{outer:List Env}{s:Shared}{H:Hp}{E:XK}
structure ZS (K:PySem.W.Frag)(x:Str)(C:Addr):Prop where
 ns:PySem.W.nsIn K mainGlobals x=some (some (.ref C))
 ex:PySem.W.excIn K C [.type "ValueError",.type "Exception",.type "BaseException",.type "object"] "ValueError.__new__"=true
end
section
open Builtin Builtin.ObjectAttr Builtin.Getset_descriptor
variable {prog:Program}{w:World}{A:Around}{E:Value→Shared→Prop}{s:Shared}{K:PySem.W.Frag}{a C:Addr}{o:Obj}
structure ZT (K:PySem.W.Frag)(C:Addr):Prop where
 cl:(PySem.W.clsIn K C).isSome=true
 ga:PySem.W.findIn K (.ref C) "__getattribute__"=some (some (.builtin "BaseException.__getattribute__"))
 gh:PySem.W.findIn K (.ref C) "__getattr__"=some none
 at_:PySem.W.findIn K (.ref C) "__class__"=some (some (.builtin "object.__class__"))
 ob:PySem.W.mroIn K C (.type "object")=some true
 be:PySem.W.mroIn K C (.type "BaseException")=some true
end
section
variable {X:Cx}{es:List Expr}{te:TE}{t:TA}{pos:Pos}
theorem B4 {a0:List Expr}{a1:Nat}(ha:PE X (Expr.Tuple a0 a1 pos) te)(hr:PA X es t):PA X ((Expr.Tuple a0 a1 pos)::es) (Ea te t):=CY ha hr rfl
theorem QF {a0:List Expr}(ha:PE X (Expr.List a0 pos) te)(hr:PA X es t):PA X ((Expr.List a0 pos)::es) (Ea te t):=CY ha hr rfl
theorem AV {a0:Expr}{a1:Operator}{a2:Expr}(ha:PE X (Expr.BinOp a0 a1 a2 pos) te)(hr:PA X es t):PA X ((Expr.BinOp a0 a1 a2 pos)::es) (Ea te t):=CY ha hr rfl
theorem Ai {a0:Expr}{a1:List Expr}{a2:List Keyword}(ha:PE X (Expr.Call a0 a1 a2 pos) te)(hr:PA X es t):PA X ((Expr.Call a0 a1 a2 pos)::es) (Ea te t):=CY ha hr rfl
theorem AA {a0:Str}(ha:PE X (Expr.Name a0 pos) te)(hr:PA X es t):PA X ((Expr.Name a0 pos)::es) (Ea te t):=CY ha hr rfl
theorem AG {a0:Const}{a1:Nat}(ha:PE X (Expr.Constant a0 a1 pos) te)(hr:PA X es t):PA X ((Expr.Constant a0 a1 pos)::es) (Ea te t):=CY ha hr rfl
theorem AS {a0:Expr}{a1:Expr}(ha:PE X (Expr.Subscript a0 a1 pos) te)(hr:PA X es t):PA X ((Expr.Subscript a0 a1 pos)::es) (Ea te t):=CY ha hr rfl
theorem QG {a0:UnaryOp}{a1:Expr}(ha:PE X (Expr.UnaryOp a0 a1 pos) te)(hr:PA X es t):PA X ((Expr.UnaryOp a0 a1 pos)::es) (Ea te t):=CY ha hr rfl
theorem CU {a0:Expr}{a1:List CmpOp}{a2:List Expr}(ha:PE X (Expr.Compare a0 a1 a2 pos) te)(hr:PA X es t):PA X ((Expr.Compare a0 a1 a2 pos)::es) (Ea te t):=CY ha hr rfl
theorem QH {a0:Expr}{a1:Expr}{a2:Expr}(ha:PE X (Expr.IfExp a0 a1 a2 pos) te)(hr:PA X es t):PA X ((Expr.IfExp a0 a1 a2 pos)::es) (Ea te t):=CY ha hr rfl
theorem CJ {a0:Expr}{a1:List Comprehension}{a2:Scope}(ha:PE X (Expr.ListComp a0 a1 a2 pos) te)(hr:PA X es t):PA X ((Expr.ListComp a0 a1 a2 pos)::es) (Ea te t):=CY ha hr rfl
end
def Vo (z:Str):It:=⟨fun i _=>i<z.cps.size,fun i H x H'=>H'=H∧∃ c,z.cps[i]?=some c∧x=.str ⟨#[c]⟩,fun i _=>i=z.cps.size⟩
theorem MK {P:Program}{w:World}{K:PySem.W.Frag}{tg:Expr}(it:Addr)(x:Str)(t:Tok)(ty:String)
 (hW:∀ A':Around,A'.handled=none→Walks P w A' it [it] [it] x.cps.size (SignAt x) (fun i h=>h.IsStrIter it ty x t i))
 (hn:["enumerate","zip","dict_itemiterator","dict_reverseitemiterator","odict_iterator","itertools.zip_longest","itertools.pairwise"].contains ty=false)
 (hS:∀(A:Around) (i:Nat) (s:Shared) (Q:Value→Shared→Prop) (E:Value→Shared→Prop),s.heap.IsStrIter it ty x t i→Q (.ref it) s→wpAny (model P w) A (pyIter (.ref it)) Q E s):
 KJ P w K tg (Vo x) [it] it (fun i h=>h.IsStrIter it ty x t i) where
 mem:=by simp
 obj:=fun i h st b hb=>by
  have e:b=it:=by simpa using hb
  subst e
  obtain⟨o,e,c,d⟩:=st
  exact⟨o,e,fun v z=>by rw[d]at z;cases z⟩
 keep:=fun i h h' st k=>let ⟨o,e,r⟩:=st;⟨o,k it (by simp) o e,r⟩
 item:=by
  intro X hP hw hK hc i pins s σ H E I hf st hg
  subst hP hw hK
  obtain⟨f0,f1,f2,f3,f4,f5⟩:=hf it (by simp)
  refine(hW X.A (I.ok.hd hc)).item i s _ _ hg st fun v h' tk hv st' kk=>?_
  obtain⟨c,u,hcu,rfl⟩:=hv
  have I1:Ao X pins σ H { s with heap:=h',toks:=tk }:=I.turned (fun b o hb e=>kk b o (by simpa using hb) e) f0 f1 f3 f4 f5
  obtain⟨o,e,cc,d⟩:=id st'
  exact⟨_,rfl,Kn (s:={ s with heap:=h',toks:=tk }) e cc d hn ⟨.str ⟨#[c]⟩,H,I1,⟨u,rfl⟩,⟨rfl,c,hcu,rfl⟩,st',fun b hb=>(hf b hb).1⟩⟩
 done:=by
  intro X hP hw hK hc i pins s σ H E I hf st hg
  subst hP hw hK
  obtain⟨f0,f1,f2,f3,f4,f5⟩:=hf it (by simp)
  have hg:i=x.cps.size:=hg
  subst hg
  exact(hW X.A (I.ok.hd hc)).done s _ _ st fun h' tk kk=>⟨rfl,I.turned (fun b o hb e=>kk b o (by simpa using hb) e) f0 f1 f3 f4 f5⟩
 self:=fun A i s Q E st h=>hS A i s Q E st h
section
variable {X:Cx}{tg:Expr}
def YU (tl:TE):TI:=fun σ H R=>tl σ H fun x H1=>∃ z,x=.str z∧R (Vo z) H1
theorem QI {l:Expr}{tl:TE}(hl:PE X l tl):PI X tg l (YU tl):=by
 intro pins s σ H R I h
 refine BZ (hl pins s σ H _ I h) fun v s1 zq=>?_
 obtain⟨x,H1,I1,r1,q1⟩:=zq
 obtain⟨z,e,q⟩:=q1
 subst e
 obtain⟨t,rfl⟩:=r1
 have fp:∀ b∈[s1.heap.objs.size],Fd X pins H1 b:=fun b hb=>by
  have e:b=s1.heap.objs.size:=by simpa using hb
  subst e
  exact I1.fpOk (Nat.le_refl _) (I1.hok.fresh (Nat.le_refl _))
 cases ha:z.cps.all (·<128)
 ·refine wpAny_pyIter_wide ha ?_
  exact⟨s1.heap.objs.size,[s1.heap.objs.size],_,_,H1,rfl,I1.kept (t':=s1.toks) fun b o e=>Heap.get?_push_of_some _ e,
   MK _ z t "str_iterator" (fun A' hA=>Walks.strWide hA _ z t) (by decide) (fun A i s Q E st h=>wpAny_pyIter_striter_wide st h),⟨_,Heap.get?_push_size _ rfl,rfl,rfl⟩,fp,q⟩
 ·refine wpAny_pyIter_ascii ha ?_
  exact⟨s1.heap.objs.size,[s1.heap.objs.size],_,_,H1,rfl,I1.kept (t':=s1.toks) fun b o e=>Heap.get?_push_of_some _ e,
   MK _ z t "str_ascii_iterator" (fun A' hA=>Walks.strAscii hA _ z t) (by decide) (fun A i s Q E st h=>wpAny_pyIter_striter_ascii st h),⟨_,Heap.get?_push_size _ rfl,rfl,rfl⟩,fp,q⟩
end
theorem Fq:∀(bs:List Bool),(List.range bs.length).all (fun i=>bs.getD i true)=bs.all id
 | []=>rfl
 | b::bs=>by
  have ih:=Fq bs
  rw[List.length_cons,List.range_succ_eq_map,List.all_cons,List.all_map,List.all_cons]
  simp only[List.getD_cons_zero,id]
  rw[← ih]
  rfl
theorem A1.bools:∀{bs:List Bool} {us:List Value} {i:Nat} {v:Value},A1 (bs.map V.bl) us→us[i]?=some v→v=.bool (bs.getD i true)
 | [],_,_,_,.nil,e=>by simp at e
 | b::bs,_,0,_,.cons r _,e=>by
  have e':=Option.some.inj e
  subst e'
  exact r
 | b::bs,_,i+1,v,.cons _ t,e=>by
  have:=A1.bools (i:=i) (v:=v) t (by simpa using e)
  simpa using this
section
variable {X:Cx}
theorem Fr (hc:X.calm=true):Dw X (.builtin "all") (fun xs H Q=>∃(p:Addr) (bs:List Bool),xs=[.ref p]∧Ax X.K H p (bs.map V.bl)∧Q (.bl (bs.all id)) H):=by
 intro pins s σ H xs us Q I r h
 obtain⟨p,bs,rfl,hq,q⟩:=h
 obtain⟨u,rfl,rx⟩:=Fk r
 cases rx
 obtain⟨its,rv,pl,hz⟩:=I.list hq
 have hl:=rv.length
 rw[List.length_map]at hl
 have hlt:p<s.heap.objs.size:=by obtain⟨o,e,_⟩:=pl.isList;exact Heap.lt_size e
 have hne:p≠s.heap.objs.size:=Nat.ne_of_lt hlt
 refine call_all_walk (wpAny_pyIter_list pl.isList ⟨s.heap.objs.size,[s.heap.objs.size,p],[s.heap.objs.size],its.toArray.size,_,_,fun i=>bs.getD i true,rfl,
  Walks.list (A:=X.A.in1) (show X.A.in1.handled=none from I.ok.hd hc) s.heap.objs.size p hne its.toArray,⟨⟨_,Heap.get?_push_size _ rfl,rfl,rfl⟩,pl.isList.at fun o e=>Heap.get?_push_of_some _ e⟩,?_,fun h' tk kk=>?_⟩)
 ·intro i v s' Q' E' hP hQ
  have e:=A1.bools rv (show its[i]?=some v by simpa using hP)
  subst e
  exact wpAny_truthy_bool hQ
 ·have hsz:its.toArray.size=bs.length:=by rw[List.size_toArray,← hl]
  rw[hsz,Fq]
  exact⟨.bl _,H,I.kept fun b o e=>kk b o (by simp;exact Nat.ne_of_lt (Heap.lt_size e)) (Heap.get?_push_of_some _ e),rfl,q⟩
theorem Ft:bootBuiltins "all"=some (.builtin "all"):=by nofun
def PJ (X:Cx)(es:List Expr)(t:Str→TE):Prop:=
 ∀(acc:Str) (pins:List (Addr×Obj)) (s:Shared) (σ:St) (H:Hp) (Q:VK),Ao X pins σ H s→t acc σ H Q→wpAny (model X.prog X.w) X.A (joinParts acc (evalEach es X.env)) (EP X pins σ Q) X.xe s
def YV:Str→TE:=fun acc _ H Q=>acc.length≤sizeLine∧Q (.str acc) H
def YW (y:Str)(t:Str→TE):Str→TE:=fun acc σ H Q=>(acc++y).length≤sizeLine∧t (acc++y) σ H Q
def S1:V→Str→Prop
 | .str z,y=>y=z∧z.length≤sizeLine
 | .int i,y=>y=toString i∧i.natAbs.log2<1920
 | _,_=>False
def YX (te:TE)(t:Str→TE):Str→TE:=fun acc σ H Q=>te σ H fun x H1=>∃ y,S1 x y∧(acc++y).length≤sizeLine∧t (acc++y) σ H1 Q
theorem QJ:PJ X [] YV:=fun acc pins s σ H Q I h=>joinParts_nil ⟨.str acc,H,I.tok _,⟨_,rfl⟩,h.2⟩ h.1
theorem QK {y:Str}{k:Nat}{pos:Pos}{es:List Expr}{t:Str→TE}(h:PJ X es t):PJ X (.Constant (.str y) k pos::es) (YW y t):=by
 intro acc pins s σ H Q I hq
 refine joinParts_cons (Calls.Constant_str ⟨hq.1,?_⟩)
 exact h _ pins _ σ H Q (I.tok _) hq.2
theorem Ja {e:Expr}{te:TE}{pos:Pos}{es:List Expr}{t:Str→TE}(he:PE X e te)(h:PJ X es t):PJ X (.FormattedValue e (-1) none pos::es) (YX te t):=by
 intro acc pins s σ H Q I hq
 refine joinParts_cons (FormattedValue_plain (BZ (he pins s σ H _ I hq) fun v s1 zq=>?_))
 obtain⟨x,H1,I1,r1,y,f,hz,q⟩:=zq
 cases x with
 | str z=>
  obtain⟨tk,rfl⟩:=r1
  obtain⟨rfl,hl⟩:=f
  exact formatField_str (fun t' tk=>⟨hz,h _ pins _ σ H1 Q (I1.tok _) q⟩) hl
 | int i=>
  obtain⟨tk,rfl⟩:=r1
  obtain⟨rfl,hl⟩:=f
  exact wpAny_formatField_int hl ⟨hz,h _ pins _ σ H1 Q (I1.tok _) q⟩
 | _=>exact False.elim f
theorem K1 {v₁ v₂:Expr}{Bv:List Expr}{pos:Pos}{t:Str→TE}(h:PJ X (v₁::v₂::Bv) t):PE X (.JoinedStr (v₁::v₂::Bv) pos) (t Str.empty):=by
 intro pins s σ H Q I hq
 exact JoinedStr_many (h Str.empty pins s σ H Q I hq)
def Vp (te:TE):TE:=fun σ H Q=>te σ H fun x H1=>∃ y,S1 x y∧Q (.str y) H1
theorem NO {e:Expr}{te:TE}{pos pos':Pos}(he:PE X e te):PE X (.JoinedStr [.FormattedValue e (-1) none pos] pos') (Vp te):=by
 intro pins s σ H Q I hq
 refine JoinedStr_one (FormattedValue_plain (BZ (he pins s σ H _ I hq) fun v s1 zq=>?_))
 obtain⟨x,H1,I1,r1,y,f,q⟩:=zq
 cases x with
 | str z=>
  obtain⟨tk,rfl⟩:=r1
  obtain⟨rfl,hl⟩:=f
  exact formatField_str (fun t' tk=>⟨.str _,H1,I1.tok _,⟨_,rfl⟩,q⟩) hl
 | int i=>
  obtain⟨tk,rfl⟩:=r1
  obtain⟨rfl,hl⟩:=f
  exact wpAny_formatField_int hl ⟨.str _,H1,I1.tok _,⟨_,rfl⟩,q⟩
 | _=>exact False.elim f
theorem Dn {scope:Scope}{cl:List (Str×Addr)}{C:Addr}{N:List Str}{s₀:Shared}{H₀:Hp}{ex:List Addr}{pn:List (Addr×Obj)}:VJ (A4 X scope cl C N s₀ H₀ ex pn) (Tt X.K):=AO
def YY (K:PySem.W.Frag):R2:=fun x y H Q=>∃ a b xs ys,x=.ref a∧y=.ref b∧Ax K H a xs∧Ax K H b ys∧xs.all Bl=true∧ys.all Bl=true∧Q (.bl (!E9 xs ys)) H
theorem T2 (hu:X.A.units<cLine):GL X (compareOp .NotEq) (YY X.K):=by
 intro pins s σ H x y v u Q I rx ry h
 obtain⟨a,b,xs,ys,rfl,rfl,ha,hb,f1,f2,q⟩:=h
 cases rx
 cases ry
 obtain⟨its,r1,p1,_⟩:=I.list ha
 obtain⟨its2,r2,p2,_⟩:=I.list hb
 have l1:=r1.length
 have l2:=r2.length
 have hv:=FA xs ys
 by_cases hs:xs.length=ys.length
 ·have hsz:its.toArray.size=its2.toArray.size:=by rw[List.size_toArray,List.size_toArray];omega
  refine SeqAt.RcNeAt.lists (e:=FW xs ys) p1.isList p2.isList hsz hu (JX (pins:=pins) (σ:=σ) (H:=H) r1 r2 f1 f2) X.prog X.w X.xe _ ⟨.bl _,H,I,rfl,?_⟩
  have e:min xs.length ys.length=xs.length:=by omega
  have e2:(xs.length==ys.length)=true:=by simp[hs]
  rw[e,e2,Bool.and_true]at hv
  rw[List.size_toArray,← l1,hv]
  exact q
 ·have hne:(its.toArray.size != its2.toArray.size)=true:=by
   rw[List.size_toArray,List.size_toArray]
   simp;omega
  refine SeqAt.RcNeAt.lists_lengths p1.isList p2.isList hne hu X.prog X.w X.xe _ ⟨.bl true,H,I,rfl,?_⟩
  have e2:(xs.length==ys.length)=false:=by simp[hs]
  rw[e2,Bool.and_false]at hv
  rw[← hv]at q
  exact q
end
def R6 {α:Type}(f:α→α→Bool):List α→List α→Bool
 | [],[]=>true
 | x::xs,y::ys=>f x y&&R6 f xs ys
 | _,_=>false
def Ga {α:Type}(f:α→α→Bool)(xs ys:List α)(j:Nat):Bool:=match xs[j]?,ys[j]? with
 | some x,some y=>f x y
 | _,_=>false
theorem K2 {α:Type}(f:α→α→Bool):∀(xs ys:List α),((List.range (min xs.length ys.length)).all (Ga f xs ys)&&xs.length==ys.length)=R6 f xs ys
 | [],[]=>by simp[R6]
 | [],y::ys=>by simp[R6]
 | x::xs,[]=>by simp[R6]
 | x::xs,y::ys=>by
  have ih:=K2 f xs ys
  have hm:min (x::xs).length (y::ys).length=min xs.length ys.length+1:=by simp only[List.length_cons];omega
  rw[hm,Fo]
  have h2:(fun i=>Ga f (x::xs) (y::ys) (i+1))=Ga f xs ys:=by funext i;simp[Ga]
  have h3:((x::xs).length==(y::ys).length)=(xs.length==ys.length):=by simp
  have h4:Ga f (x::xs) (y::ys) 0=f x y:=by simp[Ga]
  rw[h2,h3,h4,Bool.and_assoc,ih,R6]
inductive VL where
 | fl (x:V) | tp (xs:List V)
def ML (H:Hp):V→VL→Prop
 | x,.fl y=>x=y∧Bl y=true
 | x,.tp xs=>∃ q,x=.ref q∧H q=some (.tup xs)∧xs.all Bl=true
def IT:VL→VL→Bool
 | .fl x,.fl y=>JU x y
 | .tp xs,.tp ys=>E9 xs ys
 | _,_=>false
section
variable {X:Cx}{pins:List (Addr×Obj)}{σ:St}{H:Hp}{s:Shared}
theorem O7 (I:Ao X pins σ H s)(hu:X.A.units+1<cLine){x y:V}{u v:Value}{i j:VL}(rx:A2 x u)(ry:A2 y v)(hx:ML H x i)(hy:ML H y j):SeqAt.EqAt X.A.in1 s u v (IT i j):=by
 have hu1:X.A.in1.units<cLine:=hu
 cases i with
 | fl a=>
  obtain⟨rfl,fa⟩:=hx
  cases j with
  | fl b=>
   obtain⟨rfl,fb⟩:=hy
   exact LR rx ry fa fb
  | tp ys=>
   obtain⟨q,rfl,hq,_⟩:=hy
   cases ry
   obtain⟨its,_,p,_⟩:=I.tuple (Af.of hq)
   cases x with
   | non=>cases rx;exact SeqAt.EqAt.none_tuple p hu1
   | bl b=>cases rx;exact SeqAt.EqAt.bool_tuple b p hu1
   | int b=>obtain⟨t,rfl⟩:=rx;exact SeqAt.EqAt.int_tuple b t p hu1
   | str b=>obtain⟨t,rfl⟩:=rx;exact SeqAt.EqAt.str_tuple b t p hu1
   | _=>exact absurd (show false=true from fa) Bool.false_ne_true
 | tp xs=>
  obtain⟨q,rfl,hq,fx⟩:=hx
  cases rx
  obtain⟨its,r1,p,_⟩:=I.tuple (Af.of hq)
  cases j with
  | fl b=>
   obtain⟨rfl,fb⟩:=hy
   cases y with
   | non=>cases ry;exact SeqAt.EqAt.tuple_none p hu1
   | bl b=>cases ry;exact SeqAt.EqAt.tuple_bool b p hu1
   | int b=>obtain⟨t,rfl⟩:=ry;exact SeqAt.EqAt.tuple_int b t p hu1
   | str b=>obtain⟨t,rfl⟩:=ry;exact SeqAt.EqAt.tuple_str b t p hu1
   | _=>exact absurd (show false=true from fb) Bool.false_ne_true
  | tp ys=>
   obtain⟨q2,rfl,hq2,fy⟩:=hy
   cases ry
   obtain⟨its2,r2,p2,_⟩:=I.tuple (Af.of hq2)
   by_cases e:q=q2
   ·subst e
    rw[hq]at hq2
    cases hq2
    have hs:E9 xs xs=true:=by
     have:∀ l:List V,l.all Bl=true→E9 l l=true:=by
      intro l
      induction l with
      | nil=>intro _;rfl
      | cons a r ih=>
       intro f
       rw[List.all_cons,Bool.and_eq_true]at f
       have ea:JU a a=true:=by
        cases a <;> first | rfl | exact absurd (show false=true from f.1) Bool.false_ne_true | simp[JU]
       show(JU a a&&E9 r r)=true
       rw[ea,ih f.2];rfl
     exact this xs fx
    show SeqAt.EqAt _ _ _ _ (E9 xs xs)
    rw[hs]
    exact SeqAt.EqAt.same _
   ·have rc:=SeqAt.RcAt.tuples (A:=X.A.in1) (s:=s) (e:=FW xs ys) (show s.heap.IsTuple q its.toArray from p) (show s.heap.IsTuple q2 its2.toArray from p2) hu1 (JX (pins:=pins) (σ:=σ) (H:=H) r1 r2 fx fy)
    rw[List.size_toArray,List.size_toArray,← r1.length,← r2.length,FA]at rc
    exact SeqAt.EqAt.of_refs e rc
def YZ (neg:Bool):R2:=fun x y H Q=>∃ a b xs ys is js,x=.ref a∧y=.ref b∧H a=some (.tup xs)∧H b=some (.tup ys)∧Paired (ML H) xs is∧Paired (ML H) ys js∧Q (.bl (if neg then !R6 IT is js else R6 IT is js)) H
theorem Ar {α β:Type}{F:α→β→Prop}:∀{xs:List α} {ys:List β},Paired F xs ys→∀{j:Nat} {x:α},xs[j]?=some x→∃ y,ys[j]?=some y∧F x y:=by
 intro A B h
 induction h with
 | nil=>
  intro j x e
  simp at e
 | cons r t ih=>
  intro j x e
  cases j with
  | zero=>
   simp at e
   subst e
   exact⟨_,rfl,r⟩
  | succ j=>
   obtain⟨y,h1,h2⟩:=ih (by simpa using e)
   exact⟨y,by simpa using h1,h2⟩
theorem NP (I:Ao X pins σ H s)(hu:X.A.units+1<cLine){xs ys:List V}{is js:List VL}{us vs:List Value}(r1:A1 xs us)(r2:A1 ys vs)(hx:Paired (ML H) xs is)(hy:Paired (ML H) ys js):
 ∀ j (h1:j<us.toArray.size) (h2:j<vs.toArray.size),SeqAt.EqAt X.A.in1 s us.toArray[j] vs.toArray[j] (Ga IT is js j):=by
 intro j h1 h2
 have l1:=r1.length
 have l2:=r2.length
 rw[List.size_toArray]at h1 h2
 have ex:xs[j]?=some (xs[j]'(by omega)):=List.getElem?_eq_getElem _
 have ey:ys[j]?=some (ys[j]'(by omega)):=List.getElem?_eq_getElem _
 obtain⟨u,hu',ru⟩:=r1.get ex
 obtain⟨v,hv',rv⟩:=r2.get ey
 obtain⟨i,hi,ai⟩:=Ar hx ex
 obtain⟨k,hk,ak⟩:=Ar hy ey
 have eu:us.toArray[j]'(by simpa using h1)=u:=by
  rw[List.getElem?_eq_getElem h1]at hu'
  simpa using Option.some.inj hu'
 have ev:vs.toArray[j]'(by simpa using h2)=v:=by
  rw[List.getElem?_eq_getElem h2]at hv'
  simpa using Option.some.inj hv'
 rw[eu,ev]
 have e:Ga IT is js j=IT i k:=by unfold Ga;rw[hi,hk]
 rw[e]
 exact O7 I hu ru rv ai ak
theorem NQ (hu:X.A.units+1<cLine):GL X (compareOp .Eq) (YZ false):=by
 intro pins s σ H x y v u Q I rx ry h
 obtain⟨a,b,xs,ys,is,js,rfl,rfl,ha,hb,hx,hy,q⟩:=h
 cases rx
 cases ry
 obtain⟨its,r1,p1,_⟩:=I.tuple (Af.of ha)
 obtain⟨its2,r2,p2,_⟩:=I.tuple (Af.of hb)
 refine SeqAt.eq_tupleAt (e:=Ga IT is js) (show s.heap.IsTuple a its.toArray from p1) (show s.heap.IsTuple b its2.toArray from p2) (Nat.lt_of_succ_lt hu) (NP I hu r1 r2 hx hy) ⟨.bl _,H,I,rfl,?_⟩
 rw[List.size_toArray,List.size_toArray,← r1.length,← r2.length,Paired.length hx,Paired.length hy,K2]
 exact q
end
theorem QL {X:Cx}{elt iter:Expr}{ifs:List Expr}{x:Str}{px pos:Pos}{scope:Scope}{cl:List (Str×Addr)}{fv:List Str}{js:List Nat}{wi:TI}{tt:TT}{te:TE}(hc:X.calm=true)(hclos:closureFor scope X.env=pure cl)
 (S:CN X scope cl x fv js) (hi:PI X (.Name x px) iter wi)
 (ht:∀(C:Addr) (s₀:Shared) (H₀:Hp) (ex:List Addr) (pn:List (Addr×Obj)),PF (A4 X scope cl C (x::fv) s₀ H₀ ex pn) ifs tt)
 (he:∀(C:Addr) (s₀:Shared) (H₀:Hp) (ex:List Addr) (pn:List (Addr×Obj)),PE (A4 X scope cl C (x::fv) s₀ H₀ ex pn) elt te)
 (hs:∀ x,foldedSetIterable iter X.env x=pure x) {use:Option (Value→Sem Unit)} {QQ:Value→Shared→Prop} {pins:List (Addr×Obj)} {s:Shared} {σ:St} {H:Hp} {Q:VK} (I:Ao X pins σ H s) (h:QE wi js tt te σ H Q)
 (hfin:∀(D:Addr) (s3:Shared) (H3:Hp) (fp:List Addr) (pn:List (Addr×Obj)) (N:List Str) (pins':List (Addr×Obj)) (σ':St) (H':Hp) (s':Shared),Ao X pins σ H3 s3→(∀ b∈fp,Fd X pins H3 b)→
  Ao (A4 X scope cl s3.heap.objs.size N s3 H3 fp pn) pins' σ' H' s'→Q (.ref D) H'→compPost (model X.prog X.w) X.A X.xe use QQ (.ref D) s3.heap.objs.size (.ok .next) s'):
 wpAny (model X.prog X.w) X.A (comprehension (.ListComp elt [⟨.Name x px,iter,ifs,0⟩] scope pos) scope X.env (firstIterPos [⟨.Name x px,iter,ifs,0⟩] pos) (newList []) (firstAsync [⟨.Name x px,iter,ifs,0⟩]) (firstIter [⟨.Name x px,iter,ifs,0⟩] X.env) use) QQ X.xe s:=by
 refine wpAny_comprehension_free (use:=use) rfl hs hclos S.kind S.nm (BZ (hi pins s σ H _ I h) fun v s1 h1=>BZ h1 fun itv s2 h2=>?_)
 obtain⟨it,fp,tn,J,H2,e,I2,T,st2,f2,hW⟩:=h2
 subst e
 have hD:H2 s2.heap.objs.size=none:=I2.hok.fresh (Nat.le_refl _)
 obtain⟨W,⟨m0,w0⟩,turn⟩:=hW s2.heap.objs.size hD
 have lt2:∀ b∈fp,b<s2.heap.objs.size:=fun b hb=>by
  obtain⟨o,e,_⟩:=T.obj _ _ st2 b hb
  exact Heap.lt_size e
 refine wpAny_newObj_type (wpAny_newFunctionEnv S.nc (by intro y hy;simp at hy) (fun h₁ hns₁ hsb₁=>?_) S.kind)
 dsimp only at hns₁ hsb₁ ⊢
 have I3:Ao X pins σ (upd H2 s2.heap.objs.size (.lst [])) { s2 with heap:=s2.heap.push { cls:=.type "list",dict:=none,data:=.seq ([]:List Value).toArray } }:=I2.lnew (t':=s2.toks) .nil (Nat.zero_le _)
 generalize hS3:({ s2 with heap:=s2.heap.push { cls:=.type "list",dict:=none,data:=.seq ([]:List Value).toArray } }:Shared)=s3 at I3
 have eh:s3.heap=s2.heap.push { cls:=.type "list",dict:=none,data:=.seq ([]:List Value).toArray }:=by rw[← hS3]
 rw[← eh]at hns₁ hsb₁ ⊢
 have hsz:s3.heap.objs.size=s2.heap.objs.size+1:=by rw[eh,Heap.size_push]
 have k23:∀ b o,s2.heap.get? b=some o→s3.heap.get? b=some o:=fun b o e=>by rw[eh];exact Heap.get?_push_of_some _ e
 have k34:∀ b o,s3.heap.get? b=some o→h₁.get? b=some o:=fun b o e=>hsb₁.extBut b o (Nat.ne_of_lt (Heap.lt_size e)) (Heap.get?_push_of_some _ e)
 have f3:∀ b∈fp,Fd X pins (upd H2 s2.heap.objs.size (.lst [])) b:=fun b hb=>⟨by rw[AX (Nat.ne_of_lt (lt2 b hb))];exact(f2 b hb).1,(f2 b hb).2⟩
 have lt3:∀ b∈fp,b<s3.heap.objs.size:=fun b hb=>by rw[hsz];exact Nat.lt_succ_of_lt (lt2 b hb)
 have I4:=JY (tk:=s3.toks) S I3 f3 lt3 (h₁:=h₁) (by simpa using hns₁) k34
 generalize hY:A4 X scope cl s3.heap.objs.size (x::fv) s3 (upd H2 s2.heap.objs.size (.lst [])) fp (X.pn++pins)=Y at I4
 have hYp:Y.prog=X.prog:=by rw[← hY];rfl
 have hYw:Y.w=X.w:=by rw[← hY];rfl
 have hYK:Y.K=X.K:=by rw[← hY];rfl
 have hYA:Y.A=X.A:=by rw[← hY];rfl
 have hYc:Y.calm=true:=by rw[← hY];exact hc
 have hYe:Y.env=compEnvC scope cl s3.heap.objs.size X.env:=by rw[← hY];rfl
 have hYx:Y.xe=fun _ _=>False:=by rw[← hY];rfl
 have hYN:Y.N=x::fv:=by rw[← hY];rfl
 have heY:PE Y elt te:=by rw[← hY];exact he _ _ _ _ _
 have htY:PF Y ifs tt:=by rw[← hY];exact ht _ _ _ _ _
 have stat:∀{H':Hp},(∀ b∈fp,H' b=none)→∀ b∈fp,Fd Y [] H' b:=fun {H'} hn b hb=>by
  obtain⟨g0,g1,g2,g3,g4,g5⟩:=f3 b hb
  rw[← hY]
  refine⟨hn b hb,Nat.ne_of_lt (lt3 b hb),fun z=>?_,.inl hb,fun y c e=>g4 y c (S.cell_of e),fun p hp=>g5 p (by simpa [A4]using hp)⟩
  rcases List.mem_cons.mp (I3.stkSub b z)with q | q
  ·exact g1 q
  ·exact g2 q
 have fin:∀{i:Nat} {m:Nat} {σ':St} {H':Hp} {s':Shared},Ao Y [] σ' H' s'→Q (.ref s2.heap.objs.size) H'→compPost (model X.prog X.w) X.A X.xe use QQ (.ref s2.heap.objs.size) s3.heap.objs.size (.ok .next) s':=fun {i m σ' H' s'} J q=>by
  rw[← hY]at J
  exact hfin _ _ _ _ _ _ _ _ _ _ I3 f3 J q
 have st4:∀ s4:Shared,s4={ s3 with heap:=h₁,toks:=s3.toks }→tn 0 s4.heap:=fun s4 e=>by
  subst e
  exact T.keep _ _ _ st2 fun b hb o e=>k34 b o (k23 b o e)
 have loop:codeAny (model X.prog X.w) X.A (.compLoop (.ListComp elt [⟨.Name x px,iter,ifs,0⟩] scope pos) 0 (.ref it) (.ref s2.heap.objs.size) (compEnvC scope cl s3.heap.objs.size X.env))
  (compPost (model X.prog X.w) X.A X.xe use QQ (.ref s2.heap.objs.size) s3.heap.objs.size) { s3 with heap:=h₁,toks:=s3.toks }:=by
  refine Fp (fun n s'=>∃(i:Nat) (o:Option V) (H':Hp),Ao Y [] (o::GZ js σ) H' s'∧tn i s'.heap∧(∀ b∈fp,H' b=none)∧W i n H') ?_ m0 ⟨0,none,_,I4,st4 _ rfl,fun b hb=>(f3 b hb).1,w0⟩
  rintro n s5 ⟨i,o,H5,I5,st5,fr5,w5⟩
  rcases turn i n H5 w5 with⟨stop,q⟩ | ⟨go,step⟩
  ·have r:=T.done Y hYp hYw hYK hYc i [] s5 _ H5 (fun _ _=>False) I5 (stat fr5) st5 stop
   rw[hYA]at r
   refine BZ r fun r s6 zq=>?_
   obtain⟨hr,I6⟩:=zq
   subst hr
   exact fin (i:=i) (m:=n) I6 q
  ·have r:=T.item Y hYp hYw hYK hYc i [] s5 _ H5 (fun _ _=>False) I5 (stat fr5) st5 go
   rw[hYA]at r
   refine BZ r fun r s6 zq=>?_
   obtain⟨u,hr,h6⟩:=zq
   subst hr
   refine BZ h6 fun _ s7 zq=>?_
   obtain⟨y,H7,I7,r7,y7,st7,fr7⟩:=zq
   have I7':=I7.pinned (stat fr7) (T.obj _ _ st7)
   have hname:PG Y (.Name x px) (Ew 0):=BA (X:=Y) (i:=0) (by rw[hYN];exact S.nd) (by rw[hYN];rfl) (.inl (by rw[hYe];exact lookup_relabel_local S.hx)) (.inr (by rw[hYe];exact lookup_relabel_local S.hx))
   have r8:=hname _ s7 _ H7 y u (fun σ' H'=>σ'=some y::GZ js σ∧H'=H7) I7' r7 ⟨rfl,rfl⟩
   rw[hYp,hYw,hYA,hYe,hYx]at r8
   refine BZ r8 fun _ s8 zq=>?_
   obtain⟨σ8,H8,I8,e1,e2⟩:=zq
   subst e1 e2
   have r9:=htY _ s8 _ _ _ I8 (step y _ y7)
   rw[hYp,hYw,hYA,hYe,hYx]at r9
   refine BZ r9 fun b s9 zq=>?_
   obtain⟨H9,I9,q9⟩:=zq
   have again:∀{σ':St} {H':Hp} {s':Shared},Ao Y ([]++Gf fp s7.heap) (some y::GZ js σ) H' s'→(∃ m',m'<n∧W (i+1) m' H')→
    ∃ m,m<n∧∃(i:Nat) (o:Option V) (H':Hp),Ao Y [] (o::GZ js σ) H' s'∧tn i s'.heap∧(∀ b∈fp,H' b=none)∧W i m H':=fun {σ' H' s'} K7 ⟨m',hm,w7⟩=>by
    refine⟨m',hm,i+1,some y,H',K7.unpinned,T.keep _ _ _ st7 fun b hb o e=>(K7.pin (b,o) (List.mem_append_right _ (List.mem_append_right _ (CG hb e)))).1,fun b hb=>?_,w7⟩
    obtain⟨o,e,d⟩:=T.obj _ _ st7 b hb
    exact(K7.pin (b,o) (List.mem_append_right _ (List.mem_append_right _ (CG hb e)))).2.1
   cases b with
   | false=>
    rw[if_neg Bool.false_ne_true]at q9 ⊢
    exact again (σ':=[]) I9 q9
   | true=>
    rw[if_pos rfl]at q9 ⊢
    have r10:=heY _ s9 _ _ _ I9 q9
    rw[hYp,hYw,hYA,hYe,hYx]at r10
    refine BZ r10 fun v s10 zq=>?_
    obtain⟨y10,H10,I10,ry,xs,hxs,hlen,m',hm,w10⟩:=zq
    have r11:=B7 (X:=Y) _ s10 _ H10 (.ref s2.heap.objs.size) [y10] (.ref s2.heap.objs.size) [v] (fun _ H'=>H'=upd H10 s2.heap.objs.size (.lst (xs++[y10]))) I10 rfl (.cons ry .nil) ⟨_,xs,y10,rfl,rfl,hxs,hlen,rfl⟩
    rw[hYp,hYw,hYA,hYx]at r11
    refine BZ r11 fun _ s11 zq=>?_
    obtain⟨_,H11,I11,_,e11⟩:=zq
    subst e11
    exact again (σ':=[]) I11 ⟨m',hm,w10⟩
 have loop':∀ s4:Shared,s4={ s3 with heap:=h₁,toks:=s3.toks }→codeAny (model X.prog X.w) X.A (.compLoop (.ListComp elt [⟨.Name x px,iter,ifs,0⟩] scope pos) 0 (.ref it) (.ref s2.heap.objs.size) (compEnvC scope cl s3.heap.objs.size X.env))
  (compPost (model X.prog X.w) X.A X.xe use QQ (.ref s2.heap.objs.size) s3.heap.objs.size) s4:=fun s4 e=>by subst e;exact loop
 have e4:∀ t,t=s3.toks→({ s3 with heap:=h₁,toks:=t }:Shared)={ s3 with heap:=h₁,toks:=s3.toks }:=fun t e=>by rw[e]
 have fin4:∀ s4:Shared,s4={ s3 with heap:=h₁,toks:=s3.toks }→codeAny (model X.prog X.w) X.A (.compStart (.ListComp elt [⟨.Name x px,iter,ifs,0⟩] scope pos) 0 (.ref it) (.ref s2.heap.objs.size) (compEnvC scope cl s3.heap.objs.size X.env))
  (compPost (model X.prog X.w) X.A X.xe use QQ (.ref s2.heap.objs.size) s3.heap.objs.size) s4:=fun s4 e=>
  codeAny_compStart_list (loop' s4 e) (T.self X.A 0 s4 _ _ (st4 s4 e) (loop' s4 e))
 have es:({ s2 with heap:=s2.heap.push { cls:=.type "list",dict:=none,data:=.seq ([]:List Value).toArray } }:Shared)=s3:=hS3
 refine fin4 _ ?_
 rw[← es]
 rfl
theorem R7 {X:Cx}{i:Nat}{y:Str}{elt iter:Expr}{ifs:List Expr}{x:Str}{px pos py spos:Pos}{scope:Scope}{cl:List (Str×Addr)}{fv:List Str}{js:List Nat}{wi:TI}{tt:TT}{te:TE}(hN:X.N.Nodup)(hi0:X.N[i]?=some y)(hy:X.env.scope.names.lookup y=some .local)
 (hc:X.calm=true) (hclos:closureFor scope X.env=pure cl)
 (S:CN X scope cl x fv js) (hi:PI X (.Name x px) iter wi)
 (ht:∀(C:Addr) (s₀:Shared) (H₀:Hp) (ex:List Addr) (pn:List (Addr×Obj)),PF (A4 X scope cl C (x::fv) s₀ H₀ ex pn) ifs tt)
 (he:∀(C:Addr) (s₀:Shared) (H₀:Hp) (ex:List Addr) (pn:List (Addr×Obj)),PE (A4 X scope cl C (x::fv) s₀ H₀ ex pn) elt te)
 (hs:∀ x,foldedSetIterable iter X.env x=pure x:=by intro _;rfl)
 (hsw:swapsWith (.ListComp elt [⟨.Name x px,iter,ifs,0⟩] scope pos) (some (.Name y py)) spos.line X.env=pure true:=by rfl):
 PS X (.Assign [.Name y py] (.ListComp elt [⟨.Name x px,iter,ifs,0⟩] scope pos) spos) (Rs (QE wi js tt te) (Ew i)):=by
 intro pins s σ H D I h
 rw[exec_Assign_Name_used _ _ _ _ hsw]
 refine wpAny_bind (wpAny_standAt (wpAny_bind ?_))
 rw[arm_evalThenUse_ListComp]
 refine wpAny_bind (QL (Q:=fun v H1=>D.nx (σ.set i (some v)) H1) hc hclos S hi ht he hs I h ?_)
 intro L s3 H3 fp pn N pins' σ' H' s' I3 f3 J q
 obtain⟨mm,hn,_⟩:=id J.loc
 have sb0:Heap.SameBut s3.heap.objs.size s'.heap s'.heap:=⟨rfl,fun _ _=>rfl⟩
 have I':Ao X pins σ H' s':=JZ I3 f3 J sb0
 have ok:=I3.fpOk (H':=H') (Nat.le_refl _) (show H' s3.heap.objs.size=none from J.free)
 obtain⟨f0,f1,f2,f4,f5,f6⟩:=ok
 refine wpAny_assign_Name (Km I' hN hi0 (.inl hy) (v:=.ref L) rfl (fun s2 I2 zq=>?_) (.inr hy))
 obtain⟨a,hsb,ha⟩:=zq
 have nac:s3.heap.objs.size≠a:=fun z=>by
  rcases ha with ha | ha
  ·exact f1 (z.trans ha)
  ·exact f5 _ _ ha z.symm
 refine⟨mm,hn.sameBut hsb nac,fun h'' sb=>?_⟩
 have I4:Ao X pins (σ.set i (some (.ref L))) H' { s2 with heap:=h'' }:=I2.turned (t':=s2.toks) (fun b o hb e=>(sb.2 b hb).trans e) f0 f1 f4 f5 f6
 exact wpAny_pure (wpAny_pure ⟨_,H',I4,q⟩)
section
variable {X:Cx}
theorem Jb:fillsNumberSlot (.type "tuple") "mul"=pure false:=
 PySem.fillsNumberSlot_seq (id:="tuple.__mul__") (r:=some (.builtin "tuple.__rmul__")) F.slot_tuple_mul.lookup (by nofun) F.slot_tuple_rmul.lookup (by nofun)
theorem Jc:seqRepeat? (.type "tuple")=pure (some (.builtin "tuple.__mul__")):=by
 unfold seqRepeat?
 rw[PySem.seqSlot_of (T:="tuple") (name:="__mul__") (id:="tuple.__mul__") F.slot_tuple_mul.lookup (by nofun),
  PySem.seqSlot_of (T:="tuple") (name:="__rmul__") (id:="tuple.__rmul__") F.slot_tuple_rmul.lookup (by nofun)]
 rfl
theorem MM (a:Int)(t:Tok)(l:Addr)(its:Array Value)(n:Nat)(dd:Option Addr)(sl:Array (Option Value)):
 Meets (Builtin.«int.__rmul__» ⟨[.int a t,.ref l],[]⟩) (fun _ R s=>s.heap.get? l=some ⟨.type "tuple",dd,.seq its n,sl⟩∧R (.ok (.ret Value.notImplemented)) s):=
 .of_wp fun prog w A R s h=>by
  obtain⟨hp,g,d,tk,os⟩:=s
  obtain⟨hl,h⟩:=h
  wp_walk
  exact⟨_,rfl,h⟩
end
section
variable {κ:Type}[DecidableEq κ]
def CA (kvs:List (κ×V))(k:κ):Option V:=(kvs.find? fun kv=>decide (kv.1=k)).map (·.2)
def FB (kvs:List (κ×V))(k:κ)(v:V):List (κ×V):=
 if(kvs.any fun kv=>decide (kv.1=k))=true then kvs.map (fun kv=>if kv.1=k then(kv.1,v)else kv)else kvs++[(k,v)]
theorem Bx {p:κ×V}{r:List (κ×V)}{k:κ}(e:p.1=k):CA (p::r) k=some p.2:=by simp[CA,List.find?_cons,e]
theorem Bo {p:κ×V}{r:List (κ×V)}{k:κ}(e:¬ p.1=k):CA (p::r) k=CA r k:=by simp[CA,List.find?_cons,e]
theorem Fu (k:κ):∀ kvs:List (κ×V),(kvs.any fun kv=>decide (kv.1=k))=(CA kvs k).isSome
 | []=>rfl
 | p::r=>by
  rw[List.any_cons]
  by_cases e:p.1=k
  ·simp only[Bx e,decide_eq_true e,Bool.true_or,Option.isSome_some]
  ·rw[Bo e,decide_eq_false e,Bool.false_or];exact Fu k r
theorem MN (k j:κ)(y:V):∀ kvs:List (κ×V),CA (kvs.map fun kv=>if kv.1=k then(kv.1,y)else kv) j=(CA kvs j).map fun x=>if j=k then y else x
 | []=>rfl
 | p::r=>by
  have ih:=MN k j y r
  rw[List.map_cons]
  by_cases h:p.1=k
  ·rw[if_pos h]
   by_cases e:p.1=j
   ·rw[Bx (p:=(p.1,y)) e,Bx e,Option.map_some,if_pos (e.symm.trans h)]
   ·rw[Bo (p:=(p.1,y)) e,Bo e,ih]
  ·rw[if_neg h]
   by_cases e:p.1=j
   ·rw[Bx (p:=p) e,Bx e,Option.map_some,if_neg (fun z=>h (e.trans z))]
   ·rw[Bo (p:=p) e,Bo e,ih]
theorem K3 (k j:κ)(y:V):∀ kvs:List (κ×V),CA kvs k=none→CA (kvs++[(k,y)]) j=if j=k then some y else CA kvs j
 | [],_=>by
  by_cases e:k=j
  ·rw[if_pos e.symm];exact Bx (p:=(k,y)) e
  ·rw[if_neg (fun z=>e z.symm)];exact Bo (p:=(k,y)) e
 | p::r,hn=>by
  rw[List.cons_append]
  have hk:¬ p.1=k:=fun z=>by rw[Bx z]at hn;cases hn
  rw[Bo hk]at hn
  have ih:=K3 k j y r hn
  by_cases e:p.1=j
  ·rw[Bx e,Bx e,if_neg (fun z=>hk (e.trans z))]
  ·rw[Bo e,Bo e,ih]
theorem Jd (kvs:List (κ×V))(k j:κ)(y:V):CA (FB kvs k y) j=if j=k then some y else CA kvs j:=by
 unfold FB
 by_cases a:(kvs.any fun kv=>decide (kv.1=k))=true
 ·rw[if_pos a,MN]
  rw[Fu]at a
  by_cases e:j=k
  ·obtain⟨x,hx⟩:=Option.isSome_iff_exists.mp a
   rw[if_pos e,e,hx,Option.map_some,if_pos rfl]
  ·rw[if_neg e]
   cases CA kvs j with
   | none=>rfl
   | some x=>rw[Option.map_some,if_neg e]
 ·rw[if_neg a]
  refine K3 k j y kvs ?_
  rw[Fu]at a
  cases q:CA kvs k with
  | none=>rfl
  | some x=>rw[q]at a;exact(a rfl).elim
theorem Eb (kvs:List (κ×V))(k:κ)(v:V):(FB kvs k v).length≤kvs.length+1:=by
 unfold FB
 split
 ·rw[List.length_map];omega
 ·rw[List.length_append,List.length_cons,List.length_nil];omega
theorem Hs.isSome_eq {o:Option V}{u:Option Value}(r:Hs o u):o.isSome=u.isSome:=by
 cases o with
 | none=>cases u with
  | none=>rfl
  | some _=>exact(show False from r).elim
 | some _=>cases u with
  | none=>exact(show False from r).elim
  | some _=>rfl
theorem Hs.getD {o:Option V}{u:Option Value}{d:V}{d':Value}(r:Hs o u)(rd:A2 d d'):A2 (o.getD d) (u.getD d'):=by
 cases o with
 | none=>cases u with
  | none=>exact rd
  | some _=>exact(show False from r).elim
 | some _=>cases u with
  | none=>exact(show False from r).elim
  | some _=>exact r
theorem KV.val {kvs:List (κ×V)}{vs:List (κ×Value)}(r:KV kvs vs)(k:κ):Hs (CA kvs k) (valueAt vs k):=by
 unfold KV at r
 induction r with
 | nil=>exact True.intro
 | @cons p q ps qs h t ih=>
  obtain⟨h1,h2⟩:=h
  by_cases e:p.1=k
  ·have e':q.1=k:=h1.symm.trans e
   have b:valueAt (q::qs) k=some q.2:=by simp[valueAt,List.find?_cons,e']
   rw[Bx e,b];exact h2
  ·have e':¬ q.1=k:=fun z=>e (h1.trans z)
   have b:valueAt (q::qs) k=valueAt qs k:=by simp[valueAt,List.find?_cons,e']
   rw[Bo e,b];exact ih
theorem KV.any {kvs:List (κ×V)}{vs:List (κ×Value)}(r:KV kvs vs)(k:κ):(kvs.any fun kv=>decide (kv.1=k))=vs.any fun kv=>decide (kv.1=k):=by
 unfold KV at r
 induction r with
 | nil=>rfl
 | cons h t ih=>rw[List.any_cons,List.any_cons,ih,h.1]
theorem KV.repl {kvs:List (κ×V)}{vs:List (κ×Value)}(r:KV kvs vs)(k:κ){y:V}{u:Value}(ry:A2 y u):
 KV (kvs.map fun kv=>if kv.1=k then(kv.1,y)else kv) (vs.map fun kv=>if kv.1=k then(kv.1,u)else kv):=by
 unfold KV at r ⊢
 induction r with
 | nil=>exact .nil
 | @cons p q ps qs h t ih=>
  rw[List.map_cons,List.map_cons]
  refine .cons ?_ ih
  obtain⟨h1,h2⟩:=h
  by_cases e:p.1=k
  ·rw[if_pos e,if_pos (h1.symm.trans e)];exact⟨h1,ry⟩
  ·rw[if_neg e,if_neg (fun z=>e (h1.trans z))];exact⟨h1,h2⟩
theorem KV.put {kvs:List (κ×V)}{vs:List (κ×Value)}(r:KV kvs vs)(k:κ){y:V}{u:Value}(ry:A2 y u):KV (FB kvs k y) (stored vs k u):=by
 unfold FB stored
 rw[r.any k]
 by_cases e:(vs.any fun kv=>decide (kv.1=k))=true
 ·rw[if_pos e,if_pos e];exact r.repl k ry
 ·rw[if_neg e,if_neg e];exact Paired.snoc r ⟨rfl,ry⟩
theorem KV.length {kvs:List (κ×V)}{vs:List (κ×Value)}(r:KV kvs vs):kvs.length=vs.length:=Paired.length r
end
theorem MO {P:Program}{w:World}{k:BC}{u:Value}(r:A2 (kV k) u):(BU P w).is k u=true:=by
 cases k with
 | inl i=>obtain⟨t,e⟩:=(show ∃ t,u=Value.int i t from r);subst e;exact L7 P w i t
 | inr x=>obtain⟨t,e⟩:=(show ∃ t,u=Value.str x t from r);subst e;exact L8 P w x t
theorem K4 {P:Program}{w:World}:∀{ks:List BC} {us:List Value},A1 (ks.map kV) us→ItemsAre (BU P w) ks us
 | [],_,r=>by rw[List.map_nil]at r;cases r;exact .nil
 | k::ks,_,r=>by
  rw[List.map_cons]at r
  cases r with
  | cons h t=>exact .cons (MO h) (K4 t)
abbrev KT (H:Hp):List (List BC×V)→List (List BC×Addr×Value)→Prop:=Paired fun p q=>p.1=q.1∧H q.2.1=some (.tup (p.1.map kV))∧A2 p.2 q.2.2
theorem KT.val {H:Hp}{kvs:List (List BC×V)}{xs:List (List BC×Addr×Value)}(r:KT H kvs xs)(k:List BC):Hs (CA kvs k) ((atKey xs k).map (·.2)):=by
 induction r with
 | nil=>exact True.intro
 | @cons p q ps qs h t ih=>
  obtain⟨h1,_,h2⟩:=h
  by_cases e:p.1=k
  ·have e':q.1=k:=h1.symm.trans e
   have b:atKey (q::qs) k=some q.2:=by simp[atKey,List.find?_cons,e']
   rw[Bx e,b];exact h2
  ·have e':¬ q.1=k:=fun z=>e (h1.trans z)
   have b:atKey (q::qs) k=atKey qs k:=by simp[atKey,List.find?_cons,e']
   rw[Bo e,b];exact ih
theorem KT.repl {H:Hp}{kvs:List (List BC×V)}{xs:List (List BC×Addr×Value)}(r:KT H kvs xs)(k:List BC){y:V}{u:Value}(ry:A2 y u):
 KT H (kvs.map fun kv=>if kv.1=k then(kv.1,y)else kv) (xs.map (putAt k u)):=by
 induction r with
 | nil=>exact .nil
 | @cons p q ps qs h t ih=>
  rw[List.map_cons,List.map_cons]
  refine .cons ?_ ih
  obtain⟨h1,h2,h3⟩:=h
  unfold putAt
  by_cases e:p.1=k
  ·rw[if_pos e,if_pos (h1.symm.trans e)];exact⟨h1,h2,ry⟩
  ·rw[if_neg e,if_neg (fun z=>e (h1.trans z))];exact⟨h1,h2,h3⟩
theorem KT.put {H:Hp}{kvs:List (List BC×V)}{xs:List (List BC×Addr×Value)}(r:KT H kvs xs)(k:List BC){b:Addr}{y:V}{u:Value}(hb:H b=some (.tup (k.map kV)))(ry:A2 y u):
 KT H (FB kvs k y) (storedH xs k b u):=by
 have e:(kvs.any fun kv=>decide (kv.1=k))=(atKey xs k).isSome:=by
  rw[Fu,(r.val k).isSome_eq,Option.isSome_map]
 unfold FB storedH
 rw[e]
 by_cases q:(atKey xs k).isSome=true
 ·rw[if_pos q,if_pos q];exact r.repl k ry
 ·rw[if_neg q,if_neg q];exact Paired.snoc r ⟨rfl,hb,ry⟩
theorem KT.keeps {H H':Hp}{kvs:List (List BC×V)}{xs:List (List BC×Addr×Value)}(r:KT H kvs xs)(ht:∀ b ys,H b=some (.tup ys)→H' b=some (.tup ys)):KT H' kvs xs:=
 Paired.mapP r fun _ _ z=>⟨z.1,ht _ _ z.2.1,z.2.2⟩
section
variable {P:Program}{w:World}{H:Hp}{h:Heap}{a:Addr}
theorem QM {u:HO}(ok:GQ P w H h)(e:Rd H a u):BW P w H h a u:=e.ok ok
theorem MP {kvs:List (BC×V)}(ok:GQ P w H h)(e:Rd H a (.dK kvs)):kvs.length≤sizeLine∧(a==sysModules)=false∧∃ vs,KV kvs vs∧h.DictOf (BU P w) a vs:=
 show BW P w H h a (.dK kvs)from QM ok e
theorem Vq {kvs:List (BC×V)}(ok:GQ P w H h)(e:H a=some (.dK kvs)):kvs.length≤sizeLine∧(a==sysModules)=false∧∃ vs,KV kvs vs∧h.DictOf (BU P w) a vs:=MP ok (.inl e)
theorem LV {ks:List BC}(ok:GQ P w H h)(e:H a=some (.tup (ks.map kV))):(tupleKind (BU P w)).is h ks a:=by
 obtain⟨_,its,r,o,h1,h2,n,h3⟩:=(show BW P w H h a (.tup (ks.map kV))from ok a _ e)
 exact⟨o,its.toArray,n,h1,h2,h3,by simpa using K4 r⟩
theorem MQ {kvs:List (List BC×V)}(ok:GQ P w H h)(e:Rd H a (.dT kvs)):kvs.length≤sizeLine∧(a==sysModules)=false∧
 ∃ xs,KT H kvs xs∧h.DictOfH (tupleKind (BU P w)) a xs:=by
 obtain⟨z,y,xs,r,o,es,ep,h1,h2,h3,h4,h5⟩:=(show BW P w H h a (.dT kvs)from QM ok e)
 refine⟨z,y,xs,r,o,es,ep,h1,h2,h3,h4,fun x hx=>?_,h5⟩
 have all:∀{l:List (List BC×V)} {m:List (List BC×Addr×Value)},KT H l m→∀ x∈m,(tupleKind (BU P w)).is h x.1 x.2.1:=by
  intro l m q
  induction q with
  | nil=>intro x hx;exact nomatch hx
  | @cons p q ps qs hq t ih=>
   intro x hx
   rcases List.mem_cons.mp hx with e | hx
   ·subst e
    exact LV ok (by rw[← hq.1];exact hq.2.1)
   ·exact ih x hx
 exact all r x hx
theorem Vr {kvs:List (List BC×V)}(ok:GQ P w H h)(e:H a=some (.dT kvs)):kvs.length≤sizeLine∧(a==sysModules)=false∧
 ∃ xs,KT H kvs xs∧h.DictOfH (tupleKind (BU P w)) a xs:=MQ ok (.inl e)
end
def Gj (H:Hp)(a:Addr)(y:V)(r:Option V):Prop:=
 (∃ kvs k,Rd H a (.dK kvs)∧y=kV k∧r=CA kvs k)∨∃ kvs k b,Rd H a (.dT kvs)∧y=.ref b∧H b=some (.tup (k.map kV))∧r=CA kvs k
def LW (H:Hp)(a:Addr)(y v:V)(H':Hp):Prop:=
 (∃ kvs k,H a=some (.dK kvs)∧y=kV k∧kvs.length<sizeLine∧H'=upd H a (.dK (FB kvs k v)))∨
 ∃ kvs k b,H a=some (.dT kvs)∧y=.ref b∧H b=some (.tup (k.map kV))∧kvs.length<sizeLine∧H'=upd H a (.dT (FB kvs k v))
theorem Gj.k {H:Hp}{a:Addr}{kvs:List (BC×V)}{k:BC}(e:H a=some (.dK kvs)):Gj H a (kV k) (CA kvs k):=.inl ⟨kvs,k,.inl e,rfl,rfl⟩
theorem Gj.t {H:Hp}{a b:Addr}{kvs:List (List BC×V)}{k:List BC}(e:H a=some (.dT kvs))(eb:H b=some (.tup (k.map kV))):Gj H a (.ref b) (CA kvs k):=.inr ⟨kvs,k,b,.inl e,rfl,eb,rfl⟩
theorem LW.k {H:Hp}{a:Addr}{kvs:List (BC×V)}{k:BC}{v:V}(e:H a=some (.dK kvs))(hl:kvs.length<sizeLine):LW H a (kV k) v (upd H a (.dK (FB kvs k v))):=.inl ⟨kvs,k,e,rfl,hl,rfl⟩
theorem LW.t {H:Hp}{a b:Addr}{kvs:List (List BC×V)}{k:List BC}{v:V}(e:H a=some (.dT kvs))(eb:H b=some (.tup (k.map kV)))(hl:kvs.length<sizeLine):
 LW H a (.ref b) v (upd H a (.dT (FB kvs k v))):=.inr ⟨kvs,k,b,e,rfl,eb,hl,rfl⟩
section
variable {X:Cx}{pins:List (Addr×Obj)}{σ:St}{H:Hp}{s:Shared}{a:Addr}{y v:V}{u r:Value}{o:Option V}{A:Around}{E:Value→Shared→Prop}
theorem Ao.big (I:Ao X pins σ H s):sysModules<s.heap.objs.size:=by
 have h:mainGlobals<s.heap.objs.size:=(I.mod.glob.keeps I.bk).lt
 exact Nat.lt_trans (by decide) h
theorem O8 {Q:Value→Shared→Prop}(hu:A.units+1<cLine)(I:Ao X pins σ H s)(g:Gj H a y (some v))(ry:A2 y u)(h:∀ w' s',Ao X pins σ H s'→A2 v w'→Q w' s'):
 wpAny (model X.prog X.w) A (getItem (.ref a) u) Q E s:=by
 rcases g with⟨kvs,k,e,ey,l⟩ | ⟨kvs,k,b,e,ey,eb,l⟩
 ·subst ey
  obtain⟨z,hd,vs,rel,dd⟩:=MP I.hok e
  obtain⟨w',hw,rw'⟩:=Hs.some_of (v:=v) (o:=valueAt vs k) (by rw[l];exact rel.val k)
  exact wpAny_getItem_of (MO ry) dd.mapOf hw (h w' _ (I.tok _) rw')
 ·subst ey
  cases (show u=Value.ref b from ry)
  obtain⟨z,hd,xs,rel,dd⟩:=MQ I.hok e
  obtain⟨w',hw,rw'⟩:=Hs.some_of (v:=v) (o:=(atKey xs k).map (·.2)) (by rw[l];exact rel.val k)
  obtain⟨p,hp,hp2⟩:=Option.map_eq_some_iff.mp hw
  refine wpAny_getItem_heap (tupleKind_room_in1 hu) (LV I.hok eb) dd hp ?_
  rw[hp2]
  exact h w' _ (I.tok _) rw'
theorem OE {h':Heap}{t':Nat}{ob:HO}(I:Ao X pins σ H s)(mu:VU (H a))(hs:Heap.SameBut a s.heap h')(he:∃ q,h'.get? a=some q)(new:BW X.prog X.w (upd H a ob) h' a ob):
 Ao X pins σ (upd H a ob) { s with heap:=h',toks:=t' }:=
 I.write (x:=a) (e:=a) mu (.inl rfl) (fun b q hb z=>(hs.2 b hb).trans z) he new
theorem T7 {P:Program}{w:World}{H':Hp}{h':Heap}{kvs:List (BC×V)}{vs:List (BC×Value)}(z:kvs.length≤sizeLine)(hd:(a==sysModules)=false)(rel:KV kvs vs)(dd:h'.DictOf (BU P w) a vs):
 BW P w H' h' a (.dK kvs):=⟨z,hd,vs,rel,dd⟩
theorem O9 {H':Hp}{Q:Unit→Shared→Prop}(hu:A.units+1<cLine)(I:Ao X pins σ H s)(g:LW H a y v H')(ry:A2 y u)(rv:A2 v r)(h:∀ s',Ao X pins σ H' s'→Q () s'):
 wpAny (model X.prog X.w) A (setItem (.ref a) u r) Q E s:=by
 rcases g with⟨kvs,k,e,ey,l,eH⟩ | ⟨kvs,k,b,e,ey,eb,l,eH⟩
 ·subst ey eH
  obtain⟨z,hd,vs,rel,dd⟩:=Vq I.hok e
  have hz:vs.length≤sizeLine:=by rw[← rel.length];exact z
  have hl:(FB kvs k v).length≤sizeLine:=by have:=Eb kvs k v;omega
  refine wpAny_setItem_pairs (hsz:=hz) (MO ry) dd fun h' dd' hs=>h _ ?_
  have he:∃ q,h'.get? a=some q:=let ⟨q,_,_,hq,_⟩:=dd';⟨q,hq⟩
  exact OE I (by rw[e];exact True.intro) hs he (T7 hl hd (rel.put k rv) dd')
 ·subst ey eH
  cases (show u=Value.ref b from ry)
  obtain⟨z,hd,xs,rel,dd⟩:=Vr I.hok e
  have hz:xs.length≤sizeLine:=by rw[← Paired.length rel];exact z
  have hl:(FB kvs k v).length≤sizeLine:=by have:=Eb kvs k v;omega
  refine wpAny_setItem_heap (hsz:=hz) (tupleKind_room_in1 hu) (LV I.hok eb) dd fun h' dd' hs=>h _ ?_
  obtain⟨q,es,ep,hq,h2,h3,h4,_,h5⟩:=dd'
  refine OE I (by rw[e];exact True.intro) hs ⟨q,hq⟩ ⟨hl,hd,_,(rel.put k eb rv).keeps fun c ys ec=>?_,q,es,ep,hq,h2,h3,h4,h5⟩
  rw[AX (BJ ec e (fun z=>nomatch z))]
  exact ec
end
def Vs (i:Expr):Prop:=∀ ov iv,subscripted i false ov iv=operate [ov,iv] (getItem ov iv)
theorem R8 {prog:Program}{w:World}{A:Around}{E:Value→Shared→Prop}{s:Shared}{env:Env}{value slice:Expr}{pos:Pos}{T id:String}{Q:Value→Shared→Prop}
 (hl:typeLookup (.type T) "__getitem__"=pure (some (.builtin id))) (hs:Vs slice)
 (h:wpAny (model prog w) A (eval value env) (fun o s₁=>wpAny (model prog w) A (eval slice env) (fun i s₂=>s₂.TypeIs o T∧wpAny (model prog w) A (getItem o i) Q E s₂) E s₁) E s):
 wpAny (model prog w) A (eval (.Subscript value slice pos) env) Q E s:=by
 refine Subscript_ (wpAny_mono h (fun o s₁ h₁=>wpAny_mono h₁ (fun i s₂ h₂=>?_) fun _ _ x=>x) fun _ _ x=>x)
 obtain⟨hT,h₂⟩:=h₂
 unfold subscriptTail
 refine wpAny_bind ?_
 rw[getitemInPython_of_ne hT.not_modules]
 refine wpAny_bind (wpAny_specialOf hT hl ?_)
 have fin:wpAny (model prog w) A (subscripted slice false o i) (fun r s₃=>wpAny (model prog w) A (letTemporaryGo value o r >>= fun _=>pure r) Q E s₃) E s₂:=by
  rw[hs o i]
  exact wpAny_operating (wpAny_mono h₂ (fun r s₃ h₃=>wpAny_bind (wpAny_letTemporaryGo (wpAny_pure h₃))) fun _ _ x=>x)
 first
  | exact wpAny_pure (wpAny_bind fin)
  | exact wpAny_bind (wpAny_pure (wpAny_bind fin))
  | exact wpAny_bind fin
theorem MR {X:Cx}{pins:List (Addr×Obj)}{σ:St}{H:Hp}{s:Shared}{a:Addr}{y:V}{o:Option V}(I:Ao X pins σ H s)(g:Gj H a y o):s.TypeIs (.ref a) "dict":=by
 rcases g with⟨kvs,k,e,_,_⟩ | ⟨kvs,k,b,e,_,_,_⟩
 ·obtain⟨_,_,vs,_,dd⟩:=MP I.hok e
  exact dd.typeIs
 ·obtain⟨_,_,xs,_,dd⟩:=MQ I.hok e
  exact dd.typeIs
def Vt (td ty:TE):TE:=fun σ H Q=>td σ H fun x H1=>ty σ H1 fun y H2=>∃ a v,x=.ref a∧Gj H2 a y (some v)∧Q v H2
def Vu (td ty tv:TE):TS:=fun D σ H=>tv σ H fun v H1=>td σ H1 fun x H2=>ty σ H2 fun y H3=>∃ a H4,x=.ref a∧LW H3 a y v H4∧D.nx σ H4
section
variable {X:Cx}{o i e value:Expr}{pos pos' tpos:Pos}{td ty tv:TE}
theorem G9 (hu:X.A.units+1<cLine)(ho:PE X o td)(hi:PE X i ty)(hs:Vs i):PE X (.Subscript o i pos) (Vt td ty):=by
 intro pins s σ H Q I h
 refine R8 PySem.F.slot_dict_getitem.lookup hs (BZ (ho pins s σ H _ I h) fun u s1 ⟨x,H1,I1,rx,q1⟩=>BZ (hi pins s1 σ H1 _ I1 q1) fun iv s2 zq=>?_)
 obtain⟨y,H2,I2,ry,a,v,ex,g,q2⟩:=zq
 subst ex
 obtain rfl:u=Value.ref a:=rx
 exact⟨MR I2 g,O8 hu I2 g ry fun w' s3 I3 rw'=>⟨v,H2,I3,rw',q2⟩⟩
theorem LX (hu:X.A.units+1<cLine)(ho:PE X o td)(hi:PE X i ty)(hv:PE X value tv)(hs:swapsWith value (some (.Subscript o i pos')) pos.line X.env=pure false):
 PS X (.Assign [.Subscript o i pos'] value pos) (Vu td ty tv):=by
 intro pins s σ H D I h
 refine wpAny_Assign_Subscript (BZ (hv pins s σ H _ I h) fun r s1 ⟨v,H1,I1,rv,q1⟩=>BZ (ho pins s1 σ H1 _ I1 q1) fun u s2 ⟨x,H2,I2,rx,q2⟩=>BZ (hi pins s2 σ H2 _ I2 q2) fun iv s3 zq=>?_) hs
 obtain⟨y,H3,I3,ry,a,H4,ex,g,q3⟩:=zq
 subst ex
 obtain rfl:u=Value.ref a:=rx
 exact O9 hu I3 g ry rv fun s4 I4=>⟨σ,H4,I4,q3⟩
end
theorem QN {P:Program}{w:World}{H:Hp}(h:Heap)(hb:sysModules<h.objs.size):BW P w H (h.push { cls:=.type "dict",data:=.dict #[] }) h.objs.size (.dK []):=
 ⟨Nat.zero_le _,beq_eq_false_iff_ne.mpr (Ne.symm (Nat.ne_of_lt hb)),[],.nil,Heap.DictOf.new h⟩
theorem QO {P:Program}{w:World}{H:Hp}(h:Heap)(hb:sysModules<h.objs.size):BW P w H (h.push { cls:=.type "dict",data:=.dict #[] }) h.objs.size (.dT []):=
 ⟨Nat.zero_le _,beq_eq_false_iff_ne.mpr (Ne.symm (Nat.ne_of_lt hb)),[],.nil,_,#[],0,Heap.get?_push_size _ rfl,⟨rfl,rfl,rfl⟩,rfl,rfl,List.nodup_nil⟩
def T8:TE:=fun _ H Q=>∀ p,H p=none→Q (.ref p) (upd H p (.dK []))
def T9:TE:=fun _ H Q=>∀ p,H p=none→Q (.ref p) (upd H p (.dT []))
section
variable {X:Cx}{pos:Pos}
theorem QP:PE X (.Dict [] [] pos) T8:=fun pins s σ H Q I h=>
 wpAny_Dict_empty ⟨.ref s.heap.objs.size,_,I.laid (a:=s.heap.objs.size) (o:=.dK []) (t':=s.toks) (fun _ _ q=>Heap.get?_push_of_some _ q) (Nat.le_refl _) (QN s.heap I.big),rfl,h _ (I.hok.fresh (Nat.le_refl _))⟩
theorem MS:PE X (.Dict [] [] pos) T9:=fun pins s σ H Q I h=>
 wpAny_Dict_empty ⟨.ref s.heap.objs.size,_,I.laid (a:=s.heap.objs.size) (o:=.dT []) (t':=s.toks) (fun _ _ q=>Heap.get?_push_of_some _ q) (Nat.le_refl _) (QO s.heap I.big),rfl,h _ (I.hok.fresh (Nat.le_refl _))⟩
end
section
variable {P:Program}{w:World}{A:Around}{E:Value→Shared→Prop}{s:Shared}{d it:Addr}{o:Obj}{es:Array DictEntry}{ep i:Nat}
structure NR (h:Heap)(d:Addr)(o:Obj)(es:Array DictEntry)(ep:Nat):Prop where
 at_:h.get? d=some o
 ex:o.ExactDict
 data:o.data=.dict es ep
theorem NR.ty (x:NR s.heap d o es ep):s.TypeIs (.ref d) "dict":=⟨o,x.at_,x.ex.1⟩
theorem QR {Q:Value→Shared→Prop}(x:NR s.heap d o es ep)(hd:(d==sysModules)=false)
 (hQ:Q (.ref s.heap.objs.size) { s with heap:=s.heap.push { cls:=.type "dict_keyiterator",data:=.fields #[.ref d,.int 0 0,.int es.size 0,.int ep 0] } }):
 wpAny (model P w) A (pyIter (.ref d)) Q E s:=by
 refine wpAny_pyIter_slot x.ty F.slot_dict_iter (wpAny_call_entry F.slot_dict_iter x.ty F.entry_dict_iter ?_ (F.args_dict_iter_1 _))
 unfold Builtin.«dict.__iter__» Builtin.Dict.dictSlotNone
 refine wpAny_bind (wpAny_bind (wpAny_notOrdered_dict x.ty (wpAny_pure (a:=Value.ref d) ?_)))
 show wpAny _ _ (Builtin.Dict.showsAll d >>= _) _ _ s
 unfold Builtin.Dict.showsAll
 rw[if_neg (by rw[hd];exact Bool.false_ne_true)]
 refine wpAny_bind (wpAny_pure (wpAny_bind (wpAny_dictEntries x.at_ x.data (wpAny_bind (wpAny_dictEpoch x.at_ x.data ?_)))))
 refine wpAny_bind (wpAny_newObj_type (wpAny_pure ⟨_,rfl,"dict_keyiterator",_,⟨_,Heap.get?_push_size _ rfl,rfl⟩,F.slot_dict_keyiterator_next.lookup,?_⟩))
 simpa [rawInt]using hQ
theorem QS {Q:Option Value→Shared→Prop}{e:DictEntry}(hit:s.heap.IsKeyIter it d i es.size ep)(x:NR s.heap d o es ep)(he:es[i]?=some e)
 (hQ:∀ h',h'.IsKeyIter it d (i+1) es.size ep→Heap.SameBut it s.heap h'→Q (some e.key) { s with heap:=h' }):
 wpAny (model P w) A (pyNext (.ref it)) Q E s:=by
 obtain⟨oi,ho,hc,hd⟩:=id hit
 unfold pyNext
 refine wpAny_bind (wpAny_attempt (wpAny_callSpecial?_slot (name:=Str.ofString "__next__") hit.typeIs F.slot_dict_keyiterator_next
  (wpAny_call_entry F.slot_dict_keyiterator_next hit.typeIs F.entry_dict_keyiterator_next (wpAny_bind (wpAny_pure (wpAny_bind (wpAny_bind ?_)))) (F.args_dict_keyiterator_next_1 _))))
 first | refine wpAny_bind (wpAny_typeNameOfWhole_keyiter hit.typeIs (wpAny_pure ?_)) | refine wpAny_bind (wpAny_typeNameOf_keyiter hit.typeIs (wpAny_pure ?_))
 refine wpAny_bind (wpAny_fieldsOf ho hd ?_)
 simp only[show Builtin.Dict_items.ownsTuple "dict_keyiterator"=false by decide,Bool.false_eq_true,if_false]
 show wpAny _ _ (if(Value.ref d==Value.none)=true then _ else _) _ _ s
 rw[if_neg (show ¬ ((Value.ref d==Value.none)=true)from Bool.false_ne_true)]
 refine wpAny_bind (wpAny_pure (wpAny_bind (wpAny_dictEntries x.at_ x.data ?_)))
 rw[if_neg (by simp)]
 refine wpAny_bind (wpAny_pure (wpAny_bind (wpAny_dictEpoch x.at_ x.data ?_)))
 rw[if_neg (by simp)]
 refine wpAny_pure ?_
 simp only[show ¬ ((i:Int)<0)from by omega,if_false,Int.toNat_natCast,he]
 refine wpAny_bind ?_
 first | refine wpAny_bind (wpAny_typeNameOfWhole_keyiter hit.typeIs (wpAny_pure ?_)) | refine wpAny_bind (wpAny_typeNameOf_keyiter hit.typeIs (wpAny_pure ?_))
 refine wpAny_bind (wpAny_isOneOf_keyiter hit.typeIs ?_)
 show wpAny _ _ (setField (.ref it) 1 (rawInt ((i:Int)+1)) >>= _) _ _ s
 refine wpAny_bind (wpAny_setField ho hd (by simp) ?_)
 have hit':(s.heap.update it (Obj.mapFields (·.setIfInBounds 1 (rawInt ((i:Int)+1))))).IsKeyIter it d (i+1) es.size ep:=
  ⟨_,Heap.get?_update_self _ ho (Obj.isFreed_of_fields (Obj.data_mapFields hd _)),(Obj.cls_mapFields ..).trans hc,by rw[Obj.data_mapFields hd];simp[rawInt]⟩
 refine wpAny_bind (wpAny_holding (wpAny_bind (wpAny_isOneOf_keyiter (s:={ s with heap:=s.heap.update it (Obj.mapFields (·.setIfInBounds 1 (rawInt ((i:Int)+1)))) }) hit'.typeIs ?_)))
 show wpAny _ _ (pure e.key) _ _ _
 exact wpAny_pure (wpAny_pure ⟨_,rfl,wpAny_pure (hQ _ hit' (Heap.SameBut.update ..))⟩)
theorem R9 {Q:Option Value→Shared→Prop}(hh:A.handled=none)(hit:s.heap.IsKeyIter it d i es.size ep)(x:NR s.heap d o es ep)(he:es.size≤i)
 (hQ:∀ h',Heap.ExtBut it s.heap h'→Q none { s with heap:=h' }):wpAny (model P w) A (pyNext (.ref it)) Q E s:=by
 obtain⟨oi,ho,hc,hd⟩:=id hit
 unfold pyNext
 refine wpAny_bind (wpAny_attempt (wpAny_callSpecial?_slot (name:=Str.ofString "__next__") hit.typeIs F.slot_dict_keyiterator_next
  (wpAny_call_entry F.slot_dict_keyiterator_next hit.typeIs F.entry_dict_keyiterator_next (wpAny_bind (wpAny_pure (wpAny_bind (wpAny_bind ?_)))) (F.args_dict_keyiterator_next_1 _))))
 first | refine wpAny_bind (wpAny_typeNameOfWhole_keyiter hit.typeIs (wpAny_pure ?_)) | refine wpAny_bind (wpAny_typeNameOf_keyiter hit.typeIs (wpAny_pure ?_))
 refine wpAny_bind (wpAny_fieldsOf ho hd ?_)
 simp only[show Builtin.Dict_items.ownsTuple "dict_keyiterator"=false by decide,Bool.false_eq_true,if_false]
 show wpAny _ _ (if(Value.ref d==Value.none)=true then _ else _) _ _ s
 rw[if_neg (show ¬ ((Value.ref d==Value.none)=true)from Bool.false_ne_true)]
 refine wpAny_bind (wpAny_pure (wpAny_bind (wpAny_dictEntries x.at_ x.data ?_)))
 rw[if_neg (by simp)]
 refine wpAny_bind (wpAny_pure (wpAny_bind (wpAny_dictEpoch x.at_ x.data ?_)))
 rw[if_neg (by simp)]
 refine wpAny_pure ?_
 simp only[show ¬ ((i:Int)<0)from by omega,if_false,Int.toNat_natCast,Array.getElem?_eq_none he]
 refine wpAny_bind ?_
 first | refine wpAny_bind (wpAny_typeNameOfWhole_keyiter hit.typeIs (wpAny_pure ?_)) | refine wpAny_bind (wpAny_typeNameOf_keyiter hit.typeIs (wpAny_pure ?_))
 show wpAny _ _ (setField (.ref it) 0 .none >>= _) _ _ s
 refine wpAny_bind (wpAny_setField ho hd (by simp) ?_)
 show wpAny _ _ (newExc (.type "StopIteration") [] >>= _) _ _ _
 refine wpAny_bind ?_
 simp only[newExc,newTuple]
 refine wpAny_bind (wpAny_newObj_type ?_ (by size_fits))
 refine wpAny_bind (m:=firstArgMember _ _) (wpAny_of_eq (a:=Value.none) (by first | rfl | (simp only[firstArgMember];rfl)) ?_)
 refine wpAny_newObj_type ?_ (by size_fits)
 simp only[raiseNew]
 refine wpAny_bind (wpAny_handled ?_)
 rw[show A.in1.handled=none from hh]
 refine wpAny_bind (wpAny_pure (wpAny_throw ?_))
 refine wpAny_bind (wpAny_isInstance (T:="StopIteration") (b:=true) ⟨_,Heap.get?_push_size _ rfl,rfl⟩ isSubtype_stop ?_)
 exact wpAny_pure (hQ _ (((Heap.SameBut.update ..).extBut.push _).push _))
end
section
variable {P:Program}{w:World}{A:Around}{E:Value→Shared→Prop}{s:Shared}{d:Addr}{o:Obj}{es:Array DictEntry}{ep:Nat}
theorem KM (hd:(d==sysModules)=false):MeetsIn P w (Builtin.«dict.__len__» ⟨[.ref d],[]⟩) (fun _ R s=>∃ o es ep,NR s.heap d o es ep∧R (.ok (.ret (.int es.size s.toks))) { s with toks:=s.toks+1 }):=
 .of_wp fun A R s ⟨o,es,ep,x,h⟩=>by
  show wpAny _ _ (dictSize d >>= _) _ _ s
  unfold dictSize
  refine wpAny_bind (wpAny_bind (wpAny_dictEntries x.at_ x.data (wpAny_pure ?_)))
  show wpAny _ _ (Builtin.Dict.pendingCount d >>= _) _ _ s
  refine wpAny_bind (wpAny_pendingCount_other hd (wpAny_ret_mkInt ?_))
  rw[Nat.add_zero]
  exact h
theorem SA {Q:Value→Shared→Prop}(x:NR s.heap d o es ep)(hd:(d==sysModules)=false)(hfit:(es.size:Int)<2 ^ 63)(h:Q (.int es.size (s.toks+1)) { s with toks:=s.toks+1+1 }):
 wpAny (model P w) A (call (.builtin "len") [.ref d]) Q E s:=by
 refine Calls.call_function_entry kind_len plain_len entry_len (args_len1 _) ?_
 unfold Builtin.«len»
 refine wpAny_bind (m:=oneArg "len" _) (wpAny_pure ?_)
 refine wpAny_bind (m:=callSpecial? (.ref d) (Str.ofString "__len__")) (wpAny_callSpecial?_slot (name:=Str.ofString "__len__") x.ty F.slot_dict_len
  (call_meetsIn F.slot_dict_len x.ty F.entry_dict_len (F.args_dict_len_1 _) (KM hd) ⟨o,es,ep,x,?_⟩))
 show wpAny _ _ _ _ _ { s with toks:=s.toks+1 }
 refine wpAny_bind (wpAny_holding (wpAny_pure (wpAny_bind (wpAny_letGo ?_))))
 show wpAny _ _ (if((es.size:Nat):Int)<0 then _ else _) _ _ _
 rw[if_neg (by omega)]
 show wpAny _ _ (if((es.size:Nat):Int)≥2 ^ 63 then _ else _) _ _ _
 rw[if_neg (by omega)]
 exact wpAny_bind (wpAny_mkInt (wpAny_pure ⟨_,rfl,h⟩))
end
section
variable {X:Cx}
theorem K5:Dw X (.builtin "len") (fun xs H Q=>∃ a kvs,xs=[V.ref a]∧Rd H a (.dT kvs)∧Q (.int kvs.length) H):=by
 intro pins s σ H xs us Q I r h
 obtain⟨a,kvs,rfl,ha,q⟩:=h
 obtain⟨u,rfl,ru⟩:=Fk r
 cases ru
 obtain⟨z,y,xs,r,o,es,ep,h1,h2,h3,h4,h5⟩:=(show BW X.prog X.w H s.heap a (.dT kvs)from QM I.hok ha)
 have hl:es.size=kvs.length:=by rw[Paired.length r,← Array.length_toList,h4,List.length_map]
 have hs:sizeLine=16777216:=sizeLine_eq
 exact SA ⟨h1,h2,h3⟩ y (by omega) ⟨.int kvs.length,H,(I.tok _),⟨s.toks+1,by rw[hl]⟩,q⟩
end
end L2
namespace StrT
open PySem PySem.W PyProof.Rows
section
variable {N:Nat}{lt:Nat→Nat→Bool}
structure Ze (lt:Nat→Nat→Bool):Prop where
 tr:∀ a b c,lt b a=false→lt c b=false→lt c a=false
 as:∀ a b,lt a b=true→lt b a=false
def gg (p:Array Nat)(i:Nat):Nat:=p.getD i 0
structure Bs (N:Nat)(p₀ p:Array Nat):Prop where
 sz:p.size=N
 bd:∀ i,gg p i<N
 pm:p.Perm p₀
end
end StrT
namespace L2
open PySem PySem.Spec PyProof.Rows
theorem Cq:bootBuiltins "enumerate"=some (.type "enumerate"):=by nofun
section
variable {X:Cx}{pins:List (Addr×Obj)}{σ:St}{H:Hp}{s:Shared}
def Vv (K:PySem.W.Frag)(a:Addr):It:=
 ⟨fun i H=>∃ xs x,Ax K H a xs∧xs[i]?=some x,fun i H y H'=>∃ x b,(∀ xs,Ax K H a xs→xs[i]?=some x)∧H b=none∧y=.ref b∧H'=upd H b (.tup [.int i,x]),fun i H=>∃ xs,Ax K H a xs∧xs.length≤i⟩
theorem PC {P:Program}{w:World}{K:PySem.W.Frag}{els:List Expr}{x1}{pt:Pos}(a e it:Addr)(hei:e≠it):KJ P w K (.Tuple els x1 pt) (Vv K a) [e,it] e (fun i h=>h.IsListIter it a i∧∃ old,IsEnum h e it (i:Nat) old) where
 mem:=by simp
 obj:=fun i h st b hb=>by
  obtain⟨⟨o,h1,c,d⟩,old,h2⟩:=st
  rcases List.mem_cons.mp hb with rfl | hb
  ·exact⟨_,h2,fun v z=>by cases z⟩
  ·have eb:b=it:=by simpa using hb
   subst eb
   exact⟨o,h1,fun v z=>by rw[d]at z;cases z⟩
 keep:=fun i h h' st k=>⟨st.1.at fun o q=>k it (by simp) o q,st.2.imp fun old q=>k e (by simp) _ q⟩
 item:=by
  intro X hP hw hK hc i pins s σ H E I hf st hg
  subst hP hw hK
  obtain⟨xs,x,hq,hx⟩:=hg
  obtain⟨hit,old,hen⟩:=st
  obtain⟨its,rv,p,hz⟩:=I.list hq
  obtain⟨u,hu,ru⟩:=rv.get hx
  refine wpAny_pyNext_enum_item hen hit p.isList (x:=u) (by simpa using hu) hei fun h1 heo hit1 ht1 hz1 hk1=>⟨_,rfl,?_⟩
  refine wpAny_letOwnedTupleGo_enum (s:={ s with heap:=h1,toks:=s.toks+1 }) heo fun h2 he2 hs2=>?_
  replace hs2:Heap.SameBut e h1 h2:=hs2
  obtain⟨f0,f1,f2,f3,f4,f5⟩:=hf e (by simp)
  obtain⟨g0,g1,g2,g3,g4,g5⟩:=hf it (by simp)
  have eH:e<s.heap.objs.size:=Heap.lt_size hen
  obtain⟨oi0,hoi0,_⟩:=id hit
  have iH:it<s.heap.objs.size:=Heap.lt_size hoi0
  have hit2:h2.IsListIter it a (i+1):=hit1.extBut hs2.extBut (Ne.symm hei)
  obtain⟨oi,hoi,hci,hdi⟩:=id hit2
  have tup2:h2.get? s.heap.objs.size=some { cls:=.type "tuple",data:=.seq #[.int i s.toks,u] }:=(hs2.2 _ (Nat.ne_of_gt eH)).trans ht1
  have he3:IsEnum h2 e it ((i+1:Nat):Int) u:=by
   have e1:((i+1:Nat):Int)=(i:Int)+1:=by push_cast;rfl
   rw[e1];exact he2
  obtain⟨mid,hmz,hme,hmo⟩:∃ mid:Heap,mid.objs.size=s.heap.objs.size∧mid.get? e=h2.get? e∧∀ b,b≠e→mid.get? b=s.heap.get? b:=
   ⟨s.heap.update e (fun _=>{ cls:=.type "enumerate",dict:=none,data:=.fields #[.none,.bool false,.ref it,rawInt ((i+1:Nat):Int),.none,u],slots:=#[] }),Heap.size_update ..,(Heap.get?_update_self _ hen (Obj.isFreed_of_fields rfl)).trans he3.symm,fun b hb=>Heap.get?_update_ne _ _ _ _ hb⟩
  have hmi:mid.get? it=some oi0:=(hmo it (Ne.symm hei)).trans hoi0
  obtain⟨mid2,hnz,hne,hno⟩:∃ mid2:Heap,mid2.objs.size=mid.objs.size∧mid2.get? it=h2.get? it∧∀ b,b≠it→mid2.get? b=mid.get? b:=
   ⟨mid.update it (fun _=>oi),Heap.size_update ..,(Heap.get?_update_self _ hmi (Obj.isFreed_of_fields hdi)).trans hoi.symm,fun b hb=>Heap.get?_update_ne _ _ _ _ hb⟩
  have I1:Ao X pins σ H { s with heap:=mid }:=I.turned (t':=s.toks) (fun b o hb q=>(hmo b hb).trans q) f0 f1 f3 f4 f5
  have I2:Ao X pins σ H { s with heap:=mid2 }:=I1.turned (t':=s.toks) (fun b o hb q=>(hno b hb).trans q) g0 g1 g3 g4 g5
  have k2:∀ b o,mid2.get? b=some o→h2.get? b=some o:=fun b o q=>by
   by_cases c1:b=it
   ·subst c1;exact hne.symm.trans q
   ·rw[hno b c1]at q
    by_cases c2:b=e
    ·subst c2;exact hme.symm.trans q
    ·rw[hmo b c2]at q
     exact(hs2.2 b c2).trans (hk1 b o c2 c1 q)
  have fz:mid2.objs.size≤s.heap.objs.size:=by rw[hnz,hmz];exact Nat.le_refl _
  have I3:Ao X pins σ (upd H s.heap.objs.size (.tup [.int i,x])) { s with heap:=h2,toks:=s.toks+1 }:=
   I2.laid (t':=s.toks+1) k2 fz (show BW X.prog X.w _ h2 _ (.tup [.int i,x])from⟨by show 2≤sizeLine;rw[sizeLine_eq];decide,[.int i s.toks,u],.cons ⟨_,rfl⟩ (.cons ru .nil),⟨_,tup2,rfl,_,rfl⟩⟩)
  refine⟨.ref s.heap.objs.size,_,I3,rfl,⟨x,s.heap.objs.size,fun ys hy=>by rw[I.list_inj hy hq];exact hx,I.hok.fresh (Nat.le_refl _),rfl,rfl⟩,⟨hit2,u,he3⟩,fun b hb=>?_⟩
  rcases List.mem_cons.mp hb with rfl | hb
  ·rw[AX (Nat.ne_of_lt eH)];exact f0
  ·have eb:b=it:=by simpa using hb
   subst eb
   rw[AX (Nat.ne_of_lt iH)];exact g0
 done:=by
  intro X hP hw hK hc i pins s σ H E I hf st hg
  subst hP hw hK
  obtain⟨xs,hq,hx⟩:=hg
  obtain⟨hit,old,hen⟩:=st
  obtain⟨its,rv,p,hz⟩:=I.list hq
  obtain⟨g0,g1,g2,g3,g4,g5⟩:=hf it (by simp)
  have hl:=rv.length
  exact wpAny_pyNext_enum_end (I.ok.hd hc) hen hit p.isList (by simp;omega) fun h' eb=>⟨rfl,I.turned (t':=s.toks) (fun b o hb e=>eb b o hb e) g0 g1 g3 g4 g5⟩
 self:=fun _ _ _ _ _ st h=>by
  obtain⟨_,old,q⟩:=st
  exact wpAny_pyIter_enum q h
def Vw (K:PySem.W.Frag)(ta:TA):TI:=fun σ H R=>ta σ H fun vs H1=>∃ a,vs=[V.ref a]∧(∃ xs,Ax K H1 a xs)∧R (Vv K a) H1
theorem OF {a:Expr}{ta:TA}{p pos pt:Pos}{els:List Expr}{x1}(hg:Gl X "enumerate")(hm:X.mg "enumerate"=none)(hv:bootBuiltins "enumerate"=some (.type "enumerate"))(ha:PA X [a] ta)(hs:starEach [a] X.env=[(false,eval a X.env)]:=by rfl):
 PI X (.Tuple els x1 pt) (.Call (.Name "enumerate" p) [a] [] pos) (Vw X.K ta):=by
 intro pins s σ H R I h
 refine Call_ (Du I hg hm hv (PyProof.Rows.callWith_type1 (BZ (ha pos pins s σ H _ I h) fun us s1 zq=>?_) hs rfl))
 obtain⟨vs,H1,I1,r1,q1⟩:=zq
 obtain⟨l,e,⟨xs,hq⟩,q⟩:=q1
 subst e
 obtain⟨u,rfl,ru⟩:=Fk r1
 cases ru
 obtain⟨its,rv,pl,hz⟩:=I1.list hq
 refine call_enumerate_list pl.isList fun h' he hit hz' kp=>wpAny_pyIter_enum (s:={ s1 with heap:=h' }) he ?_
 have I2:Ao X pins σ H1 { s1 with heap:=h' }:=I1.kept (t':=s1.toks) kp
 have ge:∀ b∈[s1.heap.objs.size+1,s1.heap.objs.size],s1.heap.objs.size≤b:=fun b hb=>by
  rcases List.mem_cons.mp hb with rfl | hb
  ·exact Nat.le_succ _
  ·have eb:b=s1.heap.objs.size:=by simpa using hb
   rw[eb];exact Nat.le_refl _
 exact⟨s1.heap.objs.size+1,_,_,_,H1,rfl,I2,PC l _ s1.heap.objs.size (Nat.ne_of_gt (Nat.lt_succ_self _)),⟨hit,.none,he⟩,fun b hb=>I1.fpOk (ge b hb) (I1.hok.fresh (ge b hb)),q⟩
theorem MT {K:PySem.W.Frag}{a:Addr}{xs:List V}{g:TG}{tb:TS}{D:Dj}{σ:St}{H:Hp}(Pv:Nat→St→Hp→Prop)(h0:Pv 0 σ H)(hl:∀ i σ H,i≤xs.length→Pv i σ H→Ax K H a xs)
 (hs:∀ i x σ H b,xs[i]?=some x→Pv i σ H→H b=none→g (.ref b) σ (upd H b (.tup [.int i,x])) fun σ2 H2=>tb { D with nx:=Pv (i+1),ct:=Pv (i+1),bk:=D.nx } σ2 H2) (hd:∀ σ H,Pv xs.length σ H→D.nx σ H):
 ∃ W:Nat→Nat→St→Hp→Prop,(∃ m,W 0 m σ H)∧∀ i m σ H,W i m σ H→
  ((Vv K a).stop i H∧D.nx σ H)∨((Vv K a).go i H∧∃ N:St→Hp→Prop,(∀ σ' H',N σ' H'→∃ m',m'<m∧W (i+1) m' σ' H')∧∀ x H',(Vv K a).yld i H x H'→g x σ H' fun σ2 H2=>tb { D with nx:=N,ct:=N,bk:=D.nx } σ2 H2):=by
 refine⟨fun i m σ H=>m=xs.length-i∧i≤xs.length∧Pv i σ H,⟨xs.length,by simp,Nat.zero_le _,h0⟩,?_⟩
 rintro i m σ H ⟨rfl,hi,p⟩
 have q:=hl i σ H hi p
 by_cases hlt:i<xs.length
 ·refine .inr ⟨⟨xs,xs[i],q,by simp[hlt]⟩,Pv (i+1),fun σ' H' p'=>⟨xs.length-(i+1),by omega,rfl,hlt,p'⟩,fun x H' y=>?_⟩
  obtain⟨x0,b,y,hb,rfl,rfl⟩:=y
  exact hs i x0 σ H b (y xs q) p hb
 ·have e:i=xs.length:=by omega
  subst e
  exact .inl ⟨⟨xs,q,Nat.le_refl _⟩,hd σ H p⟩
end
structure Je (X:Cx)(scope:Scope)(cl:List (Str×Addr))(x y:Str)(fv:List Str)(js:List Nat):Prop where
 S:CN X scope cl x fv js
 hy:scope.names.lookup y=some .local
 nd:(x::y::fv).Nodup
section
variable {X:Cx}{scope:Scope}{cl:List (Str×Addr)}{x y:Str}{fv:List Str}{js:List Nat}
theorem MU {pins:List (Addr×Obj)}{σ:St}{H:Hp}{s:Shared}{h₁:Heap}{ex:List Addr}{tk:Nat}(S2:Je X scope cl x y fv js)(I:Ao X pins σ H s)
 (hf:∀ b∈ex,Fd X pins H b) (hlt:∀ b∈ex,b<s.heap.objs.size) (hns:h₁.Ns s.heap.objs.size (fun _=>none)) (hk:∀ b o,s.heap.get? b=some o→h₁.get? b=some o):
 Ao (A4 X scope cl s.heap.objs.size (x::y::fv) s H ex (X.pn++pins)) [] (none::none::GZ js σ) H { s with heap:=h₁,toks:=tk }:=by
 have S:=S2.S
 have nstk:∀ b∈ex,b∉Iz X.stack:=fun b hb z=>by
  rcases List.mem_cons.mp (I.stkSub b z)with e | e
  ·exact(hf b hb).2.1 e
  ·exact(hf b hb).2.2.1 e
 have ok:(A4 X scope cl s.heap.objs.size (x::y::fv) s H ex (X.pn++pins)).Ok:=by
  refine⟨I.ok.mod,S.kind,I.ok.glob,I.ok.blt,Nat.le_refl _,fun y' z c h1 h2=>I.ok.inj y' z c (S.cell_of h1) (S.cell_of h2),fun y hy=>?_,(fun y c h hc=>by
   have h':((cl.lookup y).any fun c=>decide (s.heap.objs.size<c))=true:=h
   rw[show cl.lookup y=some c from hc]at h'
   exact Nat.le_of_lt (of_decide_eq_true h')),I.ok.hd,I.ok.frames,.inl rfl,
   fun b hb=>⟨Nat.ne_of_lt (hlt b hb),fun y c h=>(hf b hb).2.2.2.2.1 y c (S.cell_of h)⟩,I.bs,Nat.le_trans I.ok.bsz I.sz,fun b o e hb=>?_,nstk,I.stack,I.stkFree⟩
  ·have hm:y∈fv:=by
    rcases hy with hy | hy
    ·exact S.own hy (.inl rfl)
    ·exact S.own hy (.inr rfl)
   exact Option.isSome_iff_exists.mp (S.vis y hm).2.2
  ·obtain⟨f0,f1,f2,f3,f4,f5⟩:=hf b hb
   rcases f3 with z | z
   ·exact I.ok.noex b o e z
   ·exact absurd (Nat.lt_of_lt_of_le (Heap.lt_size e) (Nat.le_trans I.ok.bsz z)) (Nat.lt_irrefl _)
 refine⟨ok,rfl,I.bare,Un.kept hk,⟨_,hns,fun i y v e1 e2 e3=>?_⟩,fun y c h=>?_,I.hok.fresh (Nat.le_refl _),fun y c h=>I.freeC y c (S.cell_of h),fun p hp=>?_,I.hok.kept hk,?_⟩
 ·rcases i with _ | _ | i
  ·have z:(some (none:Option V))=some (some v):=e2;cases z
  ·have z:(some (none:Option V))=some (some v):=e2;cases z
  ·
   have hy:fv[i]?=some y:=by simpa [A4]using e1
   obtain⟨j,hj,hN⟩:=Gi S.sl hy
   have hv:σ[j]?=some (some v):=by
    have z:(GZ js σ)[i]?=some (some v):=by simpa using e2
    unfold GZ at z
    rw[List.getElem?_map,hj]at z
    have z':(σ[j]?).getD none=some v:=Option.some.inj z
    cases q:σ[j]? with
    | none=>rw[q]at z';cases z'
    | some o=>rw[q]at z';exact congrArg some z'
   obtain⟨hfree,hcell,hsome⟩:=S.vis y (List.mem_of_getElem? hy)
   obtain⟨m,hn,hl⟩:=I.loc
   obtain⟨u,ru,look⟩:=hl j y v hN hv (.inr (.inl hcell))
   refine⟨u,ru,.inr ⟨.inl (CO I.ok.kind hfree hcell),?_⟩⟩
   obtain⟨c',hc'⟩:=Option.isSome_iff_exists.mp hsome
   rcases look with⟨k,_⟩ | ⟨_,c,ec,z⟩
   ·have k':X.env.scope.names.lookup y=some .local:=k
    rw[hcell]at k';cases k'
   ·have e:=S.cell_of hc'
    rw[ec]at e
    cases e
    exact⟨_,hc',by obtain⟨o,ho,hd⟩:=z;exact⟨o,hk _ _ ho,hd⟩⟩
 ·obtain⟨v,o,ho,hd⟩:=I.cell y c (S.cell_of h)
  exact⟨v,o,hk _ _ ho,hd⟩
 ·have hp':p∈X.pn++pins:=by simpa [A4]using hp
  obtain⟨e,n,ne,nf,d⟩:=I.pin p hp'
  refine⟨hk _ _ e,n,Nat.ne_of_lt (Heap.lt_size e),fun z=>?_,d⟩
  rcases List.mem_cons.mp (I.stkSub p.1 z)with q | q
  ·exact ne q
  ·exact nf q
 ·show(none::none::GZ js σ).length=(x::y::fv).length
  have:fv.length=js.length:=Paired.length S.sl
  simp[GZ,this]
end
def UA (wi:TI)(g:TG)(js:List Nat)(tt:TT)(te:TE):TE:=fun σ H Q=>wi σ H fun J H1=>∀ D,H1 D=none→∃ W:Nat→Nat→Hp→Prop,(∃ m,W 0 m (upd H1 D (.lst [])))∧∀ i m H,W i m H→
 (J.stop i H∧Q (.ref D) H)∨(J.go i H∧∀ x H' o1 o2,J.yld i H x H'→g x (o1::o2::GZ js σ) H' fun σ2 H4=>(∃ v1 v2,σ2=some v1::some v2::GZ js σ)∧tt σ2 H4 fun b H2=>
  if b=true then te σ2 H2 fun v H3=>∃ xs,H3 D=some (.lst xs)∧xs.length<sizeLine∧∃ m',m'<m∧W (i+1) m' (upd H3 D (.lst (xs++[v])))
  else ∃ m',m'<m∧W (i+1) m' H2)
theorem QT {X:Cx}{elt iter:Expr}{ifs:List Expr}{x y:Str}{px py tp:Pos}{kk:Nat}{pos:Pos}{scope:Scope}{cl:List (Str×Addr)}{fv:List Str}{js:List Nat}{wi:TI}{tt:TT}{te:TE}(hc:X.calm=true)(hclos:closureFor scope X.env=pure cl)
 (S2:Je X scope cl x y fv js) (hi:PI X (.Tuple [.Name x px,.Name y py] kk tp) iter wi)
 (ht:∀(C:Addr) (s₀:Shared) (H₀:Hp) (ex:List Addr) (pn:List (Addr×Obj)),PF (A4 X scope cl C (x::y::fv) s₀ H₀ ex pn) ifs tt)
 (he:∀(C:Addr) (s₀:Shared) (H₀:Hp) (ex:List Addr) (pn:List (Addr×Obj)),PE (A4 X scope cl C (x::y::fv) s₀ H₀ ex pn) elt te)
 (hs:∀ x,foldedSetIterable iter X.env x=pure x:=by intro _;rfl):PE X (.ListComp elt [⟨.Tuple [.Name x px,.Name y py] kk tp,iter,ifs,0⟩] scope pos) (UA wi (Tl X.K 2 (MC (Ew 0) (MC (Ew 1) Tk))) js tt te):=by
 intro pins s σ H Q I h
 have S:=S2.S
 rw[eval_ListComp]
 refine wpAny_comprehension_free (use:=none) rfl hs hclos S.kind S.nm (BZ (hi pins s σ H _ I h) fun v s1 h1=>BZ h1 fun itv s2 h2=>?_)
 obtain⟨it,fp,tn,J,H2,e,I2,T,st2,f2,hW⟩:=h2
 subst e
 have hD:H2 s2.heap.objs.size=none:=I2.hok.fresh (Nat.le_refl _)
 obtain⟨W,⟨m0,w0⟩,turn⟩:=hW s2.heap.objs.size hD
 have lt2:∀ b∈fp,b<s2.heap.objs.size:=fun b hb=>by
  obtain⟨o,e,_⟩:=T.obj _ _ st2 b hb
  exact Heap.lt_size e
 refine wpAny_newObj_type (wpAny_newFunctionEnv S.nc (by intro y hy;simp at hy) (fun h₁ hns₁ hsb₁=>?_) S.kind)
 dsimp only at hns₁ hsb₁ ⊢
 have I3:Ao X pins σ (upd H2 s2.heap.objs.size (.lst [])) { s2 with heap:=s2.heap.push { cls:=.type "list",dict:=none,data:=.seq ([]:List Value).toArray } }:=I2.lnew (t':=s2.toks) .nil (Nat.zero_le _)
 generalize hS3:({ s2 with heap:=s2.heap.push { cls:=.type "list",dict:=none,data:=.seq ([]:List Value).toArray } }:Shared)=s3 at I3
 have eh:s3.heap=s2.heap.push { cls:=.type "list",dict:=none,data:=.seq ([]:List Value).toArray }:=by rw[← hS3]
 rw[← eh]at hns₁ hsb₁ ⊢
 have hsz:s3.heap.objs.size=s2.heap.objs.size+1:=by rw[eh,Heap.size_push]
 have k23:∀ b o,s2.heap.get? b=some o→s3.heap.get? b=some o:=fun b o e=>by rw[eh];exact Heap.get?_push_of_some _ e
 have k34:∀ b o,s3.heap.get? b=some o→h₁.get? b=some o:=fun b o e=>hsb₁.extBut b o (Nat.ne_of_lt (Heap.lt_size e)) (Heap.get?_push_of_some _ e)
 have f3:∀ b∈fp,Fd X pins (upd H2 s2.heap.objs.size (.lst [])) b:=fun b hb=>⟨by rw[AX (Nat.ne_of_lt (lt2 b hb))];exact(f2 b hb).1,(f2 b hb).2⟩
 have lt3:∀ b∈fp,b<s3.heap.objs.size:=fun b hb=>by rw[hsz];exact Nat.lt_succ_of_lt (lt2 b hb)
 have I4:=MU (tk:=s3.toks) S2 I3 f3 lt3 (h₁:=h₁) (by simpa using hns₁) k34
 generalize hY:A4 X scope cl s3.heap.objs.size (x::y::fv) s3 (upd H2 s2.heap.objs.size (.lst [])) fp (X.pn++pins)=Y at I4
 have hYp:Y.prog=X.prog:=by rw[← hY];rfl
 have hYw:Y.w=X.w:=by rw[← hY];rfl
 have hYK:Y.K=X.K:=by rw[← hY];rfl
 have hYA:Y.A=X.A:=by rw[← hY];rfl
 have hYc:Y.calm=true:=by rw[← hY];exact hc
 have hYe:Y.env=compEnvC scope cl s3.heap.objs.size X.env:=by rw[← hY];rfl
 have hYx:Y.xe=fun _ _=>False:=by rw[← hY];rfl
 have hYN:Y.N=x::y::fv:=by rw[← hY];rfl
 have hgY:PG Y (.Tuple [.Name x px,.Name y py] kk tp) (Tl X.K 2 (MC (Ew 0) (MC (Ew 1) Tk))):=by
  rw[← hYK]
  exact Fi hYc (Bf (BA (X:=Y) (i:=0) (by rw[hYN];exact S2.nd) (by rw[hYN];rfl) (.inl (by rw[hYe];exact lookup_relabel_local S.hx)) (.inr (by rw[hYe];exact lookup_relabel_local S.hx)))
   (Bf (BA (X:=Y) (i:=1) (by rw[hYN];exact S2.nd) (by rw[hYN];rfl) (.inl (by rw[hYe];exact lookup_relabel_local S2.hy)) (.inr (by rw[hYe];exact lookup_relabel_local S2.hy))) EZ))
 have heY:PE Y elt te:=by rw[← hY];exact he _ _ _ _ _
 have htY:PF Y ifs tt:=by rw[← hY];exact ht _ _ _ _ _
 have stat:∀{H':Hp},(∀ b∈fp,H' b=none)→∀ b∈fp,Fd Y [] H' b:=fun {H'} hn b hb=>by
  obtain⟨g0,g1,g2,g3,g4,g5⟩:=f3 b hb
  rw[← hY]
  refine⟨hn b hb,Nat.ne_of_lt (lt3 b hb),fun z=>?_,.inl hb,fun y c e=>g4 y c (S.cell_of e),fun p hp=>g5 p (by simpa [A4]using hp)⟩
  rcases List.mem_cons.mp (I3.stkSub b z)with q | q
  ·exact g1 q
  ·exact g2 q
 have fin:∀{i:Nat} {m:Nat} {σ':St} {H':Hp} {s':Shared},Ao Y [] σ' H' s'→Q (.ref s2.heap.objs.size) H'→compPost (model X.prog X.w) X.A X.xe none (EP X pins σ Q) (.ref s2.heap.objs.size) s3.heap.objs.size (.ok .next) s':=fun {i m σ' H' s'} J q=>by
  obtain⟨mm,hn,_⟩:=J.loc
  rw[← hY]at J hn
  refine⟨mm,hn,fun h'' sb=>?_⟩
  exact⟨.ref _,H',JZ I3 f3 J sb,rfl,q⟩
 have st4:∀ s4:Shared,s4={ s3 with heap:=h₁,toks:=s3.toks }→tn 0 s4.heap:=fun s4 e=>by
  subst e
  exact T.keep _ _ _ st2 fun b hb o e=>k34 b o (k23 b o e)
 have loop:codeAny (model X.prog X.w) X.A (.compLoop (.ListComp elt [⟨.Tuple [.Name x px,.Name y py] kk tp,iter,ifs,0⟩] scope pos) 0 (.ref it) (.ref s2.heap.objs.size) (compEnvC scope cl s3.heap.objs.size X.env))
  (compPost (model X.prog X.w) X.A X.xe none (EP X pins σ Q) (.ref s2.heap.objs.size) s3.heap.objs.size) { s3 with heap:=h₁,toks:=s3.toks }:=by
  refine Fp (fun n s'=>∃(i:Nat) (o1 o2:Option V) (H':Hp),Ao Y [] (o1::o2::GZ js σ) H' s'∧tn i s'.heap∧(∀ b∈fp,H' b=none)∧W i n H') ?_ m0 ⟨0,none,none,_,I4,st4 _ rfl,fun b hb=>(f3 b hb).1,w0⟩
  rintro n s5 ⟨i,o1,o2,H5,I5,st5,fr5,w5⟩
  rcases turn i n H5 w5 with⟨stop,q⟩ | ⟨go,step⟩
  ·have r:=T.done Y hYp hYw hYK hYc i [] s5 _ H5 (fun _ _=>False) I5 (stat fr5) st5 stop
   rw[hYA]at r
   refine BZ r fun r s6 zq=>?_
   obtain⟨hr,I6⟩:=zq
   subst hr
   exact fin (i:=i) (m:=n) I6 q
  ·have r:=T.item Y hYp hYw hYK hYc i [] s5 _ H5 (fun _ _=>False) I5 (stat fr5) st5 go
   rw[hYA]at r
   refine BZ r fun r s6 zq=>?_
   obtain⟨u,hr,h6⟩:=zq
   subst hr
   refine BZ h6 fun _ s7 zq=>?_
   obtain⟨y,H7,I7,r7,y7,st7,fr7⟩:=zq
   have I7':=I7.pinned (stat fr7) (T.obj _ _ st7)
   have r8:=hgY _ s7 _ H7 y u _ I7' r7 (step y _ o1 o2 y7)
   rw[hYp,hYw,hYA,hYe,hYx]at r8
   refine BZ r8 fun _ s8 zq=>?_
   obtain⟨σ8,H8,I8,⟨v1,v2,e1⟩,q8⟩:=zq
   subst e1
   have r9:=htY _ s8 _ _ _ I8 q8
   rw[hYp,hYw,hYA,hYe,hYx]at r9
   refine BZ r9 fun b s9 zq=>?_
   obtain⟨H9,I9,q9⟩:=zq
   have again:∀{σ':St} {H':Hp} {s':Shared},Ao Y ([]++Gf fp s7.heap) (some v1::some v2::GZ js σ) H' s'→(∃ m',m'<n∧W (i+1) m' H')→
    ∃ m,m<n∧∃(i:Nat) (o1 o2:Option V) (H':Hp),Ao Y [] (o1::o2::GZ js σ) H' s'∧tn i s'.heap∧(∀ b∈fp,H' b=none)∧W i m H':=fun {σ' H' s'} K7 ⟨m',hm,w7⟩=>by
    refine⟨m',hm,i+1,some v1,some v2,H',K7.unpinned,T.keep _ _ _ st7 fun b hb o e=>(K7.pin (b,o) (List.mem_append_right _ (List.mem_append_right _ (CG hb e)))).1,fun b hb=>?_,w7⟩
    obtain⟨o,e,d⟩:=T.obj _ _ st7 b hb
    exact(K7.pin (b,o) (List.mem_append_right _ (List.mem_append_right _ (CG hb e)))).2.1
   cases b with
   | false=>
    rw[if_neg Bool.false_ne_true]at q9 ⊢
    exact again (σ':=[]) I9 q9
   | true=>
    rw[if_pos rfl]at q9 ⊢
    have r10:=heY _ s9 _ _ _ I9 q9
    rw[hYp,hYw,hYA,hYe,hYx]at r10
    refine BZ r10 fun v s10 zq=>?_
    obtain⟨y10,H10,I10,ry,xs,hxs,hlen,m',hm,w10⟩:=zq
    have r11:=B7 (X:=Y) _ s10 _ H10 (.ref s2.heap.objs.size) [y10] (.ref s2.heap.objs.size) [v] (fun _ H'=>H'=upd H10 s2.heap.objs.size (.lst (xs++[y10]))) I10 rfl (.cons ry .nil) ⟨_,xs,y10,rfl,rfl,hxs,hlen,rfl⟩
    rw[hYp,hYw,hYA,hYx]at r11
    refine BZ r11 fun _ s11 zq=>?_
    obtain⟨_,H11,I11,_,e11⟩:=zq
    subst e11
    exact again (σ':=[]) I11 ⟨m',hm,w10⟩
 have loop':∀ s4:Shared,s4={ s3 with heap:=h₁,toks:=s3.toks }→codeAny (model X.prog X.w) X.A (.compLoop (.ListComp elt [⟨.Tuple [.Name x px,.Name y py] kk tp,iter,ifs,0⟩] scope pos) 0 (.ref it) (.ref s2.heap.objs.size) (compEnvC scope cl s3.heap.objs.size X.env))
  (compPost (model X.prog X.w) X.A X.xe none (EP X pins σ Q) (.ref s2.heap.objs.size) s3.heap.objs.size) s4:=fun s4 e=>by subst e;exact loop
 have e4:∀ t,t=s3.toks→({ s3 with heap:=h₁,toks:=t }:Shared)={ s3 with heap:=h₁,toks:=s3.toks }:=fun t e=>by rw[e]
 have fin4:∀ s4:Shared,s4={ s3 with heap:=h₁,toks:=s3.toks }→codeAny (model X.prog X.w) X.A (.compStart (.ListComp elt [⟨.Tuple [.Name x px,.Name y py] kk tp,iter,ifs,0⟩] scope pos) 0 (.ref it) (.ref s2.heap.objs.size) (compEnvC scope cl s3.heap.objs.size X.env))
  (compPost (model X.prog X.w) X.A X.xe none (EP X pins σ Q) (.ref s2.heap.objs.size) s3.heap.objs.size) s4:=fun s4 e=>
  codeAny_compStart_list (loop' s4 e) (T.self X.A 0 s4 _ _ (st4 s4 e) (loop' s4 e))
 have es:({ s2 with heap:=s2.heap.push { cls:=.type "list",dict:=none,data:=.seq ([]:List Value).toArray } }:Shared)=s3:=hS3
 refine fin4 _ ?_
 rw[← es]
 rfl
section
variable {X:Cx}
theorem QU {xs:List V}{us:List Value}(r:A1 xs us):A1 xs.reverse us.reverse:=by
 induction r with
 | nil=>exact .nil
 | cons r _ ih=>
  rw[List.reverse_cons,List.reverse_cons]
  exact A1.append ih (.cons r .nil)
end
structure M1 (X:Cx)(o:Expr)(m:Str)(apos:Pos)(e:Expr)(cpos:Pos):Prop where
 base:attributeBase o m X.env (eval o X.env)=eval o X.env
 few:((backTo cpos (starEach [e] X.env)).all (fun x=>!x.1)&&(backToKw cpos (keywordEach [] X.env)).all (fun x=>x.1.isSome)
  && decide (([e]:List Expr).length+([]:List Keyword).length+(if([]:List Keyword).isEmpty then 0 else 1)<30))=true
 line:(apos.endLine==cpos.line)=true
 trees:backTo cpos (starEach [e] X.env)=[(false,eval e X.env)]
structure M2 (X:Cx)(o:Expr)(m:Str)(apos:Pos)(e f:Expr)(cpos:Pos):Prop where
 base:attributeBase o m X.env (eval o X.env)=eval o X.env
 few:((backTo cpos (starEach [e,f] X.env)).all (fun x=>!x.1)&&(backToKw cpos (keywordEach [] X.env)).all (fun x=>x.1.isSome)
  && decide (([e,f]:List Expr).length+([]:List Keyword).length+(if([]:List Keyword).isEmpty then 0 else 1)<30))=true
 line:(apos.endLine==cpos.line)=true
 trees:backTo cpos (starEach [e,f] X.env)=[(false,eval e X.env),(false,eval f X.env)]
def Y7 (H:Hp)(a:Addr):Prop:=(∃ kvs,Rd H a (.dK kvs))∨∃ kvs,Rd H a (.dT kvs)
theorem UB {X:Cx}{pins:List (Addr×Obj)}{σ:St}{H:Hp}{s:Shared}{a:Addr}(I:Ao X pins σ H s)(d:Y7 H a):
 s.TypeIs (.ref a) "dict"∧(∀ b,Value.ref a=.ref b→∃ ob,s.heap.get? b=some ob∧ob.dict=none)∧(a==sysModules)=false:=by
 rcases d with⟨kvs,e⟩ | ⟨kvs,e⟩
 ·obtain⟨_,hd,vs,_,dd⟩:=MP I.hok e
  refine⟨dd.typeIs,fun b q=>?_,hd⟩
  cases q
  obtain⟨ob,_,_,h1,h2,_⟩:=dd
  exact⟨ob,h1,h2.2.1⟩
 ·obtain⟨_,hd,xs,_,dd⟩:=MQ I.hok e
  refine⟨dd.typeIs,fun b q=>?_,hd⟩
  cases q
  obtain⟨ob,_,_,h1,h2,_⟩:=dd
  exact⟨ob,h1,h2.2.1⟩
section
variable {X:Cx}{pins:List (Addr×Obj)}{σ:St}{H:Hp}{s:Shared}{a:Addr}{y d:V}{u r:Value}{o:Option V}{A:Around}{E:Value→Shared→Prop}
theorem UC {Q:Value→Shared→Prop}(hu:A.units+1<cLine)(I:Ao X pins σ H s)(g:Gj H a y o)(ry:A2 y u)(rd:A2 d r)(h:∀ w' s',Ao X pins σ H s'→A2 (o.getD d) w'→Q w' s'):
 wpAny (model X.prog X.w) A (call (.builtin "dict.get") [.ref a,u,r]) Q E s:=by
 rcases g with⟨kvs,k,e,ey,l⟩ | ⟨kvs,k,b,e,ey,eb,l⟩
 ·subst ey
  obtain⟨z,hd,vs,rel,dd⟩:=MP I.hok e
  refine call_meetsIn PySem.F.slot_dict_get dd.typeIs PySem.F.entry_dict_get (PySem.F.args_dict_get_3 _ _ _) (meets_dict_get_default (BU X.prog X.w) a (MO ry) hd r) ⟨_,dd.mapOf,h _ _ (I.tok _) ?_⟩
  rw[l]
  exact(rel.val k).getD rd
 ·subst ey
  cases (show u=Value.ref b from ry)
  obtain⟨z,hd,xs,rel,dd⟩:=MQ I.hok e
  refine call_meetsIn PySem.F.slot_dict_get dd.typeIs PySem.F.entry_dict_get (PySem.F.args_dict_get_3 _ _ _) (meetsH_dict_get_default (tupleKind (BU X.prog X.w)) a b hd r) ⟨tupleKind_room_in1 hu,k,xs,LV I.hok eb,dd,h _ _ (I.tok _) ?_⟩
  rw[l]
  exact(rel.val k).getD rd
end
def UD (td ty tx:TE):TE:=fun σ H Q=>td σ H fun x H1=>∃ a,x=.ref a∧Y7 H1 a∧ty σ H1 fun y H2=>tx σ H2 fun z H3=>∃ o,Gj H3 a y o∧Q (o.getD z) H3
section
variable {X:Cx}{o e f:Expr}{apos cpos:Pos}{td ty tx:TE}
theorem QV (hu:X.A.units+1<cLine)(ho:PE X o td)(he:PE X e ty)(hf:PE X f tx)(m:M2 X o "get" apos e f cpos):PE X (.Call (.Attribute o "get" apos) [e,f] [] cpos) (UD td ty tx):=by
 intro pins s σ H Q I h
 refine wpAny_Call_method m.base m.few m.line PySem.F.plainAttrs_dict PySem.F.slot_dict_get PySem.F.type_dict_get (BZ (ho pins s σ H _ I h) fun u s1 zq=>?_)
 obtain⟨x,H1,I1,rx,a,ex,d,q1⟩:=zq
 subst ex
 obtain rfl:u=Value.ref a:=rx
 obtain⟨t1,t2,_⟩:=UB I1 d
 refine⟨t1,t2,?_⟩
 rw[m.trees]
 refine Calls.callWith_builtin rfl (Calls.evalArgs_plain (Calls.spliced_cons (BZ (he pins s1 σ H1 _ I1 q1) fun iv s2 ⟨y,H2,I2,ry,q2⟩=>
  Calls.spliced_cons (BZ (hf pins s2 σ H2 _ I2 q2) fun fv s3 ⟨z,H3,I3,rz,ov,g,q3⟩=>Calls.spliced_nil ?_))))
 exact UC hu I3 g ry rz fun w' s4 I4 rw'=>⟨_,H3,I4,rw',q3⟩
end
def S3 (w:World)(kv:BC×V)(e:DictEntry):Prop:=JM kv.1 e.key=true∧e.hash=VT w kv.1∧A2 kv.2 e.val
def Vx (w:World)(o:Obj)(kvs:List (BC×V)):Prop:=o.ExactDict∧∃ es ep,o.data=.dict es ep∧Paired (S3 w) kvs es.toList∧(kvs.map (·.1)).Nodup
def QW (w:World)(K:PySem.W.Frag)(a:Addr)(kvs:List (BC×V)):Prop:=∃ ob,K.lookup a=some ob∧Vx w ob kvs∧(a==sysModules)=false
theorem OG {P:Program}{w:World}:∀{kvs:List (BC×V)} {es:List DictEntry},Paired (S3 w) kvs es→∃ vs:List (BC×Value),KV kvs vs∧Pairs (BU P w) es vs∧vs.map (·.1)=kvs.map (·.1)∧∀ e∈es,∃ k,(BU P w).is k e.key=true∧e.hash=(BU P w).hash k
 | _,_,.nil=>⟨[],.nil,.nil,rfl,fun _ h=>nomatch h⟩
 | (kv::_),(e::_),.cons r t=>by
  obtain⟨vs,h1,h2,h3,h4⟩:=OG (P:=P) t
  obtain⟨q1,q2,q3⟩:=r
  refine⟨(kv.1,e.val)::vs,.cons ⟨rfl,q3⟩ h1,.cons q1 rfl h2,by rw[List.map_cons,List.map_cons,h3],fun x hx=>?_⟩
  rcases List.mem_cons.mp hx with z | z
  ·rw[z];exact⟨kv.1,q1,q2⟩
  ·exact h4 x z
section
variable {X:Cx}{pins:List (Addr×Obj)}{σ:St}{H:Hp}{s:Shared}{a:Addr}{kvs:List (BC×V)}
theorem QW.at (I:Ao X pins σ H s)(d:QW X.w X.K a kvs):∃ vs,KV kvs vs∧s.heap.DictOf (BU X.prog X.w) a vs∧∃ ob,s.heap.get? a=some ob∧ob.dict=none:=by
 obtain⟨ob,hk,⟨hx,es,ep,hd,hp,hn⟩,_⟩:=d
 obtain⟨vs,h1,h2,h3,h4⟩:=OG (P:=X.prog) hp
 refine⟨vs,h1,⟨ob,es,ep,I.kIn a ob hk,hx,hd,fun e he=>h4 e (Array.mem_def.mp he),h2,by rw[h3];exact hn⟩,ob,I.kIn a ob hk,hx.2.1⟩
end
def Yb (w:World)(K:PySem.W.Frag)(mg:Str→Option Value)(x:Str)(kvs:List (BC×V)):Prop:=∃ a,mg x=some (.ref a)∧QW w K a kvs
def Vy (w:World)(K:PySem.W.Frag)(mg:Str→Option Value)(x:Str)(kts:List (BC×List V)):Prop:=∃ kvs,Yb w K mg x kvs∧Paired (fun(kv:BC×V) (kt:BC×List V)=>kv.1=kt.1∧∃ a,kv.2=.ref a∧∀ H,Af K H a kt.2) kvs kts
def Yc (w:World)(K:PySem.W.Frag)(kts:List (BC×List V)):TE:=fun _ H Q=>∀ a kvs,QW w K a kvs→Paired (fun(kv:BC×V) (kt:BC×List V)=>kv.1=kt.1∧∃ a,kv.2=.ref a∧∀ H,Af K H a kt.2) kvs kts→Q (.ref a) H
theorem SC {X:Cx}{x:Str}{kts:List (BC×List V)}{pos:Pos}(hm:Vy X.w X.K X.mg x kts)(hg:Gl X x:=by rfl)(hd:(x==("__debug__":Str))=false:=by decide):PE X (.Name x pos) (Yc X.w X.K kts):=by
 obtain⟨kvs,⟨a,h,k⟩,p⟩:=hm
 intro pins s σ H Q I q
 exact G5 I hg h ⟨.ref a,H,I,rfl,q a kvs k p⟩ hd
section
variable {X:Cx}{o i e f:Expr}{pos apos cpos:Pos}{td ty te tf:TE}
def UE (w:World)(K:PySem.W.Frag)(td ty tx:TE):TE:=fun σ H Q=>td σ H fun x H1=>∃ a kvs,x=.ref a∧QW w K a kvs∧ty σ H1 fun y H2=>tx σ H2 fun z H3=>∃ k,y=kV k∧Q ((CA kvs k).getD z) H3
theorem QX (ho:PE X o td)(he:PE X e te)(hf:PE X f tf)(m:M2 X o "get" apos e f cpos):PE X (.Call (.Attribute o "get" apos) [e,f] [] cpos) (UE X.w X.K td te tf):=by
 intro pins s σ H Q I h
 refine wpAny_Call_method m.base m.few m.line PySem.F.plainAttrs_dict PySem.F.slot_dict_get PySem.F.type_dict_get (BZ (ho pins s σ H _ I h) fun u s1 zq=>?_)
 obtain⟨x,H1,I1,rx,a,kvs,ex,d,q1⟩:=zq
 subst ex
 obtain rfl:u=Value.ref a:=rx
 obtain⟨_,_,dd,ob,hob,hno⟩:=d.at I1
 refine⟨dd.typeIs,fun b q=>by cases q;exact⟨ob,hob,hno⟩,?_⟩
 rw[m.trees]
 refine Calls.callWith_builtin rfl (Calls.evalArgs_plain (Calls.spliced_cons (BZ (he pins s1 σ H1 _ I1 q1) fun iv s2 ⟨y,H2,I2,ry,q2⟩=>
  Calls.spliced_cons (BZ (hf pins s2 σ H2 _ I2 q2) fun fv s3 ⟨z,H3,I3,rz,k,ey,q3⟩=>Calls.spliced_nil ?_))))
 subst ey
 obtain⟨vs3,rel3,dd3,_⟩:=d.at I3
 refine call_meetsIn PySem.F.slot_dict_get dd3.typeIs PySem.F.entry_dict_get (PySem.F.args_dict_get_3 _ _ _) (meets_dict_get_default (BU X.prog X.w) a (MO ry) d.choose_spec.2.2 fv) ⟨_,dd3.mapOf,?_⟩
 exact⟨_,H3,I3.tok _,(rel3.val k).getD rz,q3⟩
end
section
variable {prog:Program}{w:World}{A:Around}{E:Value→Shared→Prop}{s:Shared}
theorem NS {it t:Addr}{i:Nat}{items:Array Value}{x:Value}{Q:Value→Shared→Prop}(hit:s.heap.IsTupleIter it t i)(ht:s.heap.IsTuple t items)(hx:items[i]?=some x)
 (hQ:∀ h',h'.IsTupleIter it t (i+1)→Heap.SameBut it s.heap h'→Q x { s with heap:=h' }):wpAny (model prog w) A (Builtin.SmallTypes.nextOf (.ref it)) Q E s:=by
 obtain⟨o,ho,hc,hd⟩:=id hit
 obtain⟨ol,hol,_,nl,hdl⟩:=ht
 unfold Builtin.SmallTypes.nextOf
 refine wpAny_bind (wpAny_callSpecial?_slot (name:=Str.ofString "__next__") hit.typeIs F.slot_tuple_iterator_next (wpAny_call_entry F.slot_tuple_iterator_next hit.typeIs F.entry_tuple_iterator_next ?_ (F.args_tuple_iterator_next_1 _)))
 show wpAny _ _ (field (.ref it) 0 >>= _) _ _ s
 refine wpAny_bind (wpAny_field ho hd (x:=.ref t) rfl ?_)
 show wpAny _ _ (if(Value.ref t==Value.none)=true then _ else _) _ _ s
 rw[if_neg (show ¬ ((Value.ref t==Value.none)=true)from Bool.false_ne_true)]
 show wpAny _ _ (field (.ref it) 1 >>= _) _ _ s
 refine wpAny_bind (wpAny_field ho hd (x:=.int i 0) rfl ?_)
 show wpAny _ _ (seqItems? (.ref t) >>= _) _ _ s
 refine wpAny_bind (wpAny_seqItems hol hdl ?_)
 simp only[Int.toNat_natCast,hx]
 refine wpAny_bind (wpAny_setField ho hd (by simp) (wpAny_pure ⟨x,rfl,wpAny_pure (hQ _ ?_ (Heap.SameBut.update ..))⟩))
 exact⟨_,Heap.get?_update_self _ ho (Obj.isFreed_of_fields (Obj.data_mapFields hd _)),(Obj.cls_mapFields ..).trans hc,by
  rw[Obj.data_mapFields hd];simp[rawInt]⟩
theorem PD {it t:Addr}{i:Nat}{items:Array Value}{Q:Value→Shared→Prop}(hh:A.handled=none)(hit:s.heap.IsTupleIter it t i)(ht:s.heap.IsTuple t items)(hx:items[i]?=none)
 (hE:∀ h' e,Heap.ExtBut it s.heap h'→(∃ o,h'.get? e=some o∧o.cls=.type "StopIteration")→E (.ref e) { s with heap:=h' }):wpAny (model prog w) A (Builtin.SmallTypes.nextOf (.ref it)) Q E s:=by
 obtain⟨o,ho,hc,hd⟩:=id hit
 obtain⟨ol,hol,_,nl,hdl⟩:=ht
 unfold Builtin.SmallTypes.nextOf
 refine wpAny_bind (wpAny_callSpecial?_slot (name:=Str.ofString "__next__") hit.typeIs F.slot_tuple_iterator_next (wpAny_call_entry F.slot_tuple_iterator_next hit.typeIs F.entry_tuple_iterator_next ?_ (F.args_tuple_iterator_next_1 _)))
 show wpAny _ _ (field (.ref it) 0 >>= _) _ _ s
 refine wpAny_bind (wpAny_field ho hd (x:=.ref t) rfl ?_)
 show wpAny _ _ (if(Value.ref t==Value.none)=true then _ else _) _ _ s
 rw[if_neg (show ¬ ((Value.ref t==Value.none)=true)from Bool.false_ne_true)]
 show wpAny _ _ (field (.ref it) 1 >>= _) _ _ s
 refine wpAny_bind (wpAny_field ho hd (x:=.int i 0) rfl ?_)
 show wpAny _ _ (seqItems? (.ref t) >>= _) _ _ s
 refine wpAny_bind (wpAny_seqItems hol hdl ?_)
 simp only[Int.toNat_natCast,hx]
 refine wpAny_bind (wpAny_rule (wpAny_bind (wpAny_setField ho hd (by simp) ?_)))
 show wpAny _ _ (newExc (.type "StopIteration") [] >>= _) _ _ _
 refine wpAny_bind ?_
 simp only[newExc,newTuple]
 refine wpAny_bind (wpAny_newObj_type ?_ (by size_fits))
 refine wpAny_bind (m:=firstArgMember _ _) (wpAny_of_eq (a:=Value.none) (by first | rfl | (simp only[firstArgMember];rfl)) ?_)
 refine wpAny_newObj_type ?_ (by size_fits)
 simp only[raiseNew]
 refine wpAny_bind (wpAny_handled ?_)
 first | rw[show A.in1.handled=none from hh] | rw[hh]
 refine wpAny_bind (wpAny_pure (wpAny_throw ?_))
 exact hE _ _ (((Heap.SameBut.update ..).extBut.push _).push _) ⟨_,Heap.get?_push_size _ rfl,rfl⟩
end
theorem Vz {h h2:Heap}:∀ fs:List Addr,(∀ b∈fs,∃ o,h.get? b=some o)→(∀ b∈fs,∃ o,h2.get? b=some o∧o.isFreed=false)→
 ∃ mid:Heap,mid.objs.size=h.objs.size∧(∀ b∈fs,mid.get? b=h2.get? b)∧∀ b,b∉fs→mid.get? b=h.get? b
 | [],_,_=>⟨h,rfl,(fun _ hb=>nomatch hb),fun _ _=>rfl⟩
 | b::fs,h1,h2'=>by
  obtain⟨m,e1,e2,e3⟩:=Vz fs (fun c hc=>h1 c (List.mem_cons_of_mem _ hc)) (fun c hc=>h2' c (List.mem_cons_of_mem _ hc))
  obtain⟨o,ho,hf⟩:=h2' b (by simp)
  obtain⟨o1,ho1⟩:∃ o1,m.get? b=some o1:=by
   by_cases c:b∈fs
   ·exact⟨o,(e2 b c).trans ho⟩
   ·obtain⟨o1,q⟩:=h1 b (by simp)
    exact⟨o1,(e3 b c).trans q⟩
  have hb:(m.update b fun _=>o).get? b=some o:=Heap.get?_update_self (fun _=>o) ho1 hf
  refine⟨m.update b fun _=>o,(Heap.size_update ..).trans e1,fun c hc=>?_,fun c hc=>?_⟩
  ·by_cases e:c=b
   ·subst e;exact hb.trans ho.symm
   ·rw[Heap.get?_update_ne _ _ _ _ e]
    rcases List.mem_cons.mp hc with z | z
    ·exact absurd z e
    ·exact e2 c z
  ·have e:c≠b:=fun z=>hc (by simp[z])
   rw[Heap.get?_update_ne _ _ _ _ e]
   exact e3 c fun z=>hc (List.mem_cons_of_mem _ z)
section
variable {X:Cx}{pins:List (Addr×Obj)}{σ:St}{H:Hp}{s:Shared}{h':Heap}
theorem Ao.turnedL {t':Nat}{fs:List Addr}(I:Ao X pins σ H s)(k:∀ b o,b∉fs→s.heap.get? b=some o→h'.get? b=some o)(ok:∀ b∈fs,Fd X pins H b):Ao X pins σ H { s with heap:=h',toks:=t' }:=by
 have nit:∀ b u,H b=some u→b∉fs:=fun b u e z=>by rw[(ok b z).1]at e;cases e
 refine I.step (g':=s.gens) (d':=s.drawn) (ch:=fs) (fun b hb=>?_) (fun b o _ _ hc e _=>k b o hc e) (fun b o _ _ hc e _=>⟨o.slots,k b o hc e⟩) (fun _ _ _ _ n=>n)
  (fun b o hc e=>⟨o,k b o hc e⟩) (fun _ _ e=>e) (fun _ _ _ e=>e) (fun b ps e=>⟨#[],by rw[e];simp⟩) (fun m hm=>?_) (fun b u e=>?_) I.bare
 ·obtain⟨f0,f1,f2,f3,f4,f5⟩:=ok b hb
  exact⟨f3,f1,f4,f5⟩
 ·obtain⟨o,es,ep,ho,r⟩:=hm
  exact⟨o,es,ep,k _ o (fun z=>(ok _ z).2.1 rfl) ho,r⟩
 ·refine(I.hok b u e).stay (fun c v hc q=>k c v ?_ q) (fun _ q=>q) fun _ _ q=>q
  rcases hc with z | z
  ·rw[z];exact nit b u e
  ·exact nit c _ z
end
inductive MV (H:Hp):Nat→V→V→Prop where
 | fl {n:Nat} {x:V} (h:Bl x=true):MV H n x x
 | rf {n:Nat} {a:Addr}:MV H n (.ref a) (.ref a)
 | tp {n:Nat} {a b:Addr} {xs ys:List V} (h1:H a=some (.tup xs)) (h2:H b=some (.tup ys)) (hl:xs.length=ys.length)
  (hh:∀(j:Nat) (u v:V),xs[j]?=some u→ys[j]?=some v→MV H n u v):MV H (n+1) (.ref a) (.ref b)
theorem QY {x:V}(h:Bl x=true):JU x x=true:=by
 cases x <;> first | rfl | exact absurd (show false=true from h) Bool.false_ne_true | simp[JU]
section
variable {X:Cx}{pins:List (Addr×Obj)}{σ:St}{H:Hp}{s:Shared}
theorem K6 {n:Nat}:(List.range n).all (fun _=>true)=true:=by simp
theorem MW (I:Ao X pins σ H s){n:Nat}{A:Around}{xs ys:List V}{us vs:List Value}(r1:A1 xs us)(r2:A1 ys vs)
 (ih:∀(j:Nat) (u v:V),xs[j]?=some u→ys[j]?=some v→∀ u' v',A2 u u'→A2 v v'→SeqAt.EqAt A s u' v' true):
 ∀ j (h1:j<us.toArray.size) (h2:j<vs.toArray.size),SeqAt.EqAt A s us.toArray[j] vs.toArray[j] ((fun _=>true) j):=by
 intro j h1 h2
 have l1:=r1.length
 have l2:=r2.length
 rw[List.size_toArray]at h1 h2
 have ex:xs[j]?=some (xs[j]'(by omega)):=List.getElem?_eq_getElem _
 have ey:ys[j]?=some (ys[j]'(by omega)):=List.getElem?_eq_getElem _
 obtain⟨u,hu',ru⟩:=r1.get ex
 obtain⟨v,hv',rv⟩:=r2.get ey
 have eu:us.toArray[j]'(by simpa using h1)=u:=by
  rw[List.getElem?_eq_getElem h1]at hu'
  simpa using Option.some.inj hu'
 have ev:vs.toArray[j]'(by simpa using h2)=v:=by
  rw[List.getElem?_eq_getElem h2]at hv'
  simpa using Option.some.inj hv'
 rw[eu,ev]
 exact ih j _ _ ex ey u v ru rv
theorem MV.at (I:Ao X pins σ H s){n:Nat}{x y:V}(h:MV H n x y):∀{A:Around} {u v:Value},A.units+n<cLine→A2 x u→A2 y v→SeqAt.EqAt A s u v true:=by
 induction h with
 | fl hf=>
  intro A u v _ rx ry
  have:=LR (A:=A) (s:=s) rx ry hf hf
  rw[QY hf]at this
  exact this
 | rf=>
  intro A u v _ rx ry
  cases rx
  cases ry
  exact SeqAt.EqAt.same _
 | @tp n a b xs ys h1 h2 hl hh ih=>
  intro A u v hu rx ry
  cases rx
  cases ry
  by_cases e:a=b
  ·subst e;exact SeqAt.EqAt.same _
  obtain⟨its,r1,p,_⟩:=I.tuple (Af.of h1)
  obtain⟨its2,r2,p2,_⟩:=I.tuple (Af.of h2)
  have rc:=SeqAt.RcAt.tuples (A:=A) (s:=s) (e:=fun _=>true) (show s.heap.IsTuple a its.toArray from p) (show s.heap.IsTuple b its2.toArray from p2) (by omega)
   (MW I (n:=n) r1 r2 fun j u v e1 e2 u' v' ru rv=>ih j u v e1 e2 (A:=A.in1) (show A.units+1+n<cLine by omega) ru rv)
  rw[List.size_toArray,List.size_toArray,← r1.length,← r2.length,K6,hl]at rc
  exact SeqAt.EqAt.of_refs e (by simpa using rc)
theorem SD {k:Nat}(hu:X.A.units+k<cLine):GL X (compareOp .NotEq) (fun x y H Q=>∃ a b xs ys n,x=.ref a∧y=.ref b∧H a=some (.tup xs)∧H b=some (.tup ys)∧xs.length=ys.length∧n<k∧(∀(j:Nat) (u v:V),xs[j]?=some u→ys[j]?=some v→MV H n u v)∧Q (.bl false) H):=by
 intro pins s σ H x y v u Q I rx ry h
 obtain⟨a,b,xs,ys,n,rfl,rfl,ha,hb,hl,hn,hx,q⟩:=h
 cases rx
 cases ry
 obtain⟨its,r1,p1,_⟩:=I.tuple (Af.of ha)
 obtain⟨its2,r2,p2,_⟩:=I.tuple (Af.of hb)
 refine SeqAt.RcNeAt.tuples (e:=fun _=>true) (show s.heap.IsTuple a its.toArray from p1) (show s.heap.IsTuple b its2.toArray from p2) (by omega) (MW I (n:=n) r1 r2 fun j u v e1 e2 u' v' ru rv=>(hx j u v e1 e2).at I (A:=X.A.in1) (show X.A.units+1+n<cLine by omega) ru rv) X.prog X.w X.xe _ ⟨.bl false,H,I,?_,q⟩
 rw[List.size_toArray,List.size_toArray,← r1.length,← r2.length,K6,hl]
 simp[A2]
end
section
variable {prog:Program}{w:World}{A:Around}{E:Value→Shared→Prop}{s:Shared}
theorem SE:typeLookup (.type "list_reverseiterator") "__len__"=pure none:=by rw[typeLookup_type,builtinLookup_eq_fast];kernel_rfl
theorem QZ:typeLookup (.type "list_reverseiterator") "__length_hint__"=pure (some (.builtin "list_reverseiterator.__length_hint__")):=by rw[typeLookup_type,builtinLookup_eq_fast];kernel_rfl
theorem Qa {it l:Addr}{i:Int}{Q:Bool→Shared→Prop}(hit:s.heap.IsRevIter it l i)(h:Q false s):wpAny (model prog w) A (Builtin.List.listLengthHint (.ref it)) Q E s:=by
 unfold Builtin.List.listLengthHint
 refine wpAny_bind (wpAny_specialOf hit.typeIs SE ?_)
 wp_delta
 refine wpAny_ite_split (fun hab=>absurd hab (by nofun)) (fun _=>?_)
 refine wpAny_ite_split (fun hab=>absurd hab (by decide)) (fun _=>?_)
 refine wpAny_bind (wpAny_specialOf hit.typeIs QZ ?_)
 generalize hid:("list_reverseiterator.__length_hint__":String)=id0
 wp_delta
 rw[show splitId id0=some ("list_reverseiterator","__length_hint__")from by subst hid;nofun]
 subst hid
 refine wpAny_bind (wpAny_isInstance (T:="list_reverseiterator") (b:=true) hit.typeIs (by rw[isSubtype_type];kernel_rfl) ?_)
 refine wpAny_ite_split (fun hab=>absurd hab (by decide)) (fun _=>?_)
 refine wpAny_ite_split (fun _=>?_) (fun hab=>absurd (by nofun) hab)
 refine wpAny_ite_split (fun hab=>absurd hab (by nofun)) (fun _=>?_)
 exact wpAny_pure h
end
section
variable {prog:Program}{w:World}{A:Around}{E:Value→Shared→Prop}{s:Shared}
theorem NT {R:Result→Shared→Prop}{it l:Addr}{items:Array Value}(hh:A.handled=none)(hit:s.heap.IsRevIter it l ((items.size:Int)-1))(hl:s.heap.IsList l items)(hne:l≠it)(hn:items.size≤sizeLine)
 (S:Addr) (hSi:S≠it) (hSl:S≠l) (res:Value) (c₀:Nat) (hS:s.heap.get? S=some { cls:=.type "list",data:=.seq #[] c₀ })
 (hR:∀ h' tk acc' c',(∀ b o,b≠S→b≠it→s.heap.get? b=some o→h'.get? b=some o)→h'.get? S=some { cls:=.type "list",dict:=none,data:=.seq acc' c',slots:=#[] }→
  ItemsOf (fun i v=>items[items.size-1-i]?=some v) acc' items.size→R (.ok (.ret res)) { s with heap:=h',toks:=tk }):
 wpAny (model prog w) A.in1 (Builtin.List.listExtendWith (.ref S) (.ref it) res)
  (fun fin s'=>match fin with | .done f=>R (.ok f) s' | .again c'=>c'.quiet=true∧codeAny (model prog w) A c' R s') (fun e s'=>R (.error e) s') s:=by
 have hSf:S∉[it,l]:=fun hm=>by
  rcases List.mem_cons.mp hm with e | hm
  ·exact hSi e
  ·exact hSl (List.mem_singleton.mp hm)
 have W:=(Walks.listRev (prog:=prog) (w:=w) (A:=A.in1) hh it l hne items).toS
 unfold Builtin.List.listExtendWith
 refine wpAny_bind (wpAny_typeOf (T:="list_reverseiterator") hit.typeIs ?_)
 have h1:Builtin.List.listSameRef (.ref S) (.ref it)=false:=by simp[Builtin.List.listSameRef,hSi]
 have h2:(Value.type "list_reverseiterator"==Value.type "list")=false:=by decide
 have h3:(Value.type "list_reverseiterator"==Value.type "tuple")=false:=by decide
 simp only[h1,h2,h3,Bool.or_false,Bool.false_eq_true,if_false]
 refine wpAny_bind (wpAny_pyIter_revIter hit ?_)
 refine wpAny_bind (wpAny_holding (Qa hit ?_))
 rw[if_neg (by nofun)]
 have e0:(items.size:Int)-1-((0:Nat):Int)=(items.size:Int)-1:=by omega
 refine wpAny_pure ⟨plainId_quiet F.plain_extend_loop _,codeAny_extend_loopS W hn S hSf res items.size 0 s #[] c₀ rfl (Nat.zero_le _) ⟨Nat.zero_le _,by rw[e0];exact hit,hl⟩ hS (ItemsOf.nil _) fun s' acc' c' hm hS' hacc=>?_⟩
 rw[Moved.eq_with hm]
 refine hR s'.heap s'.toks acc' c' (fun b o hb hb2 e=>hm.heap b o (fun hmem=>?_) e) hS' hacc
 rcases List.mem_cons.mp hmem with e' | hmem
 ·exact hb e'
 ·exact hb2 (List.mem_singleton.mp hmem)
theorem KN {R:Result→Shared→Prop}{it l:Addr}{items:Array Value}(hh:A.handled=none)(hit:s.heap.IsRevIter it l ((items.size:Int)-1))(hl:s.heap.IsList l items)(hne:l≠it)(hn:items.size≤sizeLine)
 (S:Addr) (hSi:S≠it) (hSl:S≠l) (hS:s.heap.get? S=some { cls:=.type "list",data:=.seq #[] })
 (hR:∀ h' tk acc' c',(∀ b o,b≠S→b≠it→s.heap.get? b=some o→h'.get? b=some o)→h'.get? S=some { cls:=.type "list",dict:=none,data:=.seq acc' c',slots:=#[] }→
  ItemsOf (fun i v=>items[items.size-1-i]?=some v) acc' items.size→R (.ok (.ret .none)) { s with heap:=h',toks:=tk }):
 wpAny (model prog w) A.in1 (Builtin.«list.__init__» ⟨[.ref S,.ref it],[]⟩)
  (fun fin s'=>match fin with | .done f=>R (.ok f) s' | .again c'=>c'.quiet=true∧codeAny (model prog w) A c' R s') (fun e s'=>R (.error e) s') s:=by
 show wpAny _ _ (do let old ← Builtin.List.listItems (.ref S);Builtin.List.listUpdate (.ref S) (fun _=>#[]);letGo old.toList.reverse;Builtin.List.listExtendWith (.ref S) (.ref it) .none) _ _ s
 refine wpAny_bind ?_
 unfold Builtin.List.listItems
 refine wpAny_bind (wpAny_seqItems hS rfl (wpAny_pure ?_))
 show wpAny _ _ (updateSeq S (fun _=>#[]) >>= fun _=>letGo (#[]:Array Value).toList.reverse >>= fun _=>Builtin.List.listExtendWith (.ref S) (.ref it) .none) _ _ s
 refine wpAny_bind (wpAny_updateSeq hS rfl ?_)
 have hS₂:=Heap.get?_update_self (Obj.mapSeq (fun _=>(#[]:Array Value))) hS rfl
 have oth:∀ b o,b≠S→s.heap.get? b=some o→(s.heap.update S (Obj.mapSeq (fun _=>(#[]:Array Value)))).get? b=some o:=
  fun b o hb e=>(Heap.get?_update_other _ _ (Ne.symm hb)).trans e
 refine wpAny_bind (wpAny_letGo ?_)
 refine NT hh (hit.at fun o e=>oth _ o (Ne.symm hSi) e) (hl.at fun o e=>oth _ o (Ne.symm hSl) e) hne hn S hSi hSl .none _ hS₂ fun h' tk acc' c' hk hS' hacc=>?_
 exact hR h' tk acc' c' (fun b o hb hb2 e=>hk b o hb hb2 (oth b o hb e)) hS' hacc
theorem KO {Q:Value→Shared→Prop}{it l:Addr}{items:Array Value}(hh:A.handled=none)(hit:s.heap.IsRevIter it l ((items.size:Int)-1))(hl:s.heap.IsList l items)(hne:l≠it)(hn:items.size≤sizeLine)
 (hQ:∀ h' tk acc' c',(∀ b o,b≠it→s.heap.get? b=some o→h'.get? b=some o)→
  h'.get? s.heap.objs.size=some { cls:=.type "list",dict:=none,data:=.seq acc' c',slots:=#[] }→ItemsOf (fun i v=>items[items.size-1-i]?=some v) acc' items.size→Q (.ref s.heap.objs.size) { s with heap:=h',toks:=tk }):
 wpAny (model prog w) A (call (.type "list") [.ref it]) Q E s:=by
 refine callType_codes (Q₁:=fun obj s₁=>obj=.ref s.heap.objs.size∧s₁={ s with heap:=s.heap.push { cls:=.type "list",data:=.seq #[] } }) F.called_list (F.typeCall_list_1 _) F.entry_list_init
  (code_list_new _ ⟨rfl,rfl⟩) fun obj s₁ h₁=>?_
 obtain⟨rfl,rfl⟩:=h₁
 have hS:(s.heap.push { cls:=.type "list",data:=.seq #[] }).get? s.heap.objs.size=some { cls:=.type "list",data:=.seq #[] }:=Heap.get?_push_size _ rfl
 have i1:s.heap.objs.size≠it:=by obtain⟨o,q,_⟩:=hit;exact Nat.ne_of_gt (Heap.lt_size q)
 have i2:s.heap.objs.size≠l:=by obtain⟨o,q,_⟩:=hl;exact Nat.ne_of_gt (Heap.lt_size q)
 refine⟨⟨_,hS,rfl⟩,F.args_list_init_2 _ _,KN (A:=A.in1) hh (hit.at fun o e=>Heap.get?_push_of_some _ e) (hl.at fun o e=>Heap.get?_push_of_some _ e) hne hn _ i1 i2 hS fun h' tk acc' c' hk hS' hacc=>?_⟩
 exact⟨rfl,hQ h' tk acc' c' (fun b o hb e=>hk b o (Nat.ne_of_lt (Heap.lt_size e)) hb (Heap.get?_push_of_some _ e)) hS' hacc⟩
end
theorem PH {its:List Value}{acc:Array Value}(h:ItemsOf (fun i v=>its.toArray[its.toArray.size-1-i]?=some v) acc its.toArray.size):acc=its.reverse.toArray:=by
 obtain⟨h1,h2⟩:=h
 apply Array.ext'
 rw[List.toList_toArray]
 apply List.ext_getElem?
 intro j
 have hz:acc.toList.length=its.length:=by rw[Array.length_toList,h1,List.size_toArray]
 by_cases c:j<its.length
 ·have hj:acc[j]?=some (acc[j]'(by rw[h1,List.size_toArray];exact c)):=Array.getElem?_eq_getElem _
  have e:=h2 j _ hj
  rw[List.getElem?_reverse c,Array.getElem?_toList,hj,← e]
  simp
 ·rw[List.getElem?_eq_none (by omega),List.getElem?_eq_none (by rw[List.length_reverse];omega)]
section
variable {X:Cx}
def V0 (K:PySem.W.Frag)(te:TE):TE:=fun σ H Q=>te σ H fun x H1=>∃ a xs,x=.ref a∧Ax K H1 a xs∧∀ l,H1 l=none→Q (.ref l) (upd H1 l (.lst xs.reverse))
theorem MX:bootBuiltins "reversed"=some (.type "reversed"):=by nofun
theorem NU {e:Expr}{te:TE}{p p2 pos pos2:Pos}(hc:X.calm=true)(hg:Gl X "list")(hm:X.mg "list"=none)(hv:bootBuiltins "list"=some (.type "list"))(hg2:Gl X "reversed")(hm2:X.mg "reversed"=none)(he:PE X e te)
 (hs:starEach [e] X.env=(false,eval e X.env)::starEach [] X.env:=by rfl):
 PE X (.Call (.Name "list" p) [.Call (.Name "reversed" p2) [e] [] pos2] [] pos) (V0 X.K te):=by
 intro pins s σ H Q I h
 refine wpAny_Call_Name_kw (Du I hg hm hv ?_)
 refine PyProof.Rows.callWith_type1 ?_ rfl rfl
 show wpAny _ _ (spliced ((false,eval (.Call (.Name "reversed" p2) [e] [] pos2) X.env)::backTo pos (starEach [] X.env))) _ _ s
 refine Calls.spliced_cons ?_
 refine wpAny_Call_Name_kw (Du I hg2 hm2 MX ?_)
 refine PyProof.Rows.callWith_type1 ?_ hs rfl
 rw[hs]
 show wpAny _ _ (spliced ((false,eval e X.env)::backTo pos2 (starEach [] X.env))) _ _ s
 refine Calls.spliced_cons (BZ (he pins s σ H _ I h) fun u s1 ⟨x,H1,I1,r1,q1⟩=>Calls.spliced_nil ?_)
 obtain⟨a,xs,rfl,hq,q⟩:=q1
 cases r1
 obtain⟨its,rv,pl,hz⟩:=I1.list hq
 have hlen:=rv.length
 have hl:=pl.isList
 refine call_reversed_list hl (Calls.spliced_nil ?_)
 have la:a<s1.heap.objs.size:=by obtain⟨o,z,_⟩:=hl;exact Heap.lt_size z
 refine KO (items:=its.toArray) (I.ok.hd hc) ⟨_,Heap.get?_push_size _ rfl,rfl,rfl⟩ (hl.at fun o z=>Heap.get?_push_of_some _ z) (Nat.ne_of_lt la) (by rw[List.size_toArray];omega) fun h' tk acc' c' hk hS' hacc=>?_
 have e:=PH hacc
 subst e
 have hp:s1.heap.objs.size≤(s1.heap.push (revObj a ((its.toArray.size:Int)-1))).objs.size:=by rw[Heap.size_push];exact Nat.le_succ _
 refine⟨.ref _,_,I1.laid (t':=tk) (o:=.lst xs.reverse) (fun b o z=>hk b o (Nat.ne_of_lt (Heap.lt_size z)) (Heap.get?_push_of_some _ z)) hp ?_,rfl,q _ (I1.hok.fresh hp)⟩
 exact⟨by rw[List.length_reverse];exact hz,its.reverse,c',QU rv,hS'⟩
end
theorem Cr {X:Cx}{es:List Expr}{te:TE}{t:TA}{pos:Pos}{a0:Arguments}{a1:Expr}{a2:Scope}(ha:PE X (Expr.Lambda a0 a1 a2 pos) te)(hr:PA X es t):PA X ((Expr.Lambda a0 a1 a2 pos)::es) (Ea te t):=CY ha hr rfl
def BM (mg:Str→Option Value)(base:Heap):Prop:=
 ∃ bm o,mg "__builtins__"=some (.ref bm)∧(bm≠builtinsNs∧bm≠mainGlobals)∧base.get? bm=some o∧o.cls=.type "module"∧o.dict=some builtinsNs∧o.data=.plain
theorem BM.keep {mg:Str→Option Value}{h h':Heap}(B:BM mg h)(k:∀ b o,h.get? b=some o→h'.get? b=some o):BM mg h':=by
 obtain⟨bm,o,a,n,e,r⟩:=B
 exact⟨bm,o,a,n,k _ _ e,r⟩
def Gb (H:Hp)(q:Str)(c:Addr):Prop:=∃ o vs t,H c=some (.frz o (.own 0))∧o.data=.fields vs∧vs[1]?=some (.str q t)
def BN (H:Hp)(P:Addr)(q:Str):Prop:=∃ ps,H P=some (.tbl ps)∧TriplesOk ps.toList∧∀ pos cv,codeAmong pos ps.toList=some cv→∃ c,cv=.ref c∧Gb H q c
theorem Gb.keep {H H':Hp}{q:Str}{c:Addr}(x:Gb H q c)(h:∀ b o,H b=some (.frz o (.own 0))→H' b=some (.frz o (.own 0))):Gb H' q c:=by
 obtain⟨o,vs,t,e,r⟩:=x
 exact⟨o,vs,t,h _ _ e,r⟩
theorem BN.sm {H H':Hp}{P:Addr}{q:Str}(x:BN H P q)(h:AI H H'):BN H' P q:=by
 obtain⟨ps,e,t,k⟩:=x
 refine⟨ps,h _ _ e,t,fun pos cv z=>?_⟩
 obtain⟨c,e1,e2⟩:=k pos cv z
 exact⟨c,e1,e2.keep fun b o=>h b _⟩
theorem BN.nil {H:Hp}{P:Addr}{q:Str}(h:H P=some (.tbl #[])):BN H P q:=⟨#[],h,trivial,fun _ _ z=>by cases z⟩
theorem LY {a b:Int}{ta tb:Tok}{c:Value}:∀ l:List Value,TriplesOk l→TriplesOk (l++[.int a ta,.int b tb,c]):=fun l=>by
 fun_induction TriplesOk l with
 | case1=>intro _;exact trivial
 | case2 a t b u x Bv ih=>intro h;exact ih h
 | case3=>intro h;exact h.elim
theorem NV {p:Pos}{a b:Int}{ta tb:Tok}{c cv:Value}:∀ l:List Value,TriplesOk l→codeAmong p (l++[.int a ta,.int b tb,c])=some cv→codeAmong p l=some cv∨cv=c:=fun l=>by
 fun_induction TriplesOk l with
 | case1=>
  intro _ h
  simp only[List.nil_append,codeAmong]at h
  split at h
  ·cases h;exact .inr rfl
  ·cases h
 | case2 a t b u x Bv ih=>
  intro ht h
  simp only[List.cons_append,codeAmong]at h ⊢
  split at h
  ·rename_i hc;rw[if_pos hc];exact .inl h
  ·rename_i hc;rw[if_neg hc];exact ih ht h
 | case3=>intro h;exact h.elim
def V1 (H:Hp)(q:Str)(f:Addr)(params:Arguments)(body:Expr)(scope:Scope)(cl:List (Str×Addr))(pm:Value):Prop:=
 ∃ c ctv,H f=some (.frz (PySem.W.kla_obj "<lambda>" q params body scope cl pm c ctv) (.own 0))∧Gb H q c
def Yd (P:Addr)(q:Str)(params:Arguments)(body:Expr)(scope:Scope)(cl:List (Str×Addr))(pm:Value):TE:=fun _ H Q=>BN H P q∧
 ∀ f H',H f=none→(∀ b o,b≠P→H b=some o→H' b=some o)→BN H' P q→V1 H' q f params body scope cl pm→Q (.ref f) H'
section
variable {X:Cx}{pins:List (Addr×Obj)}{σ:St}{H:Hp}{s:Shared}
theorem Qb {P f c:Addr}{h1:Heap}{o oc:Obj}{ps:Array Value}{i j:Int}{ta tb:Tok}{tk:Nat}(I:Ao X pins σ H s)(hP:H P=some (.tbl ps))
 (hx:Heap.ExtBut P s.heap h1) (hge:s.heap.objs.size≤c) (hlt:c<h1.objs.size) (hf:f=h1.objs.size) (hc:h1.get? c=some oc) (htb:h1.get? P=some (PySem.W.tabObj (ps++#[.int i ta,.int j tb,.ref c])))
 (hof:o.isFreed=false):
 Ao X pins σ (upd (upd (upd H P (.tbl (ps++#[.int i ta,.int j tb,.ref c]))) c (.frz oc (.own 0))) f (.frz o (.own 0))) { s with heap:=h1.push o,toks:=tk }:=by
 subst hf
 have Plt:P<s.heap.objs.size:=I.hok.lt hP
 have hcP:c≠P:=fun z=>by rw[z]at hge;exact absurd Plt (Nat.not_lt.mpr hge)
 have hfP:h1.objs.size≠P:=fun z=>by rw[← z]at Plt;exact absurd (Nat.lt_trans Plt (Nat.lt_of_le_of_lt hge hlt)) (Nat.lt_irrefl _)
 have hfc:h1.objs.size≠c:=(Nat.ne_of_lt hlt).symm
 have other:∀ b,b<s.heap.objs.size→b≠P→(upd (upd (upd H P (.tbl (ps++#[.int i ta,.int j tb,.ref c]))) c (.frz oc (.own 0))) h1.objs.size (.frz o (.own 0))) b=H b:=fun b hb hne=>by
  rw[AX (Nat.ne_of_lt (Nat.lt_trans (Nat.lt_of_lt_of_le hb hge) hlt)),AX (Nat.ne_of_lt (Nat.lt_of_lt_of_le hb hge)),AX hne]
 have keep:∀ b u,b≠P→s.heap.get? b=some u→(h1.push o).get? b=some u:=fun b u hb e=>Heap.get?_push_of_some _ (hx b u hb e)
 have atP:(h1.push o).get? P=some (PySem.W.tabObj (ps++#[.int i ta,.int j tb,.ref c])):=Heap.get?_push_of_some _ htb
 have hPv:(upd (upd (upd H P (.tbl (ps++#[.int i ta,.int j tb,.ref c]))) c (.frz oc (.own 0))) h1.objs.size (.frz o (.own 0))) P=some (.tbl (ps++#[.int i ta,.int j tb,.ref c])):=by
  rw[AX hfP.symm,AX hcP.symm,AE]
 have nP:∀ b,H b=none→b≠P:=fun b n z=>by rw[z,hP]at n;cases n
 refine I.un (t':=tk) ⟨fun b u e n _ _=>keep b u (nP b n) e,fun b u e n _ _=>⟨u.slots,keep b u (nP b n) e⟩,fun b u e n _=>?_,fun b u e _=>?_,fun b xs e=>?_,fun b u xs e=>?_,fun b qs e=>?_⟩ fun b u e=>?_
 ·rw[other b (Heap.lt_size e) (nP b n)];exact n
 ·by_cases hb:b=P
  ·subst hb;exact⟨_,atP⟩
  ·exact⟨u,keep b u hb e⟩
 ·rw[other b (I.hok.lt e) fun z=>by rw[z,hP]at e;cases e];exact e
 ·rw[other b (I.hok.lt e) fun z=>by rw[z,hP]at e;cases e];exact e
 ·by_cases hb:b=P
  ·subst hb
   rw[hP]at e;cases e
   exact⟨_,hPv⟩
  ·exact⟨#[],by rw[other b (I.hok.lt e) hb,e];simp⟩
 ·by_cases hbf:b=h1.objs.size
  ·subst hbf
   rw[AE]at e;cases e
   exact⟨Heap.get?_push_size _ hof,_,Heap.get?_push_size _ hof⟩
  ·by_cases hbc:b=c
   ·subst hbc
    rw[AX hbf,AE]at e;cases e
    exact⟨Heap.get?_push_of_some _ hc,_,Heap.get?_push_of_some _ hc⟩
   ·by_cases hbP:b=P
    ·subst hbP
     rw[hPv]at e;cases e
     exact atP
    ·rw[AX hbf,AX hbc,AX hbP]at e
     refine(I.hok b u e).stay (fun d v hd q=>keep d v ?_ q) (fun d z=>?_) fun d xs z=>?_
     ·rcases hd with z | z
      ·rw[z];exact hbP
      ·intro y;rw[y,hP]at z;cases z
     ·rw[other d (I.hok.lt z) fun y=>by rw[y,hP]at z;cases z];exact z
     ·rw[other d (I.hok.lt z) fun y=>by rw[y,hP]at z;cases z];exact z
theorem FC {params:Arguments}{body:Expr}{scope:Scope}{pos:Pos}{c P:Addr}{clos:List (Str×Addr)}(hdef:defaultsOf params X.env=([],[]))(hcl:closureFor scope X.env=pure clos)(hcode:X.env.code=.ref c)
 (C:PySem.W.CodeHd X.base c P) (B:BM X.mg X.base):PE X (.Lambda params body scope pos) (Yd P (X.env.qual++"<lambda>") params body scope clos ((X.mg "__name__").getD .none)):=by
 intro pins s σ H Q I h
 obtain⟨⟨ps,hP,ht,hall⟩,hq⟩:=h
 obtain⟨bm,ob,b1,⟨b2,b3⟩,b4,b5,b6,b7⟩:=B
 have hPh:s.heap.get? P=some (PySem.W.tabObj ps):=I.hok P _ hP
 have hgs:=I.mod.glob.keeps I.bk
 have hgP:mainGlobals≠P:=fun q=>by
  obtain⟨o,es,ep,e,hd,_⟩:=hgs
  rw[q,hPh]at e;cases e;cases hd
 have hbP:bm≠P:=fun q=>by
  have e:=I.bk _ _ b4
  rw[q,hPh]at e;cases e;cases b5
 have hb:s.heap.BuiltinsAt X.mg P:=⟨bm,ob,b1,b2,b3,hbP,I.bk _ _ b4,b5,b6,b7⟩
 refine PySem.W.kla_eval hdef ?_
 cases hf:codeAmong pos ps.toList with
 | none=>
  refine PySem.W.kla_makeFunction (mg:=X.mg) hcl I.ok.glob hgs hcode (C.keeps I.bk) hPh ht hf hgP hb fun c' ctv h' tk hx hge hlt hrec htb=>?_
  obtain⟨c₂,oc,vs,t,e2,hoc,hd,hv⟩:=hrec
  cases e2
  have Plt:P<s.heap.objs.size:=I.hok.lt hP
  have ltf:s.heap.objs.size<h'.objs.size:=Nat.lt_of_le_of_lt hge hlt
  have fnew:H h'.objs.size=none:=I.hok.fresh (Nat.le_of_lt ltf)
  have cnew:H c'=none:=I.hok.fresh hge
  have hcP:c'≠P:=fun z=>by rw[z]at hge;exact absurd Plt (Nat.not_lt.mpr hge)
  have hfP:h'.objs.size≠P:=fun z=>by rw[← z]at Plt;exact absurd (Nat.lt_trans Plt ltf) (Nat.lt_irrefl _)
  have I2:=Qb (tk:=tk) (o:=PySem.W.kla_obj "<lambda>" (X.env.qual++"<lambda>") params body scope clos ((X.mg "__name__").getD .none) c' ctv) I hP hx hge hlt rfl hoc htb rfl
  have hfc:c'≠h'.objs.size:=Nat.ne_of_lt hlt
  refine⟨.ref h'.objs.size,_,I2,rfl,hq _ _ fnew (fun b o hb e=>?_) ⟨ps++#[rawInt pos.line,rawInt pos.col,.ref c'],?_,?_,fun p cv z=>?_⟩ ⟨c',ctv,AE,oc,vs,t,?_,hd,hv⟩⟩
  ·rw[AX (AZ e fnew),AX (AZ e cnew),AX hb];exact e
  ·rw[AX hfP.symm,AX hcP.symm,AE];rfl
  ·rw[Array.toList_append];exact LY _ ht
  ·rw[Array.toList_append]at z
   rcases NV _ ht z with z | z
   ·obtain⟨d,e1,o,vs',t',e3,r⟩:=hall p cv z
    have ndP:d≠P:=fun y=>by rw[y,hP]at e3;cases e3
    exact⟨d,e1,o,vs',t',by rw[AX (AZ e3 fnew),AX (AZ e3 cnew),AX ndP];exact e3,r⟩
   ·exact⟨c',z,oc,vs,t,by rw[AX hfc,AE],hd,hv⟩
  ·rw[AX hfc,AE]
 | some cv=>
  obtain⟨c',rfl,o,vs,t,ec,r⟩:=hall pos cv hf
  refine PySem.W.kla_makeFunctionHit (mg:=X.mg) hcl I.ok.glob hgs hcode (C.keeps I.bk) hPh ht hf hb fun ctv h' tk hk hsz=>?_
  have fnew:H h'.objs.size=none:=I.hok.fresh hsz
  have k2:∀ b u,s.heap.get? b=some u→(h'.push (PySem.W.kla_obj "<lambda>" (X.env.qual++"<lambda>") params body scope clos ((X.mg "__name__").getD .none) c' ctv)).get? b=some u:=fun b u e=>Heap.get?_push_of_some _ (hk b u e)
  have sm:AI H (upd H h'.objs.size (.frz (PySem.W.kla_obj "<lambda>" (X.env.qual++"<lambda>") params body scope clos ((X.mg "__name__").getD .none) c' ctv) (.own 0))):=fun b u e=>by rw[AX (AZ e fnew)];exact e
  have I2:=I.laid (t':=tk) (a:=h'.objs.size) (o:=.frz (PySem.W.kla_obj "<lambda>" (X.env.qual++"<lambda>") params body scope clos ((X.mg "__name__").getD .none) c' ctv) (.own 0)) k2 hsz ⟨Heap.get?_push_size _ rfl,_,Heap.get?_push_size _ rfl⟩
  exact⟨.ref h'.objs.size,_,I2,rfl,hq _ _ fnew (fun b o _ e=>sm b o e) (BN.sm ⟨ps,hP,ht,hall⟩ sm) ⟨c',ctv,AE,o,vs,t,sm _ _ ec,r⟩⟩
end
def Qc (q:Str)(o:Obj):Bool:=match o.data with
 | .func fd=>fd.qualname==q
 | .fields vs=>(match (vs[1]?:Option Value)with
  | some (.str z _)=>z==q
  | _=>false)
 | _=>false
def kn (q:Str):Option HO→Option Obj
 | some (.frz o (.own 0))=>if Qc q o=true then some o else none
 | _=>none
section
variable {q:Str}
theorem HH {x:Option HO}{o:Obj}(h:kn q x=some o):x=some (.frz o (.own 0)):=by
 unfold kn at h
 split at h
 ·split at h
  ·cases h;rfl
  ·cases h
 ·cases h
theorem S4 {H:Hp}{b:Addr}{o:Obj}(h:H b=some (.frz o (.own 0)))(w:Qc q o=true):kn q (H b)=some o:=by rw[h];unfold kn;exact if_pos w
theorem UF {H:Hp}{b:Addr}{o:Obj}(h:H b=some (.frz o (.own 0)))(w:Qc q o=false):kn q (H b)=none:=by rw[h];unfold kn;exact if_neg (by rw[w];exact Bool.false_ne_true)
theorem MY {o:Obj}{vs:Array Value}{t:Tok}{z:Str}(d:o.data=.fields vs)(h:vs[1]?=some (.str z t)):Qc q o=(z==q):=by
 unfold Qc
 rw[d]
 dsimp only
 rw[h]
def del (q:Str)(H:Hp):Hp:=fun b=>if(kn q (H b)).isSome=true then none else H b
def put (q:Str)(H H':Hp):Hp:=fun b=>match kn q (H b)with
 | some o=>some (.frz o (.own 0))
 | none=>H' b
theorem NW {H:Hp}{b:Addr}{o:Obj}(h:kn q (H b)=some o):del q H b=none:=if_pos (by rw[h];rfl)
theorem HI {H:Hp}{b:Addr}(h:kn q (H b)=none):del q H b=H b:=if_neg (by rw[h];exact Bool.false_ne_true)
theorem Hy {H:Hp}{b:Addr}{o:HO}(h:H b=some o)(n:kn q (some o)=none):del q H b=some o:=by rw[HI (by rw[h];exact n),h]
theorem Ez {H:Hp}{b:Addr}(h:H b=none):del q H b=none:=by
 unfold del
 split
 ·rfl
 ·exact h
theorem Qd {H:Hp}{b:Addr}{o:HO}(h:del q H b=some o):H b=some o∧kn q (H b)=none:=by
 unfold del at h
 split at h
 ·cases h
 ·rename_i n
  refine⟨h,?_⟩
  cases w:kn q (H b)with
  | none=>rfl
  | some u=>exact absurd (by rw[w];rfl) n
theorem LZ {H H':Hp}{b:Addr}{o:Obj}(h:kn q (H b)=some o):put q H H' b=some (.frz o (.own 0)):=by
 unfold put
 rw[h]
theorem Cs {H H':Hp}{b:Addr}(h:kn q (H b)=none):put q H H' b=H' b:=by
 unfold put
 rw[h]
theorem MZ {H H':Hp}(h:AI (del q H) H'):AI H (put q H H'):=fun b o e=>by
 cases w:kn q (H b)with
 | none=>rw[Cs w];exact h b o (by rw[HI w];exact e)
 | some u=>
  rw[LZ w]
  rw[HH w]at e
  exact e
end
structure K8 (X:Cx)(σ:St)(q:Str)(H:Hp)(base':Heap):Prop where
 sub:∀ b o,X.base.get? b=some o→base'.get? b=some o
 sz:X.base.objs.size≤base'.objs.size
 mod:Mod X.K X.mg base'
 old:Mod X.K X.mg X.base
 new:∀ b o,kn q (H b)=some o→base'.get? b=some o
 cel:∀ x c,X.env.cells.lookup x=some c→∃ v,base'.IsCell c v
 val:∀(i:Nat) (x:Str) (v:V) (c:Addr),X.N[i]?=some x→σ[i]?=some (some v)→X.env.scope.names.lookup x=some .cell→X.env.cells.lookup x=some c→∃ u,A2 v u∧base'.IsCell c (some u)
 inj:∀ x y c,X.env.cells.lookup x=some c→X.env.cells.lookup y=some c→x=y
theorem Ma {h base base':Heap}(sub:∀ b o,base.get? b=some o→base'.get? b=some o):∀{l:List Env},h.FunFrames base' l→h.FunFrames base l
 | [],_=>trivial
 | _::_,⟨a,⟨L,o,f,n,e,d⟩,r⟩=>⟨a,⟨L,o,f,(by
  cases q:base.get? L with
  | none=>rfl
  | some u=>rw[sub L u q]at n;cases n),e,d⟩,Ma sub r⟩
section
variable {P:Program}{w:World}{K:PySem.W.Frag}{mg:Str→Option Value}{base base':Heap}{k:Nat}{f:Addr}{fd:FuncData}{ps:List Str}{sp:Sp}
theorem Av.wide (F:Av P w K mg base Bj k f fd ps sp)(M:Mod K mg base)(sub:∀ b o,base.get? b=some o→base'.get? b=some o)(sz:base.objs.size≤base'.objs.size):Av P w K mg base' Bj k f fd ps sp:=
 ⟨F.len,fun A outer s H args us vs Q E hr e hb hv hs=>F.run A outer s H args us vs Q E hr ⟨e.frames,M,fun b o z=>e.bs b o (sub b o z),Nat.le_trans sz e.bsz,Ma sub e.funs,e.frf,e.hok,e.bare⟩ hb hv hs⟩
def FV (P:Program)(w:World)(K:PySem.W.Frag)(mg:Str→Option Value)(base:Heap)(k:Nat)(f:Addr)(sp:Sp):Prop:=
 ∃ fd ps oc od sl,base.get? f=some ⟨oc,od,.func fd,sl⟩∧(∀(s:Shared) (us:List Value),K.In s.heap→us.length=ps.length→BindsTo s fd ⟨us,[]⟩ (ps.zip us))∧Av P w K mg base Bj k f fd ps sp
theorem FV.wide (G:FV P w K mg base k f sp)(M:Mod K mg base)(sub:∀ b o,base.get? b=some o→base'.get? b=some o)(sz:base.objs.size≤base'.objs.size):FV P w K mg base' k f sp:=by
 obtain⟨fd,ps,oc,od,sl,e,b,F⟩:=G
 exact⟨fd,ps,oc,od,sl,sub _ _ e,b,F.wide M sub sz⟩
end
theorem K8.fv {X:Cx}{σ:St}{q:Str}{H:Hp}{base':Heap}{k:Nat}{f:Addr}{sp:Sp}(W:K8 X σ q H base')(G:FV X.prog X.w X.K X.mg X.base k f sp):FV X.prog X.w X.K X.mg base' k f sp:=G.wide W.old W.sub W.sz
section
variable {X:Cx}
def Qe (X:Cx)(k:Nat)(tf:TE)(t:TA):TE:=fun σ H Q=>tf σ H fun x H1=>∃ f sp,x=.ref f∧FV X.prog X.w X.K X.mg X.base k f sp∧t σ H1 fun vs H2=>sp vs H2 Q E0
theorem Qf {M:Model}{f:Addr}{fd:FuncData}{oc:Value}{od:Option Addr}{sl:Array (Option Value)}(h:Heap)(e:h.get? f=some ⟨oc,od,.func fd,sl⟩):
 ∃ k,(k=Keeper.frame∨k=Keeper.machine∨k=Keeper.boundFrame)∧PySem.W.Looks M h (keeperOf (.ref f)) k:=
 ⟨.frame,.inl rfl,(PySem.W.Looks.ld (part:=none) e).andThen .now⟩
theorem Jf {k:Nat}{fe e:Expr}{es:List Expr}{tf:TE}{t:TA}{pos:Pos}(hf:PE X fe tf)(hr:Ce k X.A)(ha:PA X (e::es) t)
 (hc:eval (.Call fe (e::es) [] pos) X.env=(do callWith pos (← eval fe X.env) [] (backTo pos (starEach (e::es) X.env)) (backToKw pos (keywordEach [] X.env))):=by rfl)
 (he:starEach (e::es) X.env=(false,eval e X.env)::starEach es X.env:=by rfl) (hpl:(backTo pos (starEach es X.env)).any (·.1)=false:=by rfl):PE X (.Call fe (e::es) [] pos) (Qe X k tf t):=by
 intro pins s σ H Q I h
 refine Call_ (BZ (hf pins s σ H _ I h) fun v s1 zq=>?_) hc
 obtain⟨x,H1,I1,rx,f,sp,ex,G,q⟩:=zq
 subst ex
 cases rx
 obtain⟨fd,ps,oc,od,sl,eo,hb,F⟩:=G
 have hA:=ha pos pins s1 σ H1 _ I1 q
 rw[he]at hA ⊢
 refine PySem.W.callWith_of (P:=fun h=>h.get? f=some ⟨oc,od,.func fd,sl⟩) (by show((false||(backTo pos (starEach es X.env)).any (·.1))||false)=false;rw[hpl];rfl) Qf
  (PySem.Calls.evalArgs_plain (BZ hA fun us s2 ⟨vs,H2,I2,r,q2⟩=>⟨I2.bk _ _ eo,?_⟩))
 have hl:us.length=ps.length:=by rw[← r.length];exact F.len _ _ _ _ q2
 refine wpAny_call (codeAny_mono (F.run X.A X.stack s2 H2 ⟨us,[]⟩ us vs Q E0 hr I2.env0 (hb s2 us I2.kIn hl) r q2) fun r s' hq=>?_)
 cases r with
 | error e=>exact False.elim hq
 | ok fl=>
  cases fl with
  | ret u=>exact I2.after hq
  | next=>exact False.elim hq
  | brk=>exact False.elim hq
  | cont=>exact False.elim hq
end
theorem K9 {h base base':Heap}:∀{l:List Env},h.FunFrames base l→(∀ b∈Iz l,base'.get? b=none)→h.FunFrames base' l
 | [],_,_=>trivial
 | _::_,⟨a,⟨L,o,f,n,e,d⟩,r⟩,hn=>⟨a,⟨L,o,f,hn L (by unfold Iz;rw[List.filterMap_cons,f];exact List.mem_cons_self),e,d⟩,K9 r fun b hb=>hn b (by unfold Iz;rw[List.filterMap_cons,f];exact List.mem_cons_of_mem _ hb)⟩
theorem SF {q:Str}{P:Program}{w:World}{H:Hp}{h:Heap}(x:GQ P w H h):GQ P w (del q H) h:=fun b o e=>by
 obtain⟨e1,_⟩:=Qd e
 exact(x b o e1).stay (fun _ _ _ e=>e) (fun c e=>Hy e rfl) fun c xs e=>Hy e rfl
section
variable {X:Cx}{pins:List (Addr×Obj)}{σ:St}{H:Hp}{s:Shared}{q:Str}
def UG (X:Cx)(q:Str)(H:Hp)(s:Shared):Heap:=PySem.W.hideAll (Id s.heap (del q H)) (Iz X.stack)
theorem NX {b:Addr}{o:Obj}(e:s.heap.get? b=some o)(n:del q H b=none)(hb:b∉Iz X.stack):(UG X q H s).get? b=some o:=PySem.W.hideAll_get _ (L9 e n) hb
theorem UH {b:Addr}{o:Obj}(e:(UG X q H s).get? b=some o):s.heap.get? b=some o∧del q H b=none:=N6 (PySem.W.of_hideAll _ e)
theorem Mb:(UG X q H s).objs.size=s.heap.objs.size:=(PySem.W.hideAll_size _ _).trans (Kl _ _)
theorem Ao.wider (I:Ao X pins σ H s)(hfn:∀ x,X.fn x=true):K8 X σ q H (UG X q H s):=by
 have nst:∀ b,b≠X.env.locals→b∉X.fs→b∉Iz X.stack:=fun b h1 h2 z=>(List.mem_cons.mp (I.stkSub b z)).elim h1 h2
 have sub:∀ b o,X.base.get? b=some o→(UG X q H s).get? b=some o:=fun b o e=>by
  obtain⟨e1,n⟩:=I.bs b o e
  refine NX e1 (Ez n) (nst b (fun z=>?_) (I.ok.nofr e))
  have h1:=Heap.lt_size e
  rw[z]at h1
  exact absurd (Nat.lt_of_lt_of_le h1 (Nat.le_trans I.ok.bsz I.ok.above)) (Nat.lt_irrefl _)
 have cst:∀ x c,X.env.cells.lookup x=some c→c∉Iz X.stack:=fun x c e=>nst c (I.cne x c e) fun z=>by
  obtain⟨_,o,ho,_⟩:=I.ok.funs.mem z
  exact absurd (Nat.lt_of_lt_of_le (Heap.lt_size ho) (I.ok.cab x c (hfn x) e)) (Nat.lt_irrefl _)
 have cin:∀ x c v,X.env.cells.lookup x=some c→s.heap.IsCell c v→(UG X q H s).IsCell c v:=fun x c v e ⟨o,ho,hd⟩=>⟨o,NX ho (Ez (I.freeC x c e)) (cst x c e),hd⟩
 refine⟨sub,?_,⟨I.ok.mod.kin.keeps sub,I.ok.mod.glob.keeps sub,?_,I.ok.mod.nolimit.keeps sub⟩,I.ok.mod,fun b o e=>?_,fun x c e=>?_,fun i x v c e1 e2 e3 e4=>?_,I.ok.inj⟩
 ·rw[Mb];exact Nat.le_trans I.ok.bsz I.sz
 ·obtain⟨mb,h1,h2⟩:=I.ok.mod.blt
  exact⟨mb,h1.keeps sub,h2⟩
 ·have e1:=HH e
  refine NX (I.hok _ _ e1).1 (NW e) fun z=>?_
  rw[I.stkFree b z]at e1;cases e1
 ·obtain⟨v,hv⟩:=I.cell x c e
  exact⟨v,cin x c v e hv⟩
 ·obtain⟨m,hn,hl⟩:=I.loc
  obtain⟨u,r,l⟩:=hl i x v e1 e2 (.inr (.inl e3))
  refine⟨u,r,?_⟩
  rcases l with⟨k,_⟩ | ⟨_,c',ec,z⟩
  ·have k':X.env.scope.names.lookup x=some .local:=k
   rw[e3]at k';cases k'
  ·rw[e4]at ec;cases ec
   exact cin x c _ e4 z
theorem Ao.envL (I:Ao X pins σ H s)(hfn:∀ x,X.fn x=true):P9 X.prog X.w X.K X.mg (UG X q H s) X.A X.stack s (del q H):=
 ⟨I.ok.frames,(I.wider (q:=q) hfn).mod,fun _ _ e=>UH e,Nat.le_of_eq Mb,K9 I.stack fun _ hb=>PySem.W.hideAll_none _ hb,fun b hb=>Ez (I.stkFree b hb),SF I.hok,I.bare⟩
theorem Ao.afterL {Q:VK}{u:Value}{s':Shared}(I:Ao X pins σ H s)(h:CE X.stack X.prog X.w (del q H) s (fun v H2=>(∀ b o,kn q (H b)=some o→H2 b=none)→Q v (put q H H2)) u s'):EP X pins σ Q u s':=by
 obtain⟨v,H',os,bare,un,hok,r,qq⟩:=h
 have nkn:∀ b o,H b=some o→kn q (some o)=none→kn q (H b)=none:=fun b o e n=>by rw[e];exact n
 have kfree:∀ b o,kn q (H b)=some o→s.heap.get? b=some o∧H' b=none∧s'.heap.get? b=some o:=fun b o e=>by
  have e1:=HH e
  have e2:=(I.hok _ _ e1).1
  refine⟨e2,un.free b o e2 (NW e) (by simp),un.keep b o e2 (NW e) (fun z=>?_) (by simp)⟩
  rw[I.stkFree b z]at e1;cases e1
 refine I.after ⟨v,put q H H',os,bare,⟨fun b o e n=>un.keep b o e (Ez n),fun b o e n=>un.slot b o e (Ez n),fun b o e n hx=>?_,un.there,fun b xs e=>?_,fun b o w e=>?_,fun b ps e=>?_⟩,fun b o e=>?_,r,qq fun b o e=>(kfree b o e).2.1⟩
 ·rw[Cs (by rw[n];rfl)];exact un.free b o e (Ez n) hx
 ·rw[Cs (nkn b _ e rfl)];exact un.tups b xs (Hy e rfl)
 ·cases z:kn q (H b)with
  | none=>rw[Cs z];exact un.frzs b o w (by rw[HI z];exact e)
  | some u=>
   rw[LZ z]
   rw[HH z]at e
   exact e
 ·rw[Cs (nkn b _ e rfl)];exact un.tbls b ps (Hy e rfl)
 ·cases z:kn q (H b)with
  | none=>
   rw[Cs z]at e
   have np:∀ c u,H' c=some u→kn q (H c)=none:=fun c u ec=>by
    cases y:kn q (H c)with
    | none=>rfl
    | some w=>rw[(kfree c w y).2.1]at ec;cases ec
   exact(hok b o e).stay (fun _ _ _ e=>e) (fun c e=>by rw[Cs (np c _ e)];exact e) fun c xs e=>by rw[Cs (np c _ e)];exact e
  | some u=>
   rw[LZ z]at e;cases e
   exact⟨(kfree b u z).2.2,_,(kfree b u z).2.2⟩
def UI (X:Cx)(k:Nat)(f:Addr)(fd:FuncData)(ps:List Str)(t:TA):TE:=fun σ H Q=>t σ H fun vs H1=>∃(q:Str) (sp:Sp),(∀ base',K8 X σ q H1 base'→Av X.prog X.w X.K X.mg base' Bj k f fd ps sp)∧sp vs (del q H1) (fun v H2=>(∀ b o,kn q (H1 b)=some o→H2 b=none)→Q v (put q H1 H2)) E0
theorem Fv {k:Nat}{f:Addr}{fd:FuncData}{ps:List Str}{x:Str}{p pos:Pos}{e:Expr}{es:List Expr}{t:TA}(hr:Ce k X.A)(hg:Gl X x)(hm:X.mg x=some (.ref f))(hk:PySem.W.keepIn X.K (.ref f)=true)(hb:JQ X.K fd ps [])
 (ha:PA X (e::es) t) (hfn:∀ y,X.fn y=true:=by intro _;rfl) (hdb:(x==("__debug__":Str))=false:=by decide) (he:starEach (e::es) X.env=(false,eval e X.env)::starEach es X.env:=by rfl) (hpl:(backTo pos (starEach es X.env)).any (·.1)=false:=by rfl):
 PE X (.Call (.Name x p) (e::es) [] pos) (UI X k f fd ps t):=by
 intro pins s σ H Q I h
 refine wpAny_Call_Name_kw (G5 I hg hm ?_ hdb)
 refine PySem.W.callWith_K (h₀:=X.base) I.ok.mod.kin hk (BZ (ha pos pins s σ H _ I h) fun us s1 ⟨vs,H1,I1,r,qq,sp,F,q⟩=>⟨I1.kIn,?_⟩) he hpl
 have W:=I1.wider (q:=qq) hfn
 have hl:us.length=ps.length:=by rw[← r.length];exact(F _ W).len _ _ _ _ q
 have hB:=hb s1 us I1.kIn (by simpa using hl)
 rw[List.append_nil]at hB
 refine wpAny_call (codeAny_mono ((F _ W).run X.A X.stack s1 (del qq H1) ⟨us,[]⟩ us vs _ E0 hr (I1.envL (q:=qq) hfn) hB r q) fun r s' hq=>?_)
 cases r with
 | error e=>exact False.elim hq
 | ok fl=>
  cases fl with
  | ret u=>exact I1.afterL (q:=qq) hq
  | next=>exact False.elim hq
  | brk=>exact False.elim hq
  | cont=>exact False.elim hq
end
def Qg (P:Program)(w:World)(K:PySem.W.Frag)(mg:Str→Option Value)(base:Heap)(N:List Str)(q:Str)(scope:Scope)(f:Addr)(cd:Value)(cl:List (Str×Addr))(A:Around)(outer:List Env)(s:Shared)(H:Hp):Cx where
 prog:=P
 w:=w
 K:=K
 mg:=mg
 base:=base
 A:=A.deeper (PySem.W.envX q scope s.heap.objs.size f cd cl)
 N:=N
 s₀:=s
 H₀:=H
 env:=PySem.W.envX q scope s.heap.objs.size f cd cl
 outer:=outer
 stack:=PySem.W.envX q scope s.heap.objs.size f cd cl::outer
 ex:=[]
 calm:=true
 fn:=fun _=>false
 pn:=[]
 xe:=fun _ _=>False
structure Qh (X:Cx)(scope:Scope)(cl:List (Str×Addr))(ps fv:List Str)(js:List Nat):Prop where
 kind:scope.kind=.function
 co:scope.isCoroutine=false
 gen:scope.isGenerator=false
 nc:∀ y∈scope.names,y.2≠.cell
 par:∀ y∈ps,scope.names.lookup y=some .local
 fr:∀ y∈scope.names,y.2=.free→y.1∈fv
 nd:(ps++fv).Nodup
 vis:∀ y∈fv,scope.names.lookup y=some .free∧X.env.scope.names.lookup y=some .cell∧(cl.lookup y).isSome=true
 cls:∀ p∈cl,X.env.cells.lookup p.1=some p.2
 sl:Paired (fun y j=>X.N[j]?=some y) fv js
theorem IU:∀(ps:List Str) (us:List Value),List.Sublist ((ps.zip us).map (·.1)) ps
 | [],_=>.slnil
 | _::_,[]=>List.nil_sublist _
 | p::ps,u::us=>.cons₂ p (IU ps us)
theorem Mc {x:Str}{u:Value}:∀{ps:List Str} {us:List Value} {i:Nat},ps.Nodup→ps[i]?=some x→us[i]?=some u→(ps.zip us).reverse.lookup x=some u:=fun {ps us i} nd h1 h2=>by
 have hm:(x,u)∈ps.zip us:=by
  refine List.mem_of_getElem? (i:=i) ?_
  rw[List.getElem?_zip_eq_some]
  exact⟨h1,h2⟩
 have nd2:((ps.zip us).reverse.map (·.1)).Nodup:=by
  rw[List.map_reverse]
  refine List.nodup_iff_pairwise_ne.mpr (List.pairwise_reverse.mpr (List.Pairwise.imp (fun h=>Ne.symm h) (List.nodup_iff_pairwise_ne.mp ?_)))
  exact List.Nodup.sublist (IU ps us) nd
 have go:∀ l:List (Str×Value),(l.map (·.1)).Nodup→(x,u)∈l→l.lookup x=some u:=by
  intro l
  induction l with
  | nil=>intro _ h;cases h
  | cons p r ih=>
   intro hn h
   obtain⟨y,v⟩:=p
   rw[List.map_cons,List.nodup_cons]at hn
   rcases List.mem_cons.mp h with e | e
   ·cases e;simp[List.lookup_cons]
   ·have ne:(x==y)=false:=by
     cases q:x==y with
     | false=>rfl
     | true=>exact absurd (eq_of_beq q▸List.mem_map_of_mem (f:=(·.1)) e) hn.1
    simp only[List.lookup_cons,ne]
    exact ih hn.2 e
 exact go _ nd2 (List.mem_reverse.mpr hm)
theorem K8.lam {X:Cx}{σ:St}{Hk:Hp}{base':Heap}{k:Nat}{f c:Addr}{q:Str}{params:Arguments}{body:Expr}{scope:Scope}{cl:List (Str×Addr)}{pm ctv:Value}{ps fv:List Str}{js:List Nat}{sp:Sp}(W:K8 X σ q Hk base')
 (hf:Hk f=some (.frz (PySem.W.kla_obj "<lambda>" q params body scope cl pm c ctv) (.own 0))) (hc:Gb Hk q c) (S:Qh X scope cl ps fv js)
 (hbind:∀ us:List Value,us.length=ps.length→bindArgs (PySem.W.kla_fn "<lambda>" q params body scope cl pm (.ref c) ctv) ⟨us,[]⟩=pure (ps.zip us)) (len:∀ vs H Q E,sp vs H Q E→vs.length=ps.length)
 (hbody:∀(A:Around) (outer:List Env) (s:Shared) (H:Hp) (vs:List V) (Q:VK) (E:XK),Ce k (A.deeper (PySem.W.envX q scope s.heap.objs.size f (.ref c) cl))→sp vs H Q E→
  ∃ te,PE (Qg X.prog X.w X.K X.mg base' (ps++fv) q scope f (.ref c) cl A outer s H) body te∧te (vs.map some++GZ js σ) H Q):FV X.prog X.w X.K X.mg base' (k+1) f sp:=by
 obtain⟨oc,vc,tc,ec,dc,qc⟩:=hc
 have bf:=W.new f _ (S4 hf (show(q==q)=true from beq_self_eq_true q))
 have bc:=W.new c _ (S4 ec ((MY dc qc).trans (beq_self_eq_true q)))
 refine⟨_,ps,_,_,_,bf,fun s us _ hl=>.of_eq (hbind us hl),len,fun A outer s H args us vs Q E hr e0 hb r hsp=>?_⟩
 have hl:=len _ _ _ _ hsp
 have lim:s.heap.NoLimit:=e0.mod.nolimit.keeps fun b o e=>(e0.bs b o e).1
 have hps:us.length=ps.length:=by rw[← r.length];exact hl
 refine PySem.W.kla_callFunE hr.depth (e0.bs _ _ bf).1 rfl S.co S.gen rfl ⟨c,oc,vc,tc,rfl,(e0.bs _ _ bc).1,dc,qc⟩ (hb _ _ _ _ ?_)
 refine wpAny_newFunctionEnv S.nc (fun y hy=>S.par y.1 (List.of_mem_zip hy).1) (fun h₁ hns hsb=>⟨lim.fresh _ hsb,?_⟩) S.kind
 have hk₁:∀ b o,s.heap.get? b=some o→h₁.get? b=some o:=fun b o e=>hsb.extBut b o (Nat.ne_of_lt (Heap.lt_size e)) (Heap.get?_push_of_some _ e)
 obtain⟨te,hte,hq⟩:=hbody A outer s H vs Q E (hr.deeper _) hsp
 have cellOf:∀ y cc,cl.lookup y=some cc→X.env.cells.lookup y=some cc:=fun y cc e=>S.cls (y,cc) (PySem.mem_of_lookup e)
 have noA:∀ b:Addr,b∉(Qg X.prog X.w X.K X.mg base' (ps++fv) q scope f (.ref c) cl A outer s H).ex:=fun b z=>absurd (show b∈([]:List Addr)from z) (by simp)
 have I:Ao (Qg X.prog X.w X.K X.mg base' (ps++fv) q scope f (.ref c) cl A outer s H) [] (vs.map some++GZ js σ) H { s with heap:=h₁,toks:=s.toks+(ps.zip us).length }:=by
  refine⟨⟨e0.mod,S.kind,rfl,rfl,Nat.le_refl _,fun y z d h1 h2=>W.inj y z d (cellOf y d h1) (cellOf z d h2),fun y hy=>?_,fun y d h=>absurd (show false=true from h) Bool.false_ne_true,fun _=>hr.hd,Around.frames_deeper e0.frames,.inr ⟨rfl,rfl⟩,fun b z=>absurd z (noA b),e0.bs,e0.bsz,
   fun b _ _=>noA b,fun b z=>absurd z (noA b),e0.funs,e0.frf⟩,rfl,e0.bare,Un.kept hk₁,⟨_,hns,fun i y v h1 h2 h3=>?_⟩,fun y d h=>?_,e0.hok.fresh (Nat.le_refl _),fun y d h=>?_,fun p hp=>absurd (show p∈([]:List (Addr×Obj))from hp) (by simp),e0.hok.kept hk₁,?_⟩
  ·have hy':scope.names.lookup y=some .cell∨scope.names.lookup y=some .free:=hy
   rcases hy' with z | z
   ·exact absurd rfl (S.nc _ (PySem.mem_of_lookup z))
   ·exact Option.isSome_iff_exists.mp (S.vis y (S.fr _ (PySem.mem_of_lookup z) rfl)).2.2
  ·have h1':(ps++fv)[i]?=some y:=h1
   by_cases hi:i<ps.length
   ·rw[List.getElem?_append_left hi]at h1'
    rw[List.getElem?_append_left (by rw[List.length_map,hl];exact hi),List.getElem?_map]at h2
    have h2':vs[i]?=some v:=by
     cases z:vs[i]? with
     | none=>rw[z]at h2;cases h2
     | some a=>rw[z]at h2;cases h2;rfl
    obtain⟨u,hu,rv⟩:=r.get h2'
    have nd:ps.Nodup:=(List.nodup_append.mp S.nd).1
    exact⟨u,rv,.inl ⟨S.par y (List.mem_of_getElem? h1'),Mc nd h1' hu⟩⟩
   ·have hi':ps.length≤i:=Nat.not_lt.mp hi
    rw[List.getElem?_append_right hi']at h1'
    rw[List.getElem?_append_right (by rw[List.length_map,hl];exact hi'),List.length_map,hl]at h2
    obtain⟨j,hj,hN⟩:=Gi S.sl h1'
    have hv:σ[j]?=some (some v):=by
     unfold GZ at h2
     rw[List.getElem?_map,hj]at h2
     have z':(σ[j]?).getD none=some v:=Option.some.inj h2
     cases z:σ[j]? with
     | none=>rw[z]at z';cases z'
     | some o=>rw[z]at z';exact congrArg some z'
    obtain⟨hfree,hcell,hsome⟩:=S.vis y (List.mem_of_getElem? h1')
    obtain⟨d,hd⟩:=Option.isSome_iff_exists.mp hsome
    obtain⟨u,ru,o,ho,hdt⟩:=W.val j y v d hN hv hcell (cellOf y d hd)
    exact⟨u,ru,.inr ⟨.inr hfree,d,hd,o,hk₁ _ _ (e0.bs _ _ ho).1,hdt⟩⟩
  ·obtain⟨v,o,ho,hd⟩:=W.cel y d (cellOf y d h)
   exact⟨v,o,hk₁ _ _ (e0.bs _ _ ho).1,hd⟩
  ·obtain⟨v,o,ho,hd⟩:=W.cel y d (cellOf y d h)
   exact(e0.bs _ _ ho).2
  ·show(vs.map some++GZ js σ).length=(ps++fv).length
   have:fv.length=js.length:=Paired.length S.sl
   simp[GZ,this,hl]
 refine PySem.W.kla_codeExpr (wpAny_mono (hte [] _ _ H Q I hq) (fun v s' hs=>?_) fun e s' hs=>False.elim hs)
 obtain⟨x,H',J,rv,qv⟩:=hs
 exact⟨x,H',J.os,J.bare,J.base,J.hok,rv,qv⟩
def V2 (m:Int)(n:Nat):It:=⟨fun i _=>i<n,fun i H x H'=>H'=H∧x=.int (i*m),fun i _=>n≤i⟩
theorem PK {P:Program}{w:World}{K:PySem.W.Frag}{tg:Expr}(it:Addr)(m:Int)(n:Nat):KJ P w K tg (V2 m n) [it] it (fun i h=>IsRangeIter h it (0+(i:Nat)*m) ((n:Int)-(i:Nat)) m) where
 mem:=by simp
 obj:=fun i h st b hb=>by
  obtain rfl:b=it:=by simpa using hb
  exact⟨_,st,fun v z=>by
   have z':Data.fields _=Data.cell v:=z
   cases z'⟩
 keep:=fun i h h' st k=>k it (by simp) _ st
 item:=by
  intro X hP hw hK hc i pins s σ H E I hf st hg
  subst hP hw hK
  obtain⟨f0,f1,f2,f3,f4,f5⟩:=hf it (by simp)
  have W:=Walks.range (prog:=X.prog) (w:=X.w) (I.ok.hd hc) it 0 m n
  refine W.item i s _ _ hg st fun v h' tk hv st' kk=>?_
  obtain⟨t,rfl⟩:=hv
  have I1:Ao X pins σ H { s with heap:=h',toks:=tk }:=I.turned (fun b o hb e=>kk b o (by simpa using hb) e) f0 f1 f3 f4 f5
  refine⟨_,rfl,Kn (s:={ s with heap:=h',toks:=tk }) (n:="range_iterator") st' rfl rfl (by decide) ⟨.int (i*m),H,I1,⟨t,?_⟩,⟨rfl,rfl⟩,st',fun b hb=>(hf b hb).1⟩⟩
  rw[Int.zero_add]
 done:=by
  intro X hP hw hK hc i pins s σ H E I hf st hg
  subst hP hw hK
  obtain⟨f0,f1,f2,f3,f4,f5⟩:=hf it (by simp)
  exact wpAny_pyNext_range_end (I.ok.hd hc) st (by have:n≤i:=hg;omega) fun h' eb=>⟨rfl,I.turned (t':=s.toks) (fun b o hb e=>eb b o hb e) f0 f1 f3 f4 f5⟩
 self:=fun _ _ _ _ _ st h=>wpAny_pyIter_rangeiter st h
def FX (j m:Int):Nat:=(if 0<j then(j-1) / m+1 else 0).toNat
theorem LA {j m:Int}(hm:1≤m):Builtin.Range.rangeSize 0 j m=((FX j m:Nat):Int):=by
 unfold Builtin.Range.rangeSize FX
 rw[if_pos (show m>0 by omega)]
 by_cases h:0<j
 ·have h2:0≤(j-1) / m:=Int.ediv_nonneg (by omega) (by omega)
  rw[if_pos h,if_pos h,Int.sub_zero]
  omega
 ·rw[if_neg h,if_neg h];rfl
theorem SG {j m:Int}(h0:0≤j)(hm:1≤m):((FX j m:Nat):Int)≤j:=by
 unfold FX
 by_cases h:0<j
 ·have h2:0≤(j-1) / m:=Int.ediv_nonneg (by omega) (by omega)
  have h3:(j-1) / m≤j-1:=Int.ediv_le_self _ (by omega)
  rw[if_pos h]
  omega
 ·rw[if_neg h];simpa using h0
theorem NY {j m:Int}(h0:0≤j)(h1:j≤1000000)(hm:1≤m)(hm2:m≤1000000):Builtin.Range.small 0 j m=true:=by
 have hs:=SG h0 hm
 have h2:(0:Int)≤((FX j m:Nat):Int):=Int.natCast_nonneg _
 unfold Builtin.Range.small
 rw[LA hm,if_pos (show m>0 by omega)]
 generalize ((FX j m:Nat):Int)=z at hs h2
 simp only[Builtin.Range.rangeFitsLong,Bool.and_eq_true,Bool.or_eq_true,decide_eq_true_eq,beq_iff_eq]
 omega
section
variable {X:Cx}{tg:Expr}
def V3 (ta:TA):TI:=fun σ H R=>ta σ H fun vs H1=>∃ j m:Int,vs=[.int 0,.int j,.int m]∧(0≤j∧j≤1000000∧1≤m∧m≤1000000)∧R (V2 m (FX j m)) H1
theorem PM {a b c:Expr}{ta:TA}{p pos:Pos}(hg:Gl X "range")(hm:X.mg "range"=none)(ha:PA X [a,b,c] ta)
 (hs:starEach [a,b,c] X.env=[(false,eval a X.env),(false,eval b X.env),(false,eval c X.env)]:=by rfl) (hs2:starEach [b,c] X.env=[(false,eval b X.env),(false,eval c X.env)]:=by rfl):
 PI X tg (.Call (.Name "range" p) [a,b,c] [] pos) (V3 ta):=by
 intro pins s σ H R I h
 refine Call_ (Du I hg hm boot_range (PyProof.Rows.callWith_type1 (BZ (ha pos pins s σ H _ I h) fun us s1 zq=>?_) (by rw[hs,hs2]) (by rw[hs2];rfl)))
 obtain⟨vs,H1,I1,r1,q1⟩:=zq
 obtain⟨j,m,e,⟨q1,q2,q3,q4⟩,q⟩:=q1
 subst e
 cases r1 with
 | cons r rr=>
  cases rr with
  | cons r' rr=>
   cases rr with
   | cons r2 rr=>
    cases rr
    obtain⟨t,rfl⟩:=r
    obtain⟨t',rfl⟩:=r'
    obtain⟨t2,rfl⟩:=r2
    refine call_range_3 (by omega) ?_ (Or.inl (PyProof.noPylong_small (by omega)))
    refine wpAny_pyIter_range (IsRange.new ..) (NY q1 q2 q3 q4) ?_
    have I2:Ao X pins σ H1 { s1 with heap:=s1.heap.push { cls:=.type "range",data:=.fields #[.int 0 t,.int j t',.int m t2] },toks:=s1.toks }:=I1.kept fun b o e=>Heap.get?_push_of_some _ e
    refine⟨(s1.heap.push { cls:=.type "range",data:=.fields #[.int 0 t,.int j t',.int m t2] }).objs.size,[(s1.heap.push { cls:=.type "range",data:=.fields #[.int 0 t,.int j t',.int m t2] }).objs.size],_,_,H1,rfl,
     I2.kept (t':=s1.toks) fun b o e=>Heap.get?_push_of_some _ e,PK _ m (FX j m),?_,fun b hb=>?_,q⟩
    ·show IsRangeIter _ _ (0+((0:Nat):Int)*m) (((FX j m:Nat):Int)-((0:Nat):Int)) m
     have e1:0+((0:Nat):Int)*m=0:=by simp
     have e2:((FX j m:Nat):Int)-((0:Nat):Int)=Builtin.Range.rangeSize 0 j m:=by rw[LA q3];simp
     rw[e1,e2]
     exact Heap.get?_push_size _ rfl
    ·obtain rfl:b=(s1.heap.push { cls:=.type "range",data:=.fields #[.int 0 t,.int j t',.int m t2] }).objs.size:=by simpa using hb
     exact I2.fpOk (Nat.le_refl _) (I2.hok.fresh (Nat.le_refl _))
end
section
variable {P:Program}{w:World}{K:PySem.W.Frag}{mg:Str→Option Value}{base:Heap}
theorem Fun.okC {x qual:Str}{st:Stmt}{f:Addr}{fd:FuncData}{N ps:List Str}{k:Nat}{sp:Sp}(F:Fun K x qual st f fd)(S:AW N ps (AL st))(len:∀ vs H Q E,sp vs H Q E→vs.length=ps.length)
 (hbody:∀(cdv:Value) (A:Around) (outer:List Env) (s:Shared) (H:Hp) (vs:List V) (Q:VK) (E:XK),fd.code=cdv→Ce k (A.deeper (envOfC qual (AL st) s.heap.objs.size f cdv))→sp vs H Q E→
  ∃ t,MB (JR Bj P w K mg base N qual (AL st) f cdv A outer s H E).nox (Cp st) t∧t { nx:=fun _ H'=>Q .non H',rt:=Q } (Fl N vs) H):Av P w K mg base Bj (k+1) f fd ps sp:=by
 obtain⟨oc,od,kV,doc,pm,an,cdv,ct,osl,rfl,lk,hcd⟩:=F.ex
 refine Sy lk hcd S len fun A outer s H vs Q E hr hsp=>?_
 obtain⟨t,h,q⟩:=hbody cdv A outer s H vs Q E rfl hr hsp
 exact⟨t,h.nox,q⟩
theorem SH {x qual:Str}{st:Stmt}{f c T:Addr}{fd:FuncData}(F:Fun K x qual st f fd)(hn:PySem.W.nsIn K mainGlobals x=some (some (.ref f)))(ht:PySem.W.tabIn K x=some (c,T)):fd.code=.ref c:=by
 obtain⟨oc,od,kV,doc,pm,an,cdv,ct,osl,rfl,lk,hcd⟩:=F.ex
 unfold PySem.W.tabIn at ht
 rw[hn]at ht
 dsimp only at ht
 rw[lk]at ht
 dsimp only at ht
 split at ht
 ·rename_i c' e
  split at ht
  ·split at ht
   ·cases ht
    rfl
   ·cases ht
  ·cases ht
 ·cases ht
end
theorem NZ {p:Program}{x:Str}(h:(recsOf p).any (fun e=>e.name==x)=true):∃ d,(recsOf p).find? (fun e=>e.name==x)=some d:=by
 obtain⟨d,hd,e⟩:=List.any_eq_true.mp h
 cases q:(recsOf p).find? (fun e=>e.name==x)with
 | some u=>exact⟨u,rfl⟩
 | none=>exact absurd e (by simpa using List.find?_eq_none.mp q d hd)
section
variable {X:Cx}{scope:Scope}{cl:List (Str×Addr)}{C:Addr}{N:List Str}{s₀:Shared}{H₀:Hp}{ex:List Addr}{pn:List (Addr×Obj)}
theorem Qi:Xo (A4 X scope cl C N s₀ H₀ ex pn) (Vm X.K):=LQ
theorem Jg:Dw (A4 X scope cl C N s₀ H₀ ex pn) (.type "tuple") (fun xs H Q=>∃ p ys,xs=[.ref p]∧((Ax X.K H p ys∧∀ l,H l=none→Q (.ref l) (upd H l (.tup ys)))∨(Af X.K H p ys∧Q (.ref p) H))):=CT
theorem PN {k:Nat}{fe e:Expr}{es:List Expr}{tf:TE}{t:TA}{pos:Pos}(hf:PE (A4 X scope cl C N s₀ H₀ ex pn) fe tf)(hr:Ce k X.A)(ha:PA (A4 X scope cl C N s₀ H₀ ex pn) (e::es) t)
 (hc:eval (.Call fe (e::es) [] pos) (A4 X scope cl C N s₀ H₀ ex pn).env=(do callWith pos (← eval fe (A4 X scope cl C N s₀ H₀ ex pn).env) [] (backTo pos (starEach (e::es) (A4 X scope cl C N s₀ H₀ ex pn).env)) (backToKw pos (keywordEach [] (A4 X scope cl C N s₀ H₀ ex pn).env))):=by rfl)
 (he:starEach (e::es) (A4 X scope cl C N s₀ H₀ ex pn).env=(false,eval e (A4 X scope cl C N s₀ H₀ ex pn).env)::starEach es (A4 X scope cl C N s₀ H₀ ex pn).env:=by rfl) (hpl:(backTo pos (starEach es (A4 X scope cl C N s₀ H₀ ex pn).env)).any (·.1)=false:=by rfl):
 PE (A4 X scope cl C N s₀ H₀ ex pn) (.Call fe (e::es) [] pos) (Qe X k tf t):=Jf (X:=A4 X scope cl C N s₀ H₀ ex pn) hf hr ha hc he hpl
end
theorem PP {P:Program}{w:World}{K:PySem.W.Frag}{mg mb:Str→Option Value}{CX:O2}{k:Nat}{fa a:Addr}{fd:FuncData}{x:Str}{sp:Sp}{s₁:Shared}{vs:List Value}{ns:List Int}{tabs:List (Addr×Addr)}
 (KX:K.In s₁.heap) (hns:s₁.heap.Ns mainGlobals mg) (hb:s₁.heap.Ns builtinsNs mb) (hbb:∀ x:Str,x≠"__name__"→mb x=bootBuiltins x) (hlim:s₁.heap.NoLimit) (hg:s₁.gens=#[])
 (ha:s₁.heap.get? a=some { cls:=.type "list",data:=.seq vs.toArray }) (hi:IntsAre vs ns) (hl:ns.length≤sizeLine) (hr:Ce k callerA)
 (hBM:BM mg s₁.heap) (F:∀ base:Heap,K.In base→base.Ns mainGlobals mg→(∀ q∈tabs,PySem.W.CodeHd base q.1 q.2)→BM mg base→Av P w K mg base CX k fa fd [x] sp) (hbind:∀(s:Shared) (u:Value),BindsTo s fd ⟨[u],[]⟩ [(x,u)])
 (hT:PySem.W.TabsAt tabs s₁.heap) (hKT:PySem.W.noTabs K=true)
 (hsp:∀ H:Hp,(∀ q∈tabs,H q.2=some (.tbl #[]))→Ax K H a (ns.map V.int)→sp [.ref a] H (fun v _=>v=.bl true) fun _ _ _=>False)
 (hCX:∀ H e s',CX [] H s₁ (fun _ _ _=>False) e s'→False):
 codeAny (model P w) callerA (.call (.ref fa) ⟨[.ref a],[]⟩) (fun r s'=>r=.ok (.ret (.bool true))∧OldK s₁.heap s'.heap∧s'.os=s₁.os∧AllBare s'.gens) s₁:=by
 have rv:=Kz hi
 have lenV:=hi.length
 have noKT:∀ b,b∈tabs.map (·.2)→K.lookup b=none:=fun b hb=>by
  obtain⟨q,hq,rfl⟩:=List.mem_map.mp hb
  cases e:K.lookup q.2 with
  | none=>rfl
  | some o=>
   have h1:=KX _ _ e
   rw[(hT q hq).2]at h1
   cases h1
   have h2:=List.all_eq_true.mp hKT _ (PySem.W.mem_of_lookupK e)
   cases h2
 have core:∀ H:Hp,(∀ q∈tabs,H q.2=some (.tbl #[]))→(∀ b,b∉tabs.map (·.2)→H b=none∨∃ o xs,H b=some (.frz o (.lst xs)))→Ax K H a (ns.map V.int)→GQ P w H s₁.heap→(∀ b,H b≠none→b=a∨b∈tabs.map (·.2))→(H a≠none→K.lookup a=none)→
  codeAny (model P w) callerA (.call (.ref fa) ⟨[.ref a],[]⟩) (fun r s'=>r=.ok (.ret (.bool true))∧OldK s₁.heap s'.heap∧s'.os=s₁.os∧AllBare s'.gens) s₁:=by
  intro H hTb hO hS hok hA hK
  have base_of:∀{b:Addr} {o:Obj},s₁.heap.get? b=some o→H b=none→(Id s₁.heap H).get? b=some o:=fun e n=>L9 e n
  have noA:∀{b:Addr} {o:Obj} {es:Array DictEntry} {ep:Nat},s₁.heap.get? b=some o→o.data=.dict es ep→H b=none:=fun {b o es ep} e d=>by
   cases q:H b with
   | none=>rfl
   | some u=>
    rcases hA b (by rw[q];simp)with e' | e'
    ·subst e'
     rw[ha]at e;cases e
     have d':Data.seq vs.toArray _=Data.dict es ep:=d
     cases d'
    ·obtain⟨r,hr',rfl⟩:=List.mem_map.mp e'
     rw[(hT r hr').2]at e
     cases e
     cases d
  have nsK:∀{b:Addr} {m:Str→Option Value},s₁.heap.Ns b m→(Id s₁.heap H).Ns b m:=fun {b m} ⟨o,es,ep,e,d,r⟩=>⟨o,es,ep,base_of e (noA e d),d,r⟩
  have hKb:K.In (Id s₁.heap H):=fun b o e=>base_of (KX b o e) (by
   cases q:H b with
   | none=>rfl
   | some u=>
    rcases hA b (by rw[q];simp)with e' | e'
    ·subst e'
     rw[hK (by rw[q];simp)]at e;cases e
    ·rw[noKT b e']at e;cases e)
  have hM:Mod K mg (Id s₁.heap H):=⟨hKb,nsK hns,⟨mb,nsK hb,hbb⟩,let ⟨mc,h1,h2⟩:=hlim;⟨mc,nsK h1,h2⟩⟩
  have e0:P9 P w K mg (Id s₁.heap H) callerA [] s₁ H:=⟨rfl,hM,fun b o e=>N6 e,Nat.le_of_eq (Kl _ _),trivial,fun b hb=>absurd (show b∈([]:List Addr)from hb) (by simp),hok,.of_eq hg⟩
  have noB:∀{b:Addr} {o:Obj} {n:String},s₁.heap.get? b=some o→o.cls=.type n→n≠"list"→H b=none:=fun {b o n} e d dn=>by
   cases q:H b with
   | none=>rfl
   | some u=>
    rcases hA b (by rw[q];simp)with e' | e'
    ·subst e'
     rw[ha]at e;cases e
     have d':Value.type "list"=Value.type n:=d
     cases d'
     exact absurd rfl dn
    ·obtain⟨r,hr',rfl⟩:=List.mem_map.mp e'
     rw[(hT r hr').2]at e
     cases e
     cases d
  have hCd:∀ q∈tabs,PySem.W.CodeHd (Id s₁.heap H) q.1 q.2:=fun q hq=>by
   obtain⟨o,vs,file,tf,flags,tg,inF,text,tt,e,ec,r⟩:=(hT q hq).1
   exact⟨o,vs,file,tf,flags,tg,inF,text,tt,base_of e (noB e ec (by decide)),ec,r⟩
  have hBd:BM mg (Id s₁.heap H):=by
   obtain⟨bm,o,b1,b2,b3,b4,b5⟩:=hBM
   exact⟨bm,o,b1,b2,base_of b3 (noB b3 b4 (by decide)),b4,b5⟩
  refine codeAny_mono ((F _ hKb (nsK hns) hCd hBd).run callerA [] s₁ H ⟨[.ref a],[]⟩ [.ref a] [.ref a] _ _ hr e0 (hbind s₁ (.ref a)) (.cons rfl .nil) (hsp H hTb hS)) fun r s' h=>?_
  cases r with
  | error e=>exact(hCX H e s' h).elim
  | ok fl=>
   cases fl with
   | next=>exact False.elim h
   | brk=>exact False.elim h
   | cont=>exact False.elim h
   | ret u=>
    obtain⟨v,H',os,bare,un,hok',r',q⟩:=h
    have q':v=.bl true:=q
    subst q'
    obtain rfl:u=Value.bool true:=r'
    refine⟨rfl,⟨fun b o e=>?_,fun b o e=>un.there b o e (by simp)⟩,os,bare⟩
    by_cases hb:b∈tabs.map (·.2)
    ·obtain⟨q,hq,rfl⟩:=List.mem_map.mp hb
     obtain⟨more,e2⟩:=un.tbls _ _ (hTb q hq)
     have e3:s'.heap.get? q.2=some { cls:=.none,data:=.fields (#[]++more) }:=hok' _ _ e2
     rw[(hT q hq).2]at e
     cases e
     obtain⟨oc,vc,file,tf,flags,tg,inF,text,tt,g1,g2,g3,g4,_⟩:=(hT q hq).1
     exact .inr (.inl ⟨⟨_,_,_,g1,g2,g3,g4⟩,rfl,_,_,rfl,e3⟩)
    ·refine .inl ?_
     rcases hO b hb with q | ⟨ob,xs,z⟩
     ·exact un.keep b o e q (fun z=>absurd (show b∈([]:List Addr)from z) (by simp)) (by simp)
     ·obtain⟨e1,_⟩:=hok b _ z
      obtain⟨e2,_⟩:=hok' b _ (un.frzs b ob _ z)
      rw[e]at e1;cases e1
      exact e2
 have nTa:a∉tabs.map (·.2):=fun hm=>by
  obtain⟨q,hq,e⟩:=List.mem_map.mp hm
  have h1:=(hT q hq).2
  rw[e,ha]at h1
  cases h1
 have tok:∀ q∈tabs,s₁.heap.get? q.2=some { cls:=.none,data:=.fields #[] }:=fun q hq=>(hT q hq).2
 cases hk:K.lookup a with
 | some o=>
  have e:=KX a o hk
  rw[ha]at e
  cases e
  refine core (fun b=>if b∈tabs.map (·.2)then some (.tbl #[])else none) (fun q hq=>if_pos (List.mem_map_of_mem hq)) (fun b hb=>.inl (if_neg hb)) (.inr ⟨_,vs.toArray,_,hk,rfl,rfl,rfl,by rw[List.size_toArray,lenV];exact hl,by simpa using rv⟩) (fun b u z=>?_) (fun b z=>?_) (fun z=>absurd (if_neg nTa) z)
  ·by_cases hb:b∈tabs.map (·.2)
   ·have z':=(if_pos hb).symm.trans z
    cases z'
    obtain⟨q,hq,rfl⟩:=List.mem_map.mp hb
    exact tok q hq
   ·have z':=(if_neg hb).symm.trans z
    cases z'
  ·by_cases hb:b∈tabs.map (·.2)
   ·exact .inr hb
   ·exact absurd (if_neg hb) z
 | none=>
  refine core (fun b=>if b∈tabs.map (·.2)then some (.tbl #[])else if b=a then some (.frz { cls:=.type "list",data:=.seq vs.toArray } (.lst (ns.map V.int)))else none) (fun q hq=>if_pos (List.mem_map_of_mem hq)) (fun b hb=>?_) (.inl (.inr ⟨{ cls:=.type "list",data:=.seq vs.toArray },(if_neg nTa).trans (if_pos rfl)⟩)) (fun b u z=>?_) (fun b z=>?_) (fun _=>hk)
  ·by_cases hba:b=a
   ·exact .inr ⟨_,_,(if_neg hb).trans (if_pos hba)⟩
   ·exact .inl ((if_neg hb).trans (if_neg hba))
  ·by_cases hb:b∈tabs.map (·.2)
   ·have z':=(if_pos hb).symm.trans z
    cases z'
    obtain⟨q,hq,rfl⟩:=List.mem_map.mp hb
    exact tok q hq
   ·by_cases hba:b=a
    ·have z':=((if_neg hb).trans (if_pos hba)).symm.trans z
     cases z'
     subst hba
     exact⟨ha,by rw[List.length_map];exact hl,vs,_,rv,ha⟩
    ·have z':=((if_neg hb).trans (if_neg hba)).symm.trans z
     cases z'
  ·by_cases hb:b∈tabs.map (·.2)
   ·exact .inr hb
   ·by_cases hba:b=a
    ·exact .inl hba
    ·exact absurd ((if_neg hb).trans (if_neg hba)) z
theorem V4 {p:Program}{loose:List Str}{mean:ExcName→Option Value}{mg mb:Str→Option Value}{h:Heap}(T:Top p loose mean mg mb h):BM mg h:=by
 obtain⟨bm,ob,b1,b2,b3,b4,b5,b6⟩:=T.bmain
 refine⟨bm,ob,b1,⟨b2,fun q=>?_⟩,b3,b4,b5,b6⟩
 obtain⟨o,es,ep,e,hd,_⟩:=T.g
 rw[q,e]at b3
 cases b3
 rw[hd]at b6
 cases b6
theorem Qj {l:PySem.W.OpenLaw}{n k:Nat}{q:Program}{loose:List Str}{XP:(Str→Option Value)→Heap→Prop}{YP:World→Heap→Prop}{d:DefRec}{K:Params→PySem.W.Frag}{x:Str}
 (hn:l.most=some n) (hn2:n≤sizeLine) (hdf:d.params.defaults=[]) (hr:Ce k callerA) (hY:∀(w:World) (h:Heap),YP w h→(K w.params).In h) (hKT:∀ w:World,PySem.W.noTabs (K w.params)=true)
 (F:∀(w:World) (mean:ExcName→Option Value) (mg mb:Str→Option Value) (fa:Addr) (h:Heap),(K w.params).In h→Top q (PySem.W.looseW q loose) mean mg mb h→mg d.name=some (.ref fa)→
  ∃(fd:FuncData) (tabs:List (Addr×Addr)) (sp:Sp),(∀(s:Shared) (u:Value),BindsTo s fd ⟨[u],[]⟩ [(x,u)])∧PySem.W.TabsAt tabs h∧
   (∀(H:Hp) (a:Addr) (ns:List Int),ns.length≤n→(∀ q∈tabs,H q.2=some (.tbl #[]))→Ax (K w.params) H a (ns.map V.int)→sp [.ref a] H (fun v _=>v=.bl true) E0)∧
   ∀ base:Heap,(K w.params).In base→base.Ns mainGlobals mg→(∀ q∈tabs,PySem.W.CodeHd base q.1 q.2)→BM mg base→Av l.prog w (K w.params) mg base Bj k fa fd [x] sp):
 PySem.W.WalkO q loose XP YP l.row.toRowW d [] (fun f vs=>PySem.call f vs):=by
 refine Att.MJ hn hdf fun w s₀ s₁ mg mb fa o pm cd doc a vs ns G Y ho hd hcd hmg hobj hints hlen hg=>?_
 have KX:=hY w _ Y
 obtain⟨fd,tabs,sp,hb,hT,hS,hF⟩:=F w _ mg mb fa _ KX G.T hmg
 exact PP KX G.T.g G.T.b G.T.builtins G.T.nolimit hg hobj hints (Nat.le_trans hlen hn2) hr (V4 G.T) hF hb hT (hKT w) (fun H hO hS'=>hS H a ns hlen hO hS') fun H e s' h=>h.elim
def Qk (K:PySem.W.Frag)(t l:Addr):It:=
 ⟨fun i H=>∃ xs ys x y,Ax K H t xs∧Ax K H l ys∧xs[i]?=some x∧ys[i]?=some y,
  fun i H v H'=>∃ x y b,(∀ xs,Ax K H t xs→xs[i]?=some x)∧(∀ ys,Ax K H l ys→ys[i]?=some y)∧H b=none∧v=.ref b∧H'=upd H b (.tup [x,y]),
  fun i H=>∃ xs ys,Ax K H t xs∧Ax K H l ys∧(xs.length≤i∨ys.length≤i)⟩
theorem PQ {P:Program}{w:World}{K:PySem.W.Frag}{els:List Expr}{x1}{pt:Pos}(t l z TI TO i1 i2:Addr)(D:ZipApart z TI TO i1 i2 t l):
 KJ P w K (.Tuple els x1 pt) (Qk K t l) [z,TI,TO,i1,i2] z (fun i h=>IsZip h z TI TO .none∧IsPair h TI (.ref i1) (.ref i2)∧(∃ a b,IsPair h TO a b)∧h.IsListIter i1 t i∧h.IsListIter i2 l i) where
 mem:=by simp
 obj:=fun i h st b hb=>by
  obtain⟨h1,h2,⟨_,_,h3⟩,⟨o4,h4,_,d4⟩,⟨o5,h5,_,d5⟩⟩:=st
  have hb':b=z∨b=TI∨b=TO∨b=i1∨b=i2:=by simpa using hb
  rcases hb' with rfl | rfl | rfl | rfl | rfl
  ·exact⟨_,h1,fun v z=>by cases z⟩
  ·exact⟨_,h2,fun v z=>by cases z⟩
  ·exact⟨_,h3,fun v z=>by cases z⟩
  ·exact⟨_,h4,fun v z=>by rw[d4]at z;cases z⟩
  ·exact⟨_,h5,fun v z=>by rw[d5]at z;cases z⟩
 keep:=fun i h h' st k=>by
  obtain⟨h1,h2,⟨a,b,h3⟩,h4,h5⟩:=st
  exact⟨k z (by simp) _ h1,k TI (by simp) _ h2,⟨a,b,k TO (by simp) _ h3⟩,h4.at fun o q=>k i1 (by simp) o q,h5.at fun o q=>k i2 (by simp) o q⟩
 item:=by
  intro X hP hw hK hc i pins s σ H E I hf st hg
  subst hP hw hK
  obtain⟨xs,ys,x,y,hqx,hqy,hx,hy⟩:=hg
  obtain⟨hz,hTI,⟨a,b,hTO⟩,h1,h2⟩:=st
  obtain⟨its,rv,p,_⟩:=I.list hqx
  obtain⟨its2,rv2,p2,_⟩:=I.list hqy
  obtain⟨u,hu,ru⟩:=rv.get hx
  obtain⟨v,hv,rv'⟩:=rv2.get hy
  refine wpAny_pyNext_zip_item D hz hTI hTO h1 h2 p.isList p2.isList (x:=u) (y:=v) (by simpa using hu) (by simpa using hv) fun h1' hz1 hTO1 hi1 hi2 hT1 hsz1 hk1=>⟨_,rfl,?_⟩
  refine wpAny_letOwnedTupleGo_zip (s:={ s with heap:=h1' }) hz1 fun h2' hz2 hs2=>?_
  replace hs2:Heap.SameBut z h1' h2':=hs2
  have zH:z<s.heap.objs.size:=Heap.lt_size hz
  have TOH:TO<s.heap.objs.size:=Heap.lt_size hTO
  have TIH:TI<s.heap.objs.size:=Heap.lt_size hTI
  have i1H:i1<s.heap.objs.size:=by obtain⟨_,q,_⟩:=id h1;exact Heap.lt_size q
  have i2H:i2<s.heap.objs.size:=by obtain⟨_,q,_⟩:=id h2;exact Heap.lt_size q
  have hTI2:IsPair h2' TI (.ref i1) (.ref i2):=hs2.extBut _ _ D.TIz (hk1 _ _ D.TIz D.TITO D.TIi1 D.TIi2 hTI)
  have hTO2:IsPair h2' TO u v:=hs2.extBut _ _ D.TOz hTO1
  have hi12:h2'.IsListIter i1 t (i+1):=hi1.extBut hs2.extBut D.i1z
  have hi22:h2'.IsListIter i2 l (i+1):=hi2.extBut hs2.extBut D.i2z
  have hT2:IsPair h2' s.heap.objs.size u v:=hs2.extBut _ _ (Nat.ne_of_gt zH) hT1
  obtain⟨o1,ho1,_,hd1⟩:=id hi12
  obtain⟨o2,ho2,_,hd2⟩:=id hi22
  obtain⟨mid,hm1,hm2,hm3⟩:=Vz (h:=s.heap) (h2:=h2') [z,TI,TO,i1,i2] (fun b hb=>by
   have hb':b=z∨b=TI∨b=TO∨b=i1∨b=i2:=by simpa using hb
   rcases hb' with rfl | rfl | rfl | rfl | rfl
   ·exact⟨_,hz⟩
   ·exact⟨_,hTI⟩
   ·exact⟨_,hTO⟩
   ·obtain⟨o,q,_⟩:=id h1;exact⟨o,q⟩
   ·obtain⟨o,q,_⟩:=id h2;exact⟨o,q⟩) (fun b hb=>by
   have hb':b=z∨b=TI∨b=TO∨b=i1∨b=i2:=by simpa using hb
   rcases hb' with rfl | rfl | rfl | rfl | rfl
   ·exact⟨_,hz2,rfl⟩
   ·exact⟨_,hTI2,rfl⟩
   ·exact⟨_,hTO2,rfl⟩
   ·exact⟨_,ho1,Obj.isFreed_of_fields hd1⟩
   ·exact⟨_,ho2,Obj.isFreed_of_fields hd2⟩)
  have I1:Ao X pins σ H { s with heap:=mid }:=I.turnedL (t':=s.toks) (fs:=[z,TI,TO,i1,i2]) (fun b o hb q=>(hm3 b hb).trans q) hf
  have k2:∀ b o,mid.get? b=some o→h2'.get? b=some o:=fun b o q=>by
   by_cases c:b∈[z,TI,TO,i1,i2]
   ·exact(hm2 b c).symm.trans q
   ·rw[hm3 b c]at q
    have c':b≠z∧b≠TI∧b≠TO∧b≠i1∧b≠i2:=by simpa using c
    exact hs2.extBut _ _ c'.1 (hk1 _ _ c'.1 c'.2.2.1 c'.2.2.2.1 c'.2.2.2.2 q)
  have fz:mid.objs.size≤s.heap.objs.size:=by rw[hm1];exact Nat.le_refl _
  have I3:Ao X pins σ (upd H s.heap.objs.size (.tup [x,y])) { s with heap:=h2' }:=
   I1.laid (t':=s.toks) k2 fz (show BW X.prog X.w _ h2' _ (.tup [x,y])from⟨by show 2≤sizeLine;rw[sizeLine_eq];decide,[u,v],.cons ru (.cons rv' .nil),⟨_,hT2,rfl,_,rfl⟩⟩)
  refine⟨.ref s.heap.objs.size,_,I3,rfl,⟨x,y,s.heap.objs.size,(fun zs hz=>by rw[I.list_inj hz hqx];exact hx),(fun zs hz=>by rw[I.list_inj hz hqy];exact hy),I.hok.fresh (Nat.le_refl _),rfl,rfl⟩,⟨hz2,hTI2,⟨_,_,hTO2⟩,hi12,hi22⟩,fun b hb=>?_⟩
  have lt:b<s.heap.objs.size:=by
   have hb':b=z∨b=TI∨b=TO∨b=i1∨b=i2:=by simpa using hb
   rcases hb' with rfl | rfl | rfl | rfl | rfl <;> assumption
  rw[AX (Nat.ne_of_lt lt)]
  exact(hf b hb).1
 done:=by
  intro X hP hw hK hc i pins s σ H E I hf st hg
  subst hP hw hK
  obtain⟨xs,ys,hqx,hqy,hx⟩:=hg
  obtain⟨hz,hTI,⟨a,b,hTO⟩,h1,h2⟩:=st
  obtain⟨its,rv,p,_⟩:=I.list hqx
  obtain⟨its2,rv2,p2,_⟩:=I.list hqy
  have l1:=rv.length
  have l2:=rv2.length
  refine wpAny_pyNext_zip_end (I.ok.hd hc) D hz hTI hTO h1 h2 p.isList p2.isList (hx.imp (fun q=>by simp;omega) (fun q=>by simp;omega)) fun h' hk=>⟨rfl,?_⟩
  refine I.turnedL (t':=s.toks) (fs:=[z,TI,TO,i1,i2]) (fun b o hb q=>?_) hf
  have c':b≠z∧b≠TI∧b≠TO∧b≠i1∧b≠i2:=by simpa using hb
  exact hk _ _ c'.1 c'.2.2.1 c'.2.2.2.1 c'.2.2.2.2 q
 self:=fun _ _ _ _ _ st h=>wpAny_pyIter_zip st.1 h
section
variable {X:Cx}
def V5 (K:PySem.W.Frag)(ta:TA):TI:=fun σ H R=>ta σ H fun vs H1=>∃ t l,vs=[V.ref t,V.ref l]∧(∃ xs,Ax K H1 t xs)∧(∃ ys,Ax K H1 l ys)∧R (Qk K t l) H1
theorem OH {a c:Expr}{ta:TA}{p pos pt:Pos}{els:List Expr}{x1}(hg:Gl X "zip")(hm:X.mg "zip"=none)(hv:bootBuiltins "zip"=some (.type "zip"))(ha:PA X [a,c] ta)(hs:starEach [a,c] X.env=(false,eval a X.env)::starEach [c] X.env:=by rfl)(hs2:(backTo pos (starEach [c] X.env)).any (·.1)=false:=by rfl):
 PI X (.Tuple els x1 pt) (.Call (.Name "zip" p) [a,c] [] pos) (V5 X.K ta):=by
 intro pins s σ H R I h
 refine Call_ (Du I hg hm hv (PyProof.Rows.callWith_type1 (BZ (ha pos pins s σ H _ I h) fun us s1 zq=>?_) hs hs2))
 obtain⟨vs,H1,I1,r1,q1⟩:=zq
 obtain⟨t,l,e,⟨xs,hqx⟩,⟨ys,hqy⟩,q⟩:=q1
 subst e
 obtain⟨u,v,rfl,ru,rv⟩:=A1.two r1
 cases ru
 cases rv
 obtain⟨its,rv,pt',_⟩:=I1.list hqx
 obtain⟨its2,rv2,pl,_⟩:=I1.list hqy
 have tl:t<s1.heap.objs.size:=by obtain⟨o,q,_⟩:=pt'.isList;exact Heap.lt_size q
 have ll:l<s1.heap.objs.size:=by obtain⟨o,q,_⟩:=pl.isList;exact Heap.lt_size q
 refine call_zip_2 pt'.isList pl.isList fun h' hz hTI hTO hi1 hi2 hsz kp=>wpAny_pyIter_zip (s:={ s1 with heap:=h' }) hz ?_
 have I2:Ao X pins σ H1 { s1 with heap:=h' }:=I1.kept (t':=s1.toks) kp
 generalize hn:s1.heap.objs.size=n at *
 have ge:∀ b∈[n+4,n+2,n+3,n,n+1],n≤b:=fun b hb=>by
  have hb':b=n+4∨b=n+2∨b=n+3∨b=n∨b=n+1:=by simpa using hb
  rcases hb' with rfl | rfl | rfl | rfl | rfl
  ·exact Nat.le_add_right _ _
  ·exact Nat.le_add_right _ _
  ·exact Nat.le_add_right _ _
  ·exact Nat.le_refl _
  ·exact Nat.le_add_right _ _
 have D:ZipApart (n+4) (n+2) (n+3) n (n+1) t l:=by
  have a1:t<n+4:=Nat.lt_of_lt_of_le tl (Nat.le_add_right _ _)
  have a2:l<n+4:=Nat.lt_of_lt_of_le ll (Nat.le_add_right _ _)
  have b1:t<n+3:=Nat.lt_of_lt_of_le tl (Nat.le_add_right _ _)
  have b2:l<n+3:=Nat.lt_of_lt_of_le ll (Nat.le_add_right _ _)
  have c1:t<n+1:=Nat.lt_of_lt_of_le tl (Nat.le_add_right _ _)
  have c2:l<n+1:=Nat.lt_of_lt_of_le ll (Nat.le_add_right _ _)
  have nn:∀{i j:Nat},i≠j→(n+i:Nat)≠n+j:=fun h z=>h (Nat.add_left_cancel z)
  exact⟨nn (by decide),nn (by decide),nn (i:=0) (by decide),nn (by decide),nn (by decide),nn (j:=0) (by decide),nn (by decide),nn (j:=0) (by decide),nn (by decide),nn (i:=0) (by decide),
   Nat.ne_of_lt a1,Nat.ne_of_lt b1,Nat.ne_of_lt tl,Nat.ne_of_lt c1,Nat.ne_of_lt a2,Nat.ne_of_lt b2,Nat.ne_of_lt ll,Nat.ne_of_lt c2⟩
 exact⟨n+4,_,_,_,H1,rfl,I2,PQ t l _ _ _ _ _ D,⟨hz,hTI,⟨_,_,hTO⟩,hi1,hi2⟩,fun b hb=>I1.fpOk (by rw[hn];exact ge b hb) (I1.hok.fresh (by rw[hn];exact ge b hb)),q⟩
end
section
variable {X:Cx}
theorem Ql (l:Addr)(u:Value)(n:Nat)(t:Tok)(dd:Option Addr)(sl:Array (Option Value)):
 Meets (Builtin.«tuple.__mul__» ⟨[.ref l,.int 1 t],[]⟩) (fun _ R s=>s.heap.get? l=some ⟨.type "tuple",dd,.seq #[u] n,sl⟩∧R (.ok (.ret (.ref l))) s):=
 .of_wp fun prog w A R s h=>by
  obtain⟨hp,g,d,tk,os⟩:=s
  obtain⟨hl,h⟩:=h
  wp_walk
  exact⟨_,rfl,h⟩
theorem Md {α:Type}(u:α):∀(k:Nat) (acc:Array α),(List.replicate k #[u]).foldl (·++·) acc=acc++(List.replicate k u).toArray
 | 0,acc=>by simp
 | k+1,acc=>by
  rw[List.replicate_succ,List.foldl_cons,Md u k]
  apply Array.ext'
  simp[List.replicate_succ]
theorem Qm (k:Nat)(hk:2≤k)(hk2:k≤1000)(l:Addr)(u:Value)(n:Nat)(t:Tok)(dd:Option Addr)(sl:Array (Option Value)):
 Meets (Builtin.«tuple.__mul__» ⟨[.ref l,.int (k:Int) t],[]⟩) (fun _ R s=>s.heap.get? l=some ⟨.type "tuple",dd,.seq #[u] n,sl⟩∧R (.ok (.ret (.ref s.heap.objs.size))) { s with heap:=s.heap.push { cls:=.type "tuple",data:=.seq (List.replicate k u).toArray } }):=
 .of_wp fun prog w A R s h=>by
  obtain⟨hp,g,d,tk,os⟩:=s
  obtain⟨hl,h⟩:=h
  have h1:¬ (decide ((k:Int) < -(2 ^ 63))||decide ((k:Int)≥2 ^ 63))=true:=by simp;omega
  have h2:¬ ((#[u]:Array Value).isEmpty||(k:Int)==1)=true:=by simp;omega
  have h3:¬ (decide ((k:Int)≤0)||(#[u]:Array Value).isEmpty)=true:=by simp;omega
  have h4:¬ (((#[u]:Array Value).size:Int)*(k:Int)>(2 ^ 63-1) / 8):=by simp;omega
  have h5:¬ Builtin.Tuple.tupleTooMany (((#[u]:Array Value).size:Int)*(k:Int))=true:=by
   unfold Builtin.Tuple.tupleTooMany
   rw[decide_eq_true_eq]
   have:(1000:Nat)≤sizeLine:=by decide
   simp
   omega
  wp_walk
  rw[if_neg h1]
  wp_walk
  rw[if_neg h2]
  wp_walk
  rw[if_neg h3]
  wp_walk
  rw[if_neg h4]
  wp_walk
  rw[if_neg h5]
  have ef:List.foldl (fun(x1 x2:Array Value)=>x1++x2) #[] (List.replicate ((k:Int)).toNat #[u])=(List.replicate k u).toArray:=by
   rw[Int.toNat_natCast,Md];simp
  have hs:¬ ((List.replicate k u).toArray.size>sizeLine):=by
   have:(1000:Nat)≤sizeLine:=by decide
   simp
   omega
  rw[ef]
  wp_walk
  rw[if_neg hs]
  wp_walk
  exact⟨_,rfl,h⟩
def V6:R2:=fun x y H Q=>∃ t v n,x=.ref t∧y=.int ((n:Nat):Int)∧H t=some (.tup [v])∧1≤n∧n≤1000∧∀ p H',H' p=some (.tup (List.replicate n v))→AI H H'→Q (.ref p) H'
theorem OI:GL X (binaryOp .Mult) V6:=by
 intro pins s σ H x y v u Q I rx ry h
 obtain⟨t,v0,k,rfl,rfl,ht,h1,h2,q⟩:=h
 cases rx
 obtain⟨t',rfl⟩:=ry
 obtain⟨z,its,r,o,e,c,n,d⟩:=I.hok t _ ht
 obtain⟨oc,od,oda,osl⟩:=o
 dsimp only at c d
 subst c d
 cases r with | cons r0 rr=>cases rr with | nil=>
 rename_i u0
 by_cases hk:k=1
 ·subst hk
  refine wpAny_binaryOp_repeat_ref (T:="tuple") (U:="int") (by decide) ⟨_,e,rfl⟩ (fun s'=>typeIs_int s' 1 t') Jb F.fills_int_mul F.slot_int_rmul Jc F.slot_int_index.lookup
   (call_meets F.slot_int_rmul (typeIs_int s 1 t') F.entry_int_rmul (F.args_int_rmul_2 _ _) (MM 1 t' t _ n od osl)
    ⟨e,rfl,⟨_,e,rfl⟩,call_meets F.slot_tuple_mul ⟨_,e,rfl⟩ F.entry_tuple_mul (F.args_tuple_mul_2 _ _) (Ql t u0 n t' od osl) ⟨e,?_⟩⟩)
  exact⟨.ref t,H,I,rfl,q t H ht (AI.refl _)⟩
 ·refine wpAny_binaryOp_repeat_ref (T:="tuple") (U:="int") (by decide) ⟨_,e,rfl⟩ (fun s'=>typeIs_int s' k t') Jb F.fills_int_mul F.slot_int_rmul Jc F.slot_int_index.lookup
   (call_meets F.slot_int_rmul (typeIs_int s k t') F.entry_int_rmul (F.args_int_rmul_2 _ _) (MM k t' t _ n od osl)
    ⟨e,rfl,⟨_,e,rfl⟩,call_meets F.slot_tuple_mul ⟨_,e,rfl⟩ F.entry_tuple_mul (F.args_tuple_mul_2 _ _) (Qm k (by omega) h2 t u0 n t' od osl) ⟨e,?_⟩⟩)
  have rp:∀ j:Nat,A1 (List.replicate j v0) (List.replicate j u0):=fun j=>by
   induction j with
   | zero=>exact .nil
   | succ j ih=>exact .cons r0 ih
  exact⟨.ref s.heap.objs.size,_,I.laid (t':=s.toks) (o:=.tup (List.replicate k v0)) (fun b ob q=>Heap.get?_push_of_some _ q) (Nat.le_refl _) ⟨by rw[List.length_replicate];exact Nat.le_trans h2 (by decide),_,rp k,IsTup.new _ _⟩,rfl,q _ _ AE (fun b o e=>by rw[AX (AZ e (I.hok.fresh (Nat.le_refl _)))];exact e)⟩
theorem SI (l:Addr)(its:Array Value)(n:Nat)(b:Addr)(its2:Array Value)(n2:Nat)(dd:Option Addr)(sl:Array (Option Value))(hs0:¬(!its.isEmpty&&Builtin.List.listTooLong (its.size+its2.size))=true)(hs1:its.size≤sizeLine)(hs2:its.size+its2.size≤sizeLine+1):
 Meets (Builtin.«list.extend» ⟨[.ref l,.ref b],[]⟩) (fun _ R s=>s.heap.get? l=some { cls:=.type "list",dict:=none,data:=.seq its n,slots:=#[] }∧s.heap.get? b=some ⟨.type "tuple",dd,.seq its2 n2,sl⟩∧R (.ok (.ret Value.none)) { s with heap:=s.heap.update l (Obj.mapSeq fun x=>x++its2),toks:=s.toks }):=
 .of_wp fun prog w A R s h=>by
  obtain⟨hp,g,d,tk,os⟩:=s
  obtain⟨hl,hb,h⟩:=h
  have f1:=PySem.AutoSeq1.idx_int
  have f2:=PySem.AutoSeq1.sub_tuple_tuple
  have f3:=PySem.AutoSeq1.sub_list_list
  have f4:=PySem.AutoSeq1.sub_tuple_list
  have f5:=PySem.AutoSeq1.sub_list_tuple
  have hz':(its++its2).size≤sizeLine+1:=by rw[Array.size_append];exact hs2
  wp_walk using(wpAny_updateSeq hl rfl (hz:=hs1) (_hz':=hz')),wpAny_loadPart' hl,wpAny_loadPart' hb
  exact⟨_,rfl,h⟩
def V7:V→List V→Hp→VK→Prop:=fun x vs H Q=>∃ l b xs zs,x=.ref l∧vs=[.ref b]∧H l=some (.lst xs)∧H b=some (.tup zs)∧xs.length+zs.length≤sizeLine∧Q .non (upd H l (.lst (xs++zs)))
theorem Na:Xp X "list.extend" V7:=by
 intro pins s σ H x vs v us Q I rx rv h
 obtain⟨l,b,xs,zs,rfl,rfl,hH,hB,hz,q⟩:=h
 cases rx
 obtain⟨u,rfl,ru⟩:=rv.one
 cases ru
 obtain⟨z,its,n,r,hl,e⟩:=I.lstM hH
 obtain⟨z2,its2,r2,o2,e2,c2,n2,d2⟩:=I.hok b _ hB
 obtain⟨oc,od,oda,osl⟩:=o2
 dsimp only at c2 d2
 subst c2 d2
 have hsz:its.toArray.size+its2.toArray.size≤sizeLine:=by rw[List.size_toArray,List.size_toArray,← r2.length];omega
 have hlong:¬ (!its.toArray.isEmpty&&Builtin.List.listTooLong (its.toArray.size+its2.toArray.size))=true:=by
  rw[JW hsz,Bool.and_false]
  exact Bool.false_ne_true
 refine call_meets F.slot_list_extend ⟨_,e,rfl⟩ F.entry_list_extend (F.args_list_extend_2 _ _)
  (SI l its.toArray n b its2.toArray n2 od osl hlong (by rw[List.size_toArray];omega) (by omega)) ⟨e,e2,?_⟩
 refine⟨.non,_,I.lset (its':=its++its2) hH e (by simp) (r.append r2) ?_,rfl,q⟩
 rw[List.length_append]
 omega
end
structure UJ (X:Cx)(scope:Scope)(cl:List (Str×Addr))(x:Str)(fv:List Str)(js:List Nat):Prop where
 kind:scope.kind=.function
 nc:∀ y∈scope.names,y.2=.cell→y.1=x
 nm:∀ y∈scope.names,y.2=.local→scope.names.lookup y.1=some .local
 hx:scope.names.lookup x=some .cell
 fr:∀ y∈scope.names,y.2=.free→y.1∈fv
 nd:(x::fv).Nodup
 vis:∀ y∈fv,scope.names.lookup y=some .free∧X.env.scope.names.lookup y=some .cell∧(cl.lookup y).isSome=true
 cls:∀ p∈cl,X.env.cells.lookup p.1=some p.2
 sl:Paired (fun y j=>X.N[j]?=some y) fv js
 cf:∀ n l,cellsFrom n scope.names l=(x,n)::l
 pc:∀ h:Heap,pushCells h scope.names=h.push { cls:=.type "cell",data:=.cell none }
theorem Me {P:Program}{w:World}{κ:Type}[DecidableEq κ]{knd:KeyKind P w κ}:∀{es:List DictEntry} {kvs:List (κ×Value)} {i:Nat} {kv:κ×Value},Pairs knd es kvs→kvs[i]?=some kv→∃ e,es[i]?=some e∧knd.is kv.1 e.key=true
 | _,_,_,_,.nil,h=>by simp at h
 | _,_,0,_,.cons a _ _,h=>by simp at h;subst h;exact⟨_,rfl,a⟩
 | _,_,i+1,kv,.cons _ _ t,h=>by
  obtain⟨e,h1,h2⟩:=Me (i:=i) (kv:=kv) t (by simpa using h)
  exact⟨e,by simpa using h1,h2⟩
theorem UK {P:Program}{w:World}{k:BC}{u:Value}(h:(BU P w).is k u=true):A2 (kV k) u:=by
 rcases Bi h with⟨i,t,rfl,rfl⟩ | ⟨x,t,rfl,rfl⟩
 ·exact⟨t,rfl⟩
 ·exact⟨t,rfl⟩
section
variable {X:Cx}{tg:Expr}{pins:List (Addr×Obj)}{σ:St}{H:Hp}{s:Shared}
theorem Ao.freezeK {a:Addr}{kvs:List (BC×V)}{o:Obj}(I:Ao X pins σ H s)(e:H a=some (.dK kvs))(ho:s.heap.get? a=some o):Ao X pins σ (upd H a (.frz o (.dK kvs))) s:=by
 have ne:∀{b:Addr} {u:HO},H b=some u→(∀ k,u≠.dK k)→b≠a:=fun h n z=>by
  subst z
  rw[e]at h
  exact n _ (Option.some.inj h).symm
 have tup:∀ b xs,H b=some (.tup xs)→upd H a (.frz o (.dK kvs)) b=some (.tup xs):=fun b xs q=>by rw[AX (ne q fun k z=>nomatch z)];exact q
 refine I.un (t':=s.toks) (h':=s.heap) ⟨fun b u q _ _ _=>q,fun b u q _ _ _=>⟨u.slots,q⟩,fun b u q n _=>?_,fun b u q _=>⟨u,q⟩,tup,fun b u v q=>?_,fun b ps q=>⟨#[],?_⟩⟩ fun b u q=>?_
 ·rw[AX fun z=>by rw[z,e]at n;cases n];exact n
 ·rw[AX (ne q fun k z=>nomatch z)];exact q
 ·rw[AX (ne q fun k z=>nomatch z),q];simp
 ·by_cases hb:b=a
  ·subst hb
   rw[AE]at q
   cases q
   exact⟨ho,(I.hok b _ e).stay (fun _ _ _ z=>z) (fun c z=>by rw[AX (ne z fun k z=>nomatch z)];exact z) tup⟩
  ·rw[AX hb]at q
   exact(I.hok b u q).stay (fun _ _ _ z=>z) (fun c z=>by rw[AX (ne z fun k z=>nomatch z)];exact z) tup
def V8 (a:Addr)(o:Obj):It:=
 ⟨fun i H=>∃ kvs,H a=some (.frz o (.dK kvs))∧i<kvs.length,
  fun i H x H'=>H'=H∧∀ kvs,H a=some (.frz o (.dK kvs))→∃ k v,kvs[i]?=some (k,v)∧x=kV k,
  fun i H=>∃ kvs,H a=some (.frz o (.dK kvs))∧kvs.length≤i⟩
theorem SJ {P:Program}{w:World}{K:PySem.W.Frag}{tg:Expr}(a it:Addr){o:Obj}{es:Array DictEntry}{ep:Nat}(hx:o.ExactDict)(hd:o.data=.dict es ep):
 KJ P w K tg (V8 a o) [it] it (fun i h=>h.IsKeyIter it a i es.size ep) where
 mem:=by simp
 obj:=fun i h st b hb=>by
  have e:b=it:=by simpa using hb
  subst e
  obtain⟨o,e,c,d⟩:=st
  exact⟨o,e,fun v z=>by rw[d]at z;cases z⟩
 keep:=fun i h h' st k=>st.at fun o e=>k it (by simp) o e
 item:=by
  intro X hP hw hK hc i pins s σ H E I hf st hg
  subst hP hw hK
  obtain⟨kvs,hq,hi⟩:=hg
  obtain⟨ho,z,y,xs,r,o',es',ep',h1,h2,h3,h4,h5,h6⟩:=(show BW X.prog X.w H s.heap a (.frz o (.dK kvs))from I.hok a _ hq)
  rw[ho]at h1
  cases h1
  rw[hd]at h3
  cases h3
  obtain⟨f0,f1,f2,f3,f4,f5⟩:=hf it (by simp)
  have e1:kvs[i]?=some (kvs[i]'hi):=List.getElem?_eq_getElem _
  obtain⟨q,hq2,rel⟩:=Ar r e1
  obtain⟨en,hen,hkey⟩:=Me h5 hq2
  have he:es[i]?=some en:=by rw[← Array.getElem?_toList];exact hen
  have hrel:A2 (kV kvs[i].1) en.key:=by rw[rel.1];exact UK hkey
  refine QS st ⟨ho,hx,hd⟩ he fun h' st' sb=>?_
  have I1:Ao X pins σ H { s with heap:=h' }:=I.turned (t':=s.toks) (fun b o hb e=>(sb.2 b hb).trans e) f0 f1 f3 f4 f5
  obtain⟨oo,e,c,dd⟩:=id st'
  refine⟨_,rfl,Kn (s:={ s with heap:=h' }) e c dd (by decide) ⟨kV kvs[i].1,H,I1,hrel,⟨rfl,fun kvs' hk=>?_⟩,st',fun b hb=>(hf b hb).1⟩⟩
  rw[hq]at hk
  cases hk
  exact⟨_,_,e1,rfl⟩
 done:=by
  intro X hP hw hK hc i pins s σ H E I hf st hg
  subst hP hw hK
  obtain⟨kvs,hq,hi⟩:=hg
  obtain⟨ho,z,y,xs,r,o',es',ep',h1,h2,h3,h4,h5,h6⟩:=(show BW X.prog X.w H s.heap a (.frz o (.dK kvs))from I.hok a _ hq)
  rw[ho]at h1
  cases h1
  rw[hd]at h3
  cases h3
  obtain⟨f0,f1,f2,f3,f4,f5⟩:=hf it (by simp)
  have hl:es.size=kvs.length:=by rw[KV.length r,← Array.length_toList,h5.length]
  exact R9 (I.ok.hd hc) st ⟨ho,hx,hd⟩ (by omega) fun h' eb=>⟨rfl,I.turned (t':=s.toks) (fun b o hb e=>eb b o hb e) f0 f1 f3 f4 f5⟩
 self:=fun _ _ _ _ _ st h=>wpAny_pyIter_keyiter st h
def ZU (tl:TE):TI:=fun σ H R=>tl σ H fun x H1=>∃ a kvs,x=.ref a∧H1 a=some (.dK kvs)∧∀ o,R (V8 a o) (upd H1 a (.frz o (.dK kvs)))
theorem V9 {l:Expr}{tl:TE}(hl:PE X l tl):PI X tg l (ZU tl):=by
 intro pins s σ H R I h
 refine BZ (hl pins s σ H _ I h) fun v s1 zq=>?_
 obtain⟨x,H1,I1,r1,q1⟩:=zq
 obtain⟨a,kvs,e,hq,q⟩:=q1
 subst e
 cases r1
 obtain⟨z,y,xs,r,o,es,ep,h1,h2,h3,h4,h5,h6⟩:=(show BW X.prog X.w H1 s1.heap a (.dK kvs)from I1.hok a _ hq)
 have I2:=I1.freezeK hq h1
 refine QR ⟨h1,h2,h3⟩ y ?_
 refine⟨s1.heap.objs.size,[s1.heap.objs.size],_,_,_,rfl,I2.kept (t':=s1.toks) fun b o e=>Heap.get?_push_of_some _ e,SJ a _ h2 h3,⟨_,Heap.get?_push_size _ rfl,rfl,rfl⟩,fun b hb=>?_,q o⟩
 have e:b=s1.heap.objs.size:=by simpa using hb
 subst e
 exact I2.fpOk (Nat.le_refl _) (I2.hok.fresh (Nat.le_refl _))
end
theorem UL {a:Addr}{o:Obj}{kvs:List (BC×V)}{g:TG}{tb:TS}{D:Dj}{σ:St}{H:Hp}(Pv:Nat→St→Hp→Prop)(h0:Pv 0 σ H)(hl:∀ i σ H,i≤kvs.length→Pv i σ H→H a=some (.frz o (.dK kvs)))
 (hs:∀ i k v σ H,kvs[i]?=some (k,v)→Pv i σ H→g (kV k) σ H fun σ2 H2=>tb { D with nx:=Pv (i+1),ct:=Pv (i+1),bk:=D.nx } σ2 H2) (hd:∀ σ H,Pv kvs.length σ H→D.nx σ H):
 ∃ W:Nat→Nat→St→Hp→Prop,(∃ m,W 0 m σ H)∧∀ i m σ H,W i m σ H→
  ((V8 a o).stop i H∧D.nx σ H)∨((V8 a o).go i H∧∃ N:St→Hp→Prop,(∀ σ' H',N σ' H'→∃ m',m'<m∧W (i+1) m' σ' H')∧∀ x H',(V8 a o).yld i H x H'→g x σ H' fun σ2 H2=>tb { D with nx:=N,ct:=N,bk:=D.nx } σ2 H2):=by
 refine⟨fun i m σ H=>m=kvs.length-i∧i≤kvs.length∧Pv i σ H,⟨kvs.length,by simp,Nat.zero_le _,h0⟩,?_⟩
 rintro i m σ H ⟨rfl,hi,p⟩
 have q:=hl i σ H hi p
 by_cases hlt:i<kvs.length
 ·refine .inr ⟨⟨kvs,q,hlt⟩,Pv (i+1),fun σ' H' p'=>⟨kvs.length-(i+1),by omega,rfl,hlt,p'⟩,fun x H' y=>?_⟩
  obtain⟨e,y⟩:=y
  subst e
  obtain⟨k,v,h1,rfl⟩:=y kvs q
  exact hs i k v σ _ h1 p
 ·have e:i=kvs.length:=by omega
  subst e
  exact .inl ⟨⟨kvs,q,Nat.le_refl _⟩,hd σ H p⟩
theorem Qn {K:PySem.W.Frag}{t l:Addr}{xs ys:List V}{g:TG}{tb:TS}{D:Dj}{σ:St}{H:Hp}(Pv:Nat→St→Hp→Prop)(hxy:xs.length=ys.length)(h0:Pv 0 σ H)(hl:∀ i σ H,i≤xs.length→Pv i σ H→Ax K H t xs∧Ax K H l ys)
 (hs:∀ i x y σ H b,xs[i]?=some x→ys[i]?=some y→Pv i σ H→H b=none→g (.ref b) σ (upd H b (.tup [x,y])) fun σ2 H2=>tb { D with nx:=Pv (i+1),ct:=Pv (i+1),bk:=D.nx } σ2 H2) (hd:∀ σ H,Pv xs.length σ H→D.nx σ H):
 ∃ W:Nat→Nat→St→Hp→Prop,(∃ m,W 0 m σ H)∧∀ i m σ H,W i m σ H→
  ((Qk K t l).stop i H∧D.nx σ H)∨((Qk K t l).go i H∧∃ N:St→Hp→Prop,(∀ σ' H',N σ' H'→∃ m',m'<m∧W (i+1) m' σ' H')∧∀ x H',(Qk K t l).yld i H x H'→g x σ H' fun σ2 H2=>tb { D with nx:=N,ct:=N,bk:=D.nx } σ2 H2):=by
 refine⟨fun i m σ H=>m=xs.length-i∧i≤xs.length∧Pv i σ H,⟨xs.length,by simp,Nat.zero_le _,h0⟩,?_⟩
 rintro i m σ H ⟨rfl,hi,p⟩
 obtain⟨qx,qy⟩:=hl i σ H hi p
 by_cases hlt:i<xs.length
 ·have hlt2:i<ys.length:=by omega
  refine .inr ⟨⟨xs,ys,xs[i],ys[i],qx,qy,by simp[hlt],by simp[hlt2]⟩,Pv (i+1),fun σ' H' p'=>⟨xs.length-(i+1),by omega,rfl,hlt,p'⟩,fun v H' y=>?_⟩
  obtain⟨x0,y0,b,y1,y2,hb,rfl,rfl⟩:=y
  exact hs i x0 y0 σ H b (y1 xs qx) (y2 ys qy) p hb
 ·have e:i=xs.length:=by omega
  subst e
  exact .inl ⟨⟨xs,ys,qx,qy,.inl (Nat.le_refl _)⟩,hd σ H p⟩
theorem Qo {prog:Program}{w:World}{A:Around}(hh:A.handled=none)(it l:Addr)(hne:l≠it)(items:Array Value):
 Draws prog w A it [it,l] items.size (fun i v=>items[i]?=some v) (fun i h=>h.IsTupleIter it l i∧h.IsTuple l items) where
 live:=fun _ _ st=>let ⟨o,ho,_⟩:=st.1;⟨o,ho⟩
 frame:=fun _ _ _ st hk=>⟨let ⟨o,ho,r⟩:=st.1;⟨o,hk it (by simp) o ho,r⟩,let ⟨o,ho,r⟩:=st.2;⟨o,hk l (by simp) o ho,r⟩⟩
 item:=fun i s Q E hi st hQ=>by
  refine NS st.1 st.2 (x:=items[i]) (by simp[hi]) fun h' hit' hs'=>?_
  refine hQ _ h' s.toks (by simp[hi]) ⟨hit',?_⟩ hs'
  obtain⟨o,ho,r⟩:=st.2
  exact⟨o,(hs'.2 l hne).trans ho,r⟩
 done:=fun s Q E st hE=>PD hh st.1 st.2 (by simp) hE
theorem OJ {h:Heap}{it a:Addr}{i:Nat}{its:Array Value}(x:h.IsTupleIter it a i)(y:IsTup h a its):a≠it:=fun z=>by
 obtain⟨o,ho,hc1,_⟩:=x
 obtain⟨o2,ho2,hc2,_⟩:=y
 rw[z,ho]at ho2
 cases ho2
 rw[hc1]at hc2
 exact absurd hc2 (by decide)
theorem SK {h:Heap}{e it a:Addr}{i:Int}{u:Value}{its:Array Value}(x:IsEnum h e it i u)(y:IsTup h a its):a≠e:=fun z=>by
 obtain⟨o2,ho2,hc2,_⟩:=y
 have x':h.get? e=some _:=x
 rw[z,x']at ho2
 cases ho2
 exact absurd (show Value.type "enumerate"=Value.type "tuple" from hc2) (by decide)
theorem Mf (l:Addr)(xs:Array Value):
 Meets (Builtin.«enumerate.__new__» ⟨[.type "enumerate",.ref l],[]⟩) (fun _ R s=>s.heap.IsTuple l xs∧
  R (.ok (.ret (.ref (s.heap.push { cls:=.type "tuple_iterator",data:=.fields #[.ref l,.int 0 0] }).objs.size)))
   { s with heap:=(s.heap.push { cls:=.type "tuple_iterator",data:=.fields #[.ref l,.int 0 0] }).push { cls:=.type "enumerate",data:=.fields #[.none,.bool false,.ref s.heap.objs.size,rawInt 0,.none,.none] } }):=
 .of_wp fun prog w A R s h=>by
  obtain⟨hp,g,d,tk,os⟩:=s;obtain⟨hl,h⟩:=h
  have hsub:=sub_enumerate
  have hL:Heap.IsTuple (Shared.heap ⟨hp,g,d,tk,os⟩) l xs:=hl
  obtain⟨o,ho,_⟩:=id hL
  wp_walk using AutoSeq1.wpAny_loadPart' ho
  refine wpAny_stack_any fun st=>wpAny_pure ?_
  split
  ·rename_i c _ _ _ _ _
   cases (c==Value.type "enumerate")
   ·wp_walk using AutoSeq1.wpAny_loadPart' ho,wpAny_pyIter_tuple hL
    exact⟨_,rfl,h⟩
   ·wp_walk using AutoSeq1.wpAny_loadPart' ho,wpAny_pyIter_tuple hL
    exact⟨_,rfl,h⟩
  ·wp_walk using AutoSeq1.wpAny_loadPart' ho,wpAny_pyIter_tuple hL
   exact⟨_,rfl,h⟩
section
variable {prog:Program}{w:World}{A:Around}{E:Value→Shared→Prop}{s:Shared}
theorem Nb {l:Addr}{items:Array Value}{Q:Value→Shared→Prop}(hL:s.heap.IsTuple l items)
 (h:∀ h',IsEnum h' (s.heap.objs.size+1) s.heap.objs.size 0 .none→h'.IsTupleIter s.heap.objs.size l 0→h'.objs.size=s.heap.objs.size+2→
  (∀ b o,s.heap.get? b=some o→h'.get? b=some o)→Q (.ref (s.heap.objs.size+1)) { s with heap:=h' }):
 wpAny (model prog w) A (call (.type "enumerate") [.ref l]) Q E s:=by
 refine callType_new F.called_enumerate (by decide) (F.typeCall_enumerate_1 _) (F.newCall_enumerate_1 _) (fun obj=>F.args_object_init_2 obj _) F.entry_enumerate_new (Mf l items) ⟨hL,?_⟩
 have hz:(s.heap.push { cls:=.type "tuple_iterator",data:=.fields #[.ref l,.int 0 0] }).objs.size=s.heap.objs.size+1:=Heap.size_push ..
 show _∧_
 rw[hz]
 have he:IsEnum ((s.heap.push { cls:=.type "tuple_iterator",data:=.fields #[.ref l,.int 0 0] }).push
  { cls:=.type "enumerate",data:=.fields #[.none,.bool false,.ref s.heap.objs.size,rawInt 0,.none,.none] }) (s.heap.objs.size+1) s.heap.objs.size 0 .none:=by
  have:=Heap.get?_push_size (s.heap.push { cls:=.type "tuple_iterator",data:=.fields #[.ref l,.int 0 0] })
   (o:={ cls:=.type "enumerate",data:=.fields #[.none,.bool false,.ref s.heap.objs.size,rawInt 0,.none,.none] }) rfl
  rw[hz]at this;exact this
 exact⟨⟨_,he,rfl⟩,h _ he ⟨_,Heap.get?_push_of_some _ (Heap.get?_push_size _ rfl),rfl,rfl⟩ (by rw[Heap.size_push,hz]) fun b o x=>Heap.get?_push_of_some _ (Heap.get?_push_of_some _ x)⟩
end
def Qp (K:PySem.W.Frag)(a:Addr):It:=
 ⟨fun i H=>∃ xs x,Af K H a xs∧xs[i]?=some x,fun i H y H'=>∃ x b,(∀ xs,Af K H a xs→xs[i]?=some x)∧H b=none∧y=.ref b∧H'=upd H b (.tup [.int i,x]),fun i H=>∃ xs,Af K H a xs∧xs.length=i⟩
theorem Nc {P:Program}{w:World}{K:PySem.W.Frag}{els:List Expr}{x1}{pt:Pos}(a e it:Addr)(hei:e≠it):KJ P w K (.Tuple els x1 pt) (Qp K a) [e,it] e (fun i h=>h.IsTupleIter it a i∧∃ old,IsEnum h e it (i:Nat) old) where
 mem:=by simp
 obj:=fun i h st b hb=>by
  obtain⟨⟨o,h1,c,d⟩,old,h2⟩:=st
  rcases List.mem_cons.mp hb with rfl | hb
  ·exact⟨_,h2,fun v z=>by cases z⟩
  ·have eb:b=it:=by simpa using hb
   subst eb
   exact⟨o,h1,fun v z=>by rw[d]at z;cases z⟩
 keep:=fun i h h' st k=>⟨let ⟨o,ho,r⟩:=st.1;⟨o,k it (by simp) o ho,r⟩,st.2.imp fun old q=>k e (by simp) _ q⟩
 item:=by
  intro X hP hw hK hc i pins s σ H E I hf st hg
  subst hP hw hK
  obtain⟨xs,x,hq,hx⟩:=hg
  obtain⟨hit,old,hen⟩:=st
  obtain⟨its,rv,p,hz⟩:=I.tuple hq
  obtain⟨u,hu,ru⟩:=rv.get hx
  obtain⟨f0,f1,f2,f3,f4,f5⟩:=hf e (by simp)
  obtain⟨g0,g1,g2,g3,g4,g5⟩:=hf it (by simp)
  have hai:=OJ hit p
  have hae:e∉[it,a]:=fun z=>by
   rcases List.mem_cons.mp z with z | z
   ·exact hei z
   ·exact SK hen p (List.mem_singleton.mp z).symm
  have hin:X.A.in1.handled=none:=I.ok.hd hc
  refine wpAny_pyNext_enum_itemD (Qo hin it a hai its.toArray) hen ⟨hit,p⟩ (by simpa using(List.getElem?_eq_some_iff.mp hu).1) hei hae fun u' h1 tk hu' heo hit1 ht1 hz1 hk1=>⟨_,rfl,?_⟩
  have eu:u'=u:=by
   have:its[i]?=some u':=by simpa using hu'
   rw[this]at hu
   exact Option.some.inj hu
  subst eu
  replace hit1:=hit1.1
  refine wpAny_letOwnedTupleGo_enum (s:={ s with heap:=h1,toks:=tk+1 }) heo fun h2 he2 hs2=>?_
  replace hs2:Heap.SameBut e h1 h2:=hs2
  have eH:e<s.heap.objs.size:=Heap.lt_size hen
  obtain⟨oi0,hoi0,_⟩:=id hit
  have iH:it<s.heap.objs.size:=Heap.lt_size hoi0
  have hit2:h2.IsTupleIter it a (i+1):=by
   obtain⟨o,ho,r⟩:=hit1
   exact⟨o,(hs2.2 it (Ne.symm hei)).trans ho,r⟩
  obtain⟨oi,hoi,hci,hdi⟩:=id hit2
  have tup2:h2.get? s.heap.objs.size=some { cls:=.type "tuple",data:=.seq #[.int i tk,u'] }:=(hs2.2 _ (Nat.ne_of_gt eH)).trans ht1
  have he3:IsEnum h2 e it ((i+1:Nat):Int) u':=by
   have e1:((i+1:Nat):Int)=(i:Int)+1:=by push_cast;rfl
   rw[e1];exact he2
  obtain⟨mid,hmz,hme,hmo⟩:∃ mid:Heap,mid.objs.size=s.heap.objs.size∧mid.get? e=h2.get? e∧∀ b,b≠e→mid.get? b=s.heap.get? b:=
   ⟨s.heap.update e (fun _=>{ cls:=.type "enumerate",dict:=none,data:=.fields #[.none,.bool false,.ref it,rawInt ((i+1:Nat):Int),.none,u'],slots:=#[] }),Heap.size_update ..,(Heap.get?_update_self _ hen (Obj.isFreed_of_fields rfl)).trans he3.symm,fun b hb=>Heap.get?_update_ne _ _ _ _ hb⟩
  have hmi:mid.get? it=some oi0:=(hmo it (Ne.symm hei)).trans hoi0
  obtain⟨mid2,hnz,hne,hno⟩:∃ mid2:Heap,mid2.objs.size=mid.objs.size∧mid2.get? it=h2.get? it∧∀ b,b≠it→mid2.get? b=mid.get? b:=
   ⟨mid.update it (fun _=>oi),Heap.size_update ..,(Heap.get?_update_self _ hmi (Obj.isFreed_of_fields hdi)).trans hoi.symm,fun b hb=>Heap.get?_update_ne _ _ _ _ hb⟩
  have I1:Ao X pins σ H { s with heap:=mid }:=I.turned (t':=s.toks) (fun b o hb q=>(hmo b hb).trans q) f0 f1 f3 f4 f5
  have I2:Ao X pins σ H { s with heap:=mid2 }:=I1.turned (t':=s.toks) (fun b o hb q=>(hno b hb).trans q) g0 g1 g3 g4 g5
  have k2:∀ b o,mid2.get? b=some o→h2.get? b=some o:=fun b o q=>by
   by_cases c1:b=it
   ·subst c1;exact hne.symm.trans q
   ·rw[hno b c1]at q
    by_cases c2:b=e
    ·subst c2;exact hme.symm.trans q
    ·rw[hmo b c2]at q
     exact(hs2.2 b c2).trans (hk1 b o c2 c1 q)
  have fz:mid2.objs.size≤s.heap.objs.size:=by rw[hnz,hmz];exact Nat.le_refl _
  have I3:Ao X pins σ (upd H s.heap.objs.size (.tup [.int i,x])) { s with heap:=h2,toks:=tk+1 }:=
   I2.laid (t':=tk+1) k2 fz (show BW X.prog X.w _ h2 _ (.tup [.int i,x])from⟨by show 2≤sizeLine;rw[sizeLine_eq];decide,[.int i tk,u'],.cons ⟨_,rfl⟩ (.cons ru .nil),⟨_,tup2,rfl,_,rfl⟩⟩)
  refine⟨.ref s.heap.objs.size,_,I3,rfl,⟨x,s.heap.objs.size,fun ys hy=>by rw[I.tuple_inj hy hq];exact hx,I.hok.fresh (Nat.le_refl _),rfl,rfl⟩,⟨hit2,u',he3⟩,fun b hb=>?_⟩
  rcases List.mem_cons.mp hb with rfl | hb
  ·rw[AX (Nat.ne_of_lt eH)];exact f0
  ·have eb:b=it:=by simpa using hb
   subst eb
   rw[AX (Nat.ne_of_lt iH)];exact g0
 done:=by
  intro X hP hw hK hc i pins s σ H E I hf st hg
  subst hP hw hK
  obtain⟨xs,hq,hx⟩:=hg
  obtain⟨hit,old,hen⟩:=st
  obtain⟨its,rv,p,hz⟩:=I.tuple hq
  obtain⟨g0,g1,g2,g3,g4,g5⟩:=hf it (by simp)
  have hl:=rv.length
  have hai:=OJ hit p
  have hin:X.A.in1.handled=none:=I.ok.hd hc
  have ei:i=its.toArray.size:=by simp;omega
  subst ei
  exact wpAny_pyNext_enum_endD (Qo hin it a hai its.toArray) hen ⟨hit,p⟩ fun h' eb=>⟨rfl,I.turned (t':=s.toks) (fun b o hb e=>eb b o hb e) g0 g1 g3 g4 g5⟩
 self:=fun _ _ _ _ _ st h=>by
  obtain⟨_,old,q⟩:=st
  exact wpAny_pyIter_enum q h
def UM (K:PySem.W.Frag)(ta:TA):TI:=fun σ H R=>ta σ H fun vs H1=>∃ a,vs=[V.ref a]∧(∃ xs,Af K H1 a xs)∧R (Qp K a) H1
section
variable {X:Cx}
theorem Jh {a:Expr}{ta:TA}{p pos pt:Pos}{els:List Expr}{x1}(hg:Gl X "enumerate")(hm:X.mg "enumerate"=none)(hv:bootBuiltins "enumerate"=some (.type "enumerate"))(ha:PA X [a] ta)(hs:starEach [a] X.env=[(false,eval a X.env)]:=by rfl):
 PI X (.Tuple els x1 pt) (.Call (.Name "enumerate" p) [a] [] pos) (UM X.K ta):=by
 intro pins s σ H R I h
 refine Call_ (Du I hg hm hv (PyProof.Rows.callWith_type1 (BZ (ha pos pins s σ H _ I h) fun us s1 zq=>?_) hs rfl))
 obtain⟨vs,H1,I1,r1,q1⟩:=zq
 obtain⟨l,e,⟨xs,hq⟩,q⟩:=q1
 subst e
 obtain⟨u,rfl,ru⟩:=Fk r1
 cases ru
 obtain⟨its,rv,pl,hz⟩:=I1.tuple hq
 refine Nb pl fun h' he hit hz' kp=>wpAny_pyIter_enum (s:={ s1 with heap:=h' }) he ?_
 have I2:Ao X pins σ H1 { s1 with heap:=h' }:=I1.kept (t':=s1.toks) kp
 have ge:∀ b∈[s1.heap.objs.size+1,s1.heap.objs.size],s1.heap.objs.size≤b:=fun b hb=>by
  rcases List.mem_cons.mp hb with rfl | hb
  ·exact Nat.le_succ _
  ·have eb:b=s1.heap.objs.size:=by simpa using hb
   rw[eb];exact Nat.le_refl _
 exact⟨s1.heap.objs.size+1,_,_,_,H1,rfl,I2,Nc l _ s1.heap.objs.size (Nat.ne_of_gt (Nat.lt_succ_self _)),⟨hit,.none,he⟩,fun b hb=>I1.fpOk (ge b hb) (I1.hok.fresh (ge b hb)),q⟩
end
theorem Hz {K:PySem.W.Frag}{a:Addr}{xs:List V}{g:TG}{tb:TS}{D:Dj}{σ:St}{H:Hp}(Pv:Nat→St→Hp→Prop)(h0:Pv 0 σ H)(hl:∀ i σ H,i≤xs.length→Pv i σ H→Af K H a xs)
 (hs:∀ i x σ H b,xs[i]?=some x→Pv i σ H→H b=none→g (.ref b) σ (upd H b (.tup [.int i,x])) fun σ2 H2=>tb { D with nx:=Pv (i+1),ct:=Pv (i+1),bk:=D.nx } σ2 H2) (hd:∀ σ H,Pv xs.length σ H→D.nx σ H):
 ∃ W:Nat→Nat→St→Hp→Prop,(∃ m,W 0 m σ H)∧∀ i m σ H,W i m σ H→
  ((Qp K a).stop i H∧D.nx σ H)∨((Qp K a).go i H∧∃ N:St→Hp→Prop,(∀ σ' H',N σ' H'→∃ m',m'<m∧W (i+1) m' σ' H')∧∀ x H',(Qp K a).yld i H x H'→g x σ H' fun σ2 H2=>tb { D with nx:=N,ct:=N,bk:=D.nx } σ2 H2):=by
 refine⟨fun i m σ H=>m=xs.length-i∧i≤xs.length∧Pv i σ H,⟨xs.length,by simp,Nat.zero_le _,h0⟩,?_⟩
 rintro i m σ H ⟨rfl,hi,p⟩
 have q:=hl i σ H hi p
 by_cases hlt:i<xs.length
 ·refine .inr ⟨⟨xs,xs[i],q,by simp[hlt]⟩,Pv (i+1),fun σ' H' p'=>⟨xs.length-(i+1),by omega,rfl,hlt,p'⟩,fun x H' y=>?_⟩
  obtain⟨x0,b,y,hb,rfl,rfl⟩:=y
  exact hs i x0 σ H b (y xs q) p hb
 ·have e:i=xs.length:=by omega
  subst e
  exact .inl ⟨⟨xs,q,rfl⟩,hd σ H p⟩
end L2
namespace Mx
def dv (t b:Int):Int:=if b<0 then -(Nat.gcd t.natAbs b.natAbs:Int)else(Nat.gcd t.natAbs b.natAbs:Int)
def CP (t b:Int):Int:=t.fdiv (dv t b)
def CB (t b:Int):Int:=b.fdiv (dv t b)
theorem La {t b:Int}(h:b≠0):0<Nat.gcd t.natAbs b.natAbs:=Nat.gcd_pos_of_pos_right _ (by omega)
theorem LC {t b:Int}(h:b≠0):dv t b≠0:=by
 have:=La (t:=t) h
 unfold dv;split <;> omega
theorem Qq (t b:Int):dv t b ∣ t:=by
 have h:((Nat.gcd t.natAbs b.natAbs:Nat):Int) ∣ t:=Int.natAbs_dvd_natAbs.mp (by simpa using Nat.gcd_dvd_left t.natAbs b.natAbs)
 unfold dv;split
 ·exact Int.neg_dvd.mpr h
 ·exact h
theorem Qr (t b:Int):dv t b ∣ b:=by
 have h:((Nat.gcd t.natAbs b.natAbs:Nat):Int) ∣ b:=Int.natAbs_dvd_natAbs.mp (by simpa using Nat.gcd_dvd_right t.natAbs b.natAbs)
 unfold dv;split
 ·exact Int.neg_dvd.mpr h
 ·exact h
theorem Mg {t d:Int}(h:d ∣ t):t.fdiv d*d=t:=by
 obtain⟨c,rfl⟩:=h
 by_cases hd:d=0
 ·subst hd;simp
 ·rw[Int.mul_comm d c,Int.mul_fdiv_cancel _ hd]
theorem OK (t b:Int):CP t b*dv t b=t:=Mg (Qq t b)
theorem Mh (t b:Int):CB t b*dv t b=b:=Mg (Qr t b)
theorem IA (t b:Int):(dv t b).natAbs=Nat.gcd t.natAbs b.natAbs:=by
 unfold dv;split <;> omega
theorem Qs {t b:Int}(h:b≠0):0<CB t b:=by
 have e:=Mh t b
 have g:=La (t:=t) h
 have hd:dv t b=if b<0 then -(Nat.gcd t.natAbs b.natAbs:Int)else(Nat.gcd t.natAbs b.natAbs:Int):=rfl
 rcases Int.lt_trichotomy (CB t b) 0 with q | q | q
 ·exfalso
  split at hd
  ·have:0<CB t b*dv t b:=Int.mul_pos_of_neg_of_neg q (by omega)
   omega
  ·have:CB t b*dv t b<0:=Int.mul_neg_of_neg_of_pos q (by omega)
   omega
 ·rw[q]at e;omega
 ·exact q
theorem SL {t b:Int}(h:b≠0):Nat.gcd (CP t b).natAbs (CB t b).natAbs=1:=by
 have g:=La (t:=t) h
 have e1:t.natAbs=(CP t b).natAbs*Nat.gcd t.natAbs b.natAbs:=by rw[← IA,← Int.natAbs_mul,OK]
 have e2:b.natAbs=(CB t b).natAbs*Nat.gcd t.natAbs b.natAbs:=by rw[← IA,← Int.natAbs_mul,Mh]
 have e3:Nat.gcd t.natAbs b.natAbs=Nat.gcd (CP t b).natAbs (CB t b).natAbs*Nat.gcd t.natAbs b.natAbs:=by
  have q:=Nat.gcd_mul_right (CP t b).natAbs (Nat.gcd t.natAbs b.natAbs) (CB t b).natAbs
  rw[← e1,← e2]at q
  exact q
 have:1*Nat.gcd t.natAbs b.natAbs=Nat.gcd (CP t b).natAbs (CB t b).natAbs*Nat.gcd t.natAbs b.natAbs:=by omega
 exact(Nat.eq_of_mul_eq_mul_right g this).symm
structure Nd (x y:Int):Prop where
 pos:0<y
 cop:Nat.gcd x.natAbs y.natAbs=1
theorem DL {t b:Int}(h:b≠0):Nd (CP t b) (CB t b):=⟨Qs h,SL h⟩
theorem Nd.uniq {x y u v:Int}(h:Nd x y)(g:Nd u v)(e:x*v=u*y):x=u∧y=v:=by
 have hp:=h.pos;have gp:=g.pos
 have e':x.natAbs*v.natAbs=u.natAbs*y.natAbs:=by rw[← Int.natAbs_mul,← Int.natAbs_mul,e]
 have d1:y.natAbs ∣ v.natAbs:=by
  have:y.natAbs ∣ x.natAbs*v.natAbs:=by rw[e'];exact Nat.dvd_mul_left _ _
  exact Nat.Coprime.dvd_of_dvd_mul_left (Nat.coprime_comm.mp h.cop) this
 have d2:v.natAbs ∣ y.natAbs:=by
  have:v.natAbs ∣ u.natAbs*y.natAbs:=by rw[← e'];exact Nat.dvd_mul_left _ _
  exact Nat.Coprime.dvd_of_dvd_mul_left (Nat.coprime_comm.mp g.cop) this
 have e2:y=v:=by have:=Nat.dvd_antisymm d1 d2;omega
 subst e2
 exact⟨Int.eq_of_mul_eq_mul_right (by omega) e,rfl⟩
theorem UN {t b t' b':Int}(h:b≠0)(h':b'≠0)(e:t*b'=t'*b):CP t b=CP t' b'∧CB t b=CB t' b':=by
 refine(DL h).uniq (DL h') ?_
 have d1:=LC (t:=t) h
 have d2:=LC (t:=t') h'
 have e1:=OK t b;have e2:=Mh t b;have e3:=OK t' b';have e4:=Mh t' b'
 have e5:(CP t b*CB t' b')*(dv t b*dv t' b')=(CP t' b'*CB t b)*(dv t b*dv t' b'):=by grind
 exact Int.eq_of_mul_eq_mul_right (Int.mul_ne_zero d1 d2) e5
theorem Ji (t b:Int)(h:b≠0):(CP t b).natAbs≤t.natAbs:=by
 have e:t.natAbs=(CP t b).natAbs*(dv t b).natAbs:=by rw[← Int.natAbs_mul,OK]
 have:0<(dv t b).natAbs:=by have:=LC (t:=t) h;omega
 rw[e];exact Nat.le_mul_of_pos_right _ this
theorem Jj (t b:Int)(h:b≠0):(CB t b).natAbs≤b.natAbs:=by
 have e:b.natAbs=(CB t b).natAbs*(dv t b).natAbs:=by rw[← Int.natAbs_mul,Mh]
 have:0<(dv t b).natAbs:=by have:=LC (t:=t) h;omega
 conv=>rhs;rw[e]
 exact Nat.le_mul_of_pos_right _ this
theorem Mi {m n:Nat}:Nat.gcd n (m%n)=Nat.gcd m n:=by
 rw[Nat.gcd_comm m n,Nat.gcd_rec n m,Nat.gcd_comm]
end Mx
namespace Mx
theorem Xq {a b:Int}(h:a≠0)(g:b≠0):a*b≠0:=Int.mul_ne_zero h g
end Mx
namespace Fs
open PySem L2 Mx
structure Df (K:PySem.W.Frag)(mg:Str→Option Value)(x:Str)(st:Stmt)(ps:List Str)(f:Addr)(fd:FuncData):Prop where
 fn:Fun K x x st f fd
 gl:mg x=some (.ref f)
 b:JQ K fd ps []
theorem AR {X:Cx}{k:Nat}{f:Addr}{fd:FuncData}{ps:List Str}{sp:Sp}{x:Str}{st:Stmt}{e:Expr}{es:List Expr}{t:TA}{p pos:Pos}(D:Df X.K X.mg x st ps f fd)(F:Av X.prog X.w X.K X.mg X.base Bj k f fd ps sp)(hr:Ce k X.A)
 (ha:PA X (e::es) t) (hg:Gl X x:=by rfl) (hdb:(x==("__debug__":Str))=false:=by decide) (he:starEach (e::es) X.env=(false,eval e X.env)::starEach es X.env:=by rfl) (hpl:(backTo pos (starEach es X.env)).any (·.1)=false:=by rfl):
 PE X (.Call (.Name x p) (e::es) [] pos) (Sx sp [] E0 t):=Rw F hr hg D.gl D.fn.kp D.b .nil Vn ha hdb he hpl
theorem E1:bootBuiltins "abs"=some (.builtin "abs"):=by nofun
def Aw (p:Addr)(H H':Hp):Prop:=∀ b o,b≠p→H b=some o→H' b=some o
theorem Aw.refl (p:Addr)(H:Hp):Aw p H H:=fun _ _ _ e=>e
theorem Aw.trans {p:Addr}{H H1 H2:Hp}(a:Aw p H H1)(b:Aw p H1 H2):Aw p H H2:=fun c o hc e=>b c o hc (a c o hc e)
theorem Aw.upd {p:Addr}{H:Hp}{o:HO}:Aw p H (upd H p o):=fun b u hb e=>by rw[AX hb];exact e
theorem AI.keep {p:Addr}{H H':Hp}(h:AI H H'):Aw p H H':=fun b o _ e=>h b o e
theorem AI.new {H:Hp}{p:Addr}{o:HO}(h:H p=none):AI H (upd H p o):=fun b u e=>by rw[AX (AZ e h)];exact e
def S5:St→Nat
 | [_,_,_,some (V.int n)]=>n.toNat
 | [_,_,_,some (V.int n),_]=>n.toNat
 | _=>0
theorem Lb (i:Int):(if i<0 then -i else i)=(i.natAbs:Int):=by split <;> omega
theorem Ye {x:Int}(h1:-18446744073709551616<x)(h2:x<18446744073709551616):Sz 64 x:=by unfold Sz;omega
theorem A5 {x:Int}(h1:-18446744073709551616<x)(h2:x<18446744073709551616):Sz 4000 x:=(Ye h1 h2).mono (by decide)
theorem S6 {t b:Int}{n:Nat}(hb:b≠0)(h:Sz n b):Sz n (dv t b):=by
 unfold Sz at *
 rw[IA]
 exact Nat.lt_of_le_of_lt (Nat.gcd_le_right _ (by omega)) h
theorem JA {t b:Int}{n:Nat}(hb:b≠0)(h:Sz n t):Sz n (CP t b):=h.of_le (Ji t b hb)
theorem JB {t b:Int}{n:Nat}(hb:b≠0)(h:Sz n b):Sz n (CB t b):=h.of_le (Jj t b hb)
theorem BG:2≤sizeLine:=by decide
theorem As:3≤sizeLine:=by decide
structure Fw (H:Hp)(p:Addr)(x y:Int)(n:Nat):Prop where
 ob:H p=some (.tup [.int x,.int y])
 low:Nd x y
 sx:Sz n x
 sy:Sz n y
theorem Fw.ne0 {H:Hp}{p:Addr}{x y:Int}{n:Nat}(h:Fw H p x y n):y≠0:=by have:=h.low.pos;omega
def Yg:Sp:=fun vs H Q _=>∃ a b:Int,vs=[.int a,.int b]∧Q (.int (Nat.gcd a.natAbs b.natAbs:Nat)) H
def WA:Sp:=fun vs H Q _=>∃ t b:Int,vs=[.int t,.int b]∧b≠0∧Sz 4000 b∧∀ p,H p=none→Q (.ref p) (upd H p (.tup [.int (CP t b),.int (CB t b)]))
def Xr (f g:Int→Int→Int→Int→Int)(e:Nat→Nat→Nat)(C:Int→Int→Int→Int→Prop):Sp:=fun vs H Q _=>∃(p q:Addr) (a b c d:Int) (m n:Nat),vs=[.ref p,.ref q]∧Fw H p a b m∧Fw H q c d n∧m+n≤3000∧C a b c d∧
 ∀(r:Addr) (H':Hp),AI H H'→Fw H' r (CP (f a b c d) (g a b c d)) (CB (f a b c d) (g a b c d)) (e m n)→Q (.ref r) H'
abbrev Xs (m n:Nat):Nat:=m+n+1
abbrev WB:Sp:=Xr (fun a b c d=>a*d+c*b) (fun _ b _ d=>b*d) Xs (fun _ _ _ _=>True)
abbrev WC:Sp:=Xr (fun a b c d=>a*d-c*b) (fun _ b _ d=>b*d) Xs (fun _ _ _ _=>True)
abbrev WD:Sp:=Xr (fun a _ c _=>a*c) (fun _ b _ d=>b*d) Xs (fun _ _ _ _=>True)
abbrev WE:Sp:=Xr (fun a _ _ d=>a*d) (fun _ b c _=>b*c) Xs (fun _ _ c _=>c≠0)
def UO:Sp:=fun vs H Q _=>∃(p q:Addr) (a b c d:Int) (m n:Nat),vs=[.ref p,.ref q]∧Fw H p a b m∧Fw H q c d n∧m+n≤3000∧Q (.bl (decide (a*d<c*b))) H
def SM:Sp:=fun vs H Q _=>∃ i:Int,vs=[.int i]∧Q (.bl true) H
theorem VM {x y:Int}(h:x=y):V.bl (decide (V.int x=V.int y))=V.bl true:=by subst h;simp
theorem Qt {Q:VK}{v w:V}{H:Hp}(e:v=w)(q:Q w H):Q v H:=by rw[e];exact q
theorem Aa:bootBuiltins "isinstance"=some (.builtin "isinstance"):=by nofun
theorem Mj:bootBuiltins "max"=some (.builtin "max"):=by nofun
theorem CV:bootBuiltins "int"=some (.type "int"):=by nofun
theorem B8:bootBuiltins "bool"=some (.type "bool"):=by nofun
theorem E2:bootBuiltins "str"=some (.type "str"):=by nofun
theorem LD:bootBuiltins "list"=some (.type "list"):=by nofun
theorem Bc:bootBuiltins "tuple"=some (.type "tuple"):=by nofun
theorem BP {X:Cx}{x:Str}{T:String}{pos:Pos}(hm:X.mg x=none)(hv:bootBuiltins x=some (.type T))(hg:Gl X x:=by rfl)(hn:x≠"__name__":=by decide)(hd:(x==("__debug__":Str))=false:=by decide):PE X (.Name x pos) (tC (.ty T)):=Rq hg hm hv rfl hn hd
theorem OL {n:Nat}{x:Int}(h:decide (x.natAbs<2 ^ n)=true):Sz n x:=(of_decide_eq_true h:x.natAbs<2 ^ n)
theorem BK (K:PySem.W.Frag)(t:Value):PySem.W.kitOne K t t=some true:=by unfold PySem.W.kitOne;simp
def SN (mg:Str→Option Value)(x z:Str):Prop:=∃ u,mg x=some u∧A2 (.str z) u
def PU (mg:Str→Option Value)(x:Str)(i:Int):Prop:=∃ u,mg x=some u∧A2 (.int i) u
theorem Lc {X:Cx}{x z:Str}{pos:Pos}(hm:SN X.mg x z)(hg:Gl X x:=by rfl)(hd:(x==("__debug__":Str))=false:=by decide):PE X (.Name x pos) (tC (.str z)):=by
 obtain⟨u,h,r⟩:=hm
 exact N7 hg h r hd
theorem HL {X:Cx}{x:Str}{i:Int}{pos:Pos}(hm:PU X.mg x i)(hg:Gl X x:=by rfl)(hd:(x==("__debug__":Str))=false:=by decide):PE X (.Name x pos) (tC (.int i)):=by
 obtain⟨u,h,r⟩:=hm
 exact N7 hg h r hd
def WF:R2:=fun x y H Q=>∃ i j,x=.str i∧y=.str j∧Q (.bl (!(Builtin.Str.occurrences j i 0 j.length 1).isEmpty)) H
theorem Qu {X:Cx}:GL X (compareOp .In) WF:=O0
theorem Dq (a b:Str):(a++b).cps.toList=a.cps.toList++b.cps.toList:=by
 show(a.cps++b.cps).toList=_
 exact Array.toList_append
theorem OM {a b:Str}(h:a.cps.toList=b.cps.toList):a=b:=by
 obtain⟨⟨a⟩⟩:=a
 obtain⟨⟨b⟩⟩:=b
 simp only at h
 rw[h]
theorem LE (a:Str):Str.empty++a=a:=OM (by rw[Dq];rfl)
theorem PV (a:Str):a.length=a.cps.toList.length:=by simp[Str.length]
theorem BI (a b:Str):(a++b).length=a.length+b.length:=strLen_append a b
theorem B5 {n:Nat}(h:n≤1000):n<sizeLine:=K0 h
theorem Cn {n:Nat}(h:n≤1000):n≤sizeLine:=Nat.le_of_lt (K0 h)
theorem Jk {z:Str}(L:Str){H:Hp}{D:Addr}(hz:z.length≤1000)(hD:H D=none):
 ∃ W:Nat→Nat→Hp→Prop,(∃ m,W 0 m (upd H D (.lst [])))∧∀ i m H',W i m H'→
  ((Vo z).stop i H'∧H'=upd H D (.lst ((z.cps.toList.map fun c=>decide (c∈L.cps.toList)).map V.bl)))∨((Vo z).go i H'∧∀(js:List Nat) (σ:St) (x:V) (H2:Hp),(Vo z).yld i H' x H2→Tz (some x::GZ js σ) H2 fun b H3=>
    if b=true then MF WF (GR 0) (tC (.str L)) (some x::GZ js σ) H3 fun v H4=>∃ xs,H4 D=some (.lst xs)∧xs.length<sizeLine∧∃ m',m'<m∧W (i+1) m' (upd H4 D (.lst (xs++[v])))
    else ∃ m',m'<m∧W (i+1) m' H3):=by
 have hs:z.cps.toList.length=z.cps.size:=by simp
 have hl:z.length=z.cps.size:=rfl
 refine⟨fun i m H'=>m=z.cps.size-i∧i≤z.cps.size∧H'=upd H D (.lst (((z.cps.toList.take i).map fun c=>decide (c∈L.cps.toList)).map V.bl)),⟨z.cps.size,by simp,Nat.zero_le _,by simp⟩,?_⟩
 rintro i m H' ⟨rfl,hi,rfl⟩
 by_cases hlt:i<z.cps.size
 ·refine .inr ⟨hlt,fun js σ x H2 y=>?_⟩
  obtain⟨e,c,hc,e2⟩:=y
  subst e e2
  unfold Tz
  dsimp only
  rw[if_pos rfl]
  refine⟨_,rfl,_,_,rfl,rfl,_,AE,?_,_,?_,rfl,hlt,?_⟩
  ·rw[List.length_map,List.length_map,List.length_take];exact B5 (by omega)
  ·show z.cps.size-(i+1)<z.cps.size-i
   omega
  ·rw[N5]
   congr 2
   have ht:z.cps.toList.take (i+1)=z.cps.toList.take i++[c]:=by
    rw[List.take_succ,show z.cps.toList[i]?=some c by simpa using hc]
    rfl
   rw[ht,List.map_append,List.map_append,StrLaws.found_one]
   rfl
 ·have e:i=z.cps.size:=by omega
  subst e
  refine .inl ⟨rfl,?_⟩
  have ht:z.cps.toList.take z.cps.size=z.cps.toList:=List.take_of_length_le (by omega)
  rw[ht]
theorem PX {z L:Str}(h:∀ c∈z.cps.toList,c∈L.cps.toList):(z.cps.toList.map fun c=>decide (c∈L.cps.toList)).all id=true:=by
 rw[List.all_map,List.all_eq_true]
 intro c hc
 simpa using h c hc
structure Nm (z:Str):Prop where
 lo:1≤z.length
 hi:z.length≤6
 az:∀ c∈z.cps.toList,97≤c∧c≤122
def Qv (c:Int):Str:=⟨#[64+c.toNat]⟩
def num (r:Int):Str:=Str.ofString (toString r)
def IB (z:Str)(r c:Int):Str:=((z++Str.ofString "!")++Qv c)++num r
structure Dg (z:Str)(n:Int):Prop where
 lo:1≤z.length
 hi:z.length≤640
 fig:∀ c∈z.cps.toList,c∈(Str.ofString "0123456789").cps.toList
 rd:PySem.intText? z=some n
 c0:∃ c,z.cps.toList[0]?=some c∧(c≠48∨z=Str.ofString "0")
theorem UP:Str.ofString "!"=⟨#[33]⟩:=by nofun
theorem UQ:∀ i,i<16→1≤(num ((i+1:Nat):Int)).length∧(num ((i+1:Nat):Int)).length≤2∧(∀ c∈(num ((i+1:Nat):Int)).cps.toList,c∈(Str.ofString "0123456789").cps.toList)∧
 PySem.intText? (num ((i+1:Nat):Int))=some ((i+1:Nat):Int)∧((num ((i+1:Nat):Int)).cps.toList[0]?.getD 48)≠48:=by nofun
theorem UR:∀ j,j<8→Gh (Str.ofString "ABCDEFGHIJKLMNOPQRSTUVWXYZ").cps.toList (((j+1:Nat):Int)-1)=some (64+(j+1))∧Gh (Str.ofString "ABCDEFGH").cps.toList (((j+1:Nat):Int)-1)=some (64+(j+1))∧
 Txt.find (Str.ofString "ABCDEFGHIJKLMNOPQRSTUVWXYZ") ⟨#[64+(j+1)]⟩=(j:Int):=by nofun
theorem S7 {r:Int}{n:Nat}(h0:1≤r)(h1:r≤n):∃ i:Nat,i<n∧r=((i+1:Nat):Int):=⟨(r-1).toNat,by omega,by omega⟩
theorem Qw {r:Int}(h0:1≤r)(h1:r≤16):Dg (num r) r∧(num r).length≤2:=by
 obtain⟨i,hi,rfl⟩:=S7 (n:=16) h0 h1
 obtain⟨a,b,c,d,e⟩:=UQ i hi
 refine⟨⟨a,by omega,c,d,?_⟩,b⟩
 cases q:(num ((i+1:Nat):Int)).cps.toList[0]? with
 | none=>rw[q]at e;exact absurd rfl e
 | some x=>rw[q]at e;exact⟨x,rfl,.inl e⟩
theorem US {c:Int}(h0:1≤c)(h1:c≤8):Gh (Str.ofString "ABCDEFGHIJKLMNOPQRSTUVWXYZ").cps.toList (c-1)=some (64+c.toNat)∧Gh (Str.ofString "ABCDEFGH").cps.toList (c-1)=some (64+c.toNat)∧
 Txt.find (Str.ofString "ABCDEFGHIJKLMNOPQRSTUVWXYZ") ⟨#[64+c.toNat]⟩+1=c:=by
 obtain⟨j,hj,rfl⟩:=S7 (n:=8) h0 h1
 obtain⟨a,b,d⟩:=UR j hj
 exact⟨a,b,by rw[show((j+1:Nat):Int).toNat=j+1 from rfl,d];omega⟩
theorem Ml {z:Str}{r c:Int}(h:Nm z)(h0:1≤r)(h1:r≤16):(IB z r c).length≤10:=by
 unfold IB
 rw[BI,BI,BI,UP]
 have:=h.hi
 have:=(Qw h0 h1).2
 have e1:(⟨#[33]⟩:Str).length=1:=rfl
 have e2:(Qv c).length=1:=rfl
 omega
theorem UT {z:Str}(h:Nm z):∀ c∈z.cps.toList,c∈(Str.ofString "abcdefghijklmnopqrstuvwxyz").cps.toList:=by
 intro c hc
 have ⟨a,b⟩:=h.az c hc
 have tab:∀ i,i<26→97+i∈(Str.ofString "abcdefghijklmnopqrstuvwxyz").cps.toList:=by nofun
 have:=tab (c-97) (by omega)
 rwa [show 97+(c-97)=c by omega]at this
structure Qx (H:Hp)(p:Addr)(z:Str)(r c:Int):Prop where
 ob:H p=some (.tup [.str z,.int r,.int c])
 nm:Nm z
 r0:1≤r
 r1:r≤16
 c0:1≤c
 c1:c≤8
theorem Qx.same {H H':Hp}{p:Addr}{z:Str}{r c:Int}(h:Qx H p z r c)(s:AI H H'):Qx H' p z r c:=⟨s _ _ h.ob,h.nm,h.r0,h.r1,h.c0,h.c1⟩
structure Qy (H:Hp)(p:Addr)(z:Str)(r c r2 c2:Int):Prop where
 ob:H p=some (.tup [.str z,.int r,.int c,.int r2,.int c2])
 nm:Nm z
 r0:1≤r
 r1:r≤r2
 r16:r2≤16
 c0:1≤c
 c1:c≤c2
 c8:c2≤8
theorem Qy.same {H H':Hp}{p:Addr}{z:Str}{r c r2 c2:Int}(h:Qy H p z r c r2 c2)(s:AI H H'):Qy H' p z r c r2 c2:=⟨s _ _ h.ob,h.nm,h.r0,h.r1,h.r16,h.c0,h.c1,h.c8⟩
def PY (H:Hp)(l:Addr)(z:Str)(r c:Int)(w n:Nat):Prop:=∃ vs:List V,H l=some (.lst vs)∧vs.length=n∧∀(k:Nat) (v:V),vs[k]?=some v→∃ a:Addr,v=.ref a∧H a=some (.tup [.str z,.int (r+((k / w:Nat):Int)),.int (c+((k%w:Nat):Int))])
def WG:Sp:=fun vs H Q _=>∃ z:Str,vs=[.str z]∧Nm z∧∀ H',AI H H'→Q (.bl true) H'
def UU:Sp:=fun vs H Q _=>∃ i l:Int,vs=[.int i,.int l]∧1≤i∧i≤l∧Q (.bl true) H
def WH:Sp:=fun vs H Q _=>∃(p:Addr) (z:Str) (r c:Int),vs=[.ref p]∧Qx H p z r c∧∀ H',AI H H'→Q (.bl true) H'
def Yh:Sp:=fun vs H Q _=>∃(p:Addr) (z:Str) (r c:Int),vs=[.ref p]∧Qx H p z r c∧Q (.str (IB z r c)) H
def Yi:Sp:=fun vs H Q _=>∃(p:Addr) (z:Str) (r c r2 c2:Int),vs=[.ref p]∧Qy H p z r c r2 c2∧∀(l:Addr) (H':Hp),H l=none→AI H H'→PY H' l z r c (c2-c+1).toNat ((r2-r+1).toNat*(c2-c+1).toNat)→Q (.ref l) H'
theorem PY.push {H:Hp}{l q:Addr}{z:Str}{r c r' c':Int}{w n:Nat}{vs:List V}(h1:H l=some (.lst vs))(h2:vs.length=n)
 (h3:∀(k:Nat) (v:V),vs[k]?=some v→∃ a:Addr,v=.ref a∧H a=some (.tup [.str z,.int (r+((k / w:Nat):Int)),.int (c+((k%w:Nat):Int))]))
 (hq:H q=none) (er:r'=r+((n / w:Nat):Int)) (ec:c'=c+((n%w:Nat):Int)):PY (upd (upd H q (.tup [.str z,.int r',.int c'])) l (.lst (vs++[.ref q]))) l z r c w (n+1):=by
 have nql:q≠l:=fun e=>by subst e;rw[hq]at h1;cases h1
 refine⟨_,AE,by rw[List.length_append,h2];rfl,fun k v e=>?_⟩
 by_cases hk:k<n
 ·rw[List.getElem?_append_left (by omega)]at e
  obtain⟨a,ea,ha⟩:=h3 k v e
  have n1:a≠l:=BJ ha h1 (by intro z;cases z)
  have n2:a≠q:=AZ ha hq
  exact⟨a,ea,by rw[AX n1,AX n2];exact ha⟩
 ·rw[List.getElem?_append_right (by omega)]at e
  have hk2:k-vs.length=0:=by
   obtain⟨hlt,_⟩:=List.getElem?_eq_some_iff.mp e
   simp at hlt
   omega
  rw[hk2]at e
  have e':V.ref q=v:=by simpa using e
  have hkn:k=n:=by omega
  subst hkn
  exact⟨q,e'.symm,by rw[AX nql,AE,er,ec]⟩
theorem AI.step {H H3:Hp}{l q:Addr}{o o':HO}(s:AI H H3)(hl:H l=none)(hq:H3 q=none):AI H (upd (upd H3 q o) l o'):=fun b u e=>by
 rw[AX (AZ e hl),AX (AZ (s _ _ e) hq)]
 exact s _ _ e
theorem Qz {z:Str}(h:(decide (1≤z.length)&&decide (z.length≤6)&&z.cps.toList.all fun c=>decide (97≤c)&&decide (c≤122))=true):Nm z:=by
 simp only[Bool.and_eq_true,decide_eq_true_eq,List.all_eq_true]at h
 exact⟨h.1.1,h.1.2,fun c hc=>h.2 c hc⟩
theorem ON (m:Nat):(num (m:Int)).cps.toList=(Nat.toDigits 10 m).map Char.toNat:=PySem.W.KIN.signs_num m
theorem SO {n:Int}(h:n<0):num n=(⟨#[45]⟩:Str)++num (-n):=by
 obtain⟨m,rfl⟩:∃ m:Nat,n=Int.negSucc m:=⟨(-n-1).toNat,by omega⟩
 have e2:(num (Int.negSucc m)).cps.toList=45::(Nat.toDigits 10 (m+1)).map Char.toNat:=by
  unfold num
  rw[Str.ofString_eq_toList]
  show(("-"++Nat.repr (m+1)).toList.map Char.toNat).toArray.toList=_
  rw[String.toList_append,List.map_append,Nat.toList_repr]
  rfl
 refine OM ?_
 rw[Dq,e2,show -(Int.negSucc m)=((m+1:Nat):Int)from rfl,ON]
 rfl
theorem OO {n:Int}(h:0≤n)(hn:n<10 ^ 30):(num n).length≤30:=by
 obtain⟨m,rfl⟩:=Int.eq_ofNat_of_zero_le h
 rw[PV,ON,List.length_map]
 exact(Nat.length_toDigits_le_iff (by decide) (by decide)).mpr (by omega)
inductive Vl where
 | none | num (t b:Int) | txt (z:Str) | tru (b:Bool) | flt (w z:Str) (r c:Int)
 deriving DecidableEq
def Ct:List Str:=[Str.ofString "kind",Str.ofString "nought",Str.ofString "gone",Str.ofString "name",Str.ofString "shape",Str.ofString "blocked",Str.ofString "miss",Str.ofString "ring",Str.ofString "great"]
def Ap:Vl→Prop
 | .num t b=>Nd t b∧t.natAbs<10 ^ 30∧b.natAbs<10 ^ 30
 | .txt z=>z.length≤20∧∀ c∈z.cps.toList,c∈(Str.ofString "abcdefghijklmnopqrstuvwxyz0123456789 ").cps.toList
 | .flt w z r c=>w∈Ct∧Nm z∧1≤r∧r≤16∧1≤c∧c≤8
 | _=>True
def LF (t b:Int):Str:=if b=1 then num t else num t++Str.ofString "/"++num b
def OP:Vl→Str
 | .none=>Str.ofString ""
 | .num t b=>LF t b
 | .txt z=>Str.ofString "'"++z
 | .tru b=>if b=true then Str.ofString "yes" else Str.ofString "no"
 | .flt w z r c=>((Str.ofString "!"++w)++Str.ofString " ")++IB z r c
theorem Q0:Str.ofString "/"=⟨#[47]⟩:=by nofun
theorem WI:Str.ofString "'"=⟨#[39]⟩:=by nofun
theorem WJ:Str.ofString " "=⟨#[32]⟩:=by nofun
theorem HM {n:Int}(h:n.natAbs<10 ^ 30):(num n).length≤31:=by
 by_cases hn:n<0
 ·rw[SO hn,BI]
  have:=OO (n:=-n) (by omega) (by omega)
  show 1+_≤_
  omega
 ·exact Nat.le_trans (OO (by omega) (by omega)) (by decide)
theorem PZ {t b:Int}(h1:t.natAbs<10 ^ 30)(h2:b.natAbs<10 ^ 30):(LF t b).length≤63:=by
 have a:=HM h1
 have c:=HM h2
 unfold LF
 split
 ·omega
 ·rw[BI,BI,Q0]
  show _+1+_≤_
  omega
theorem HN {v:Vl}(h:Ap v):(OP v).length≤64:=by
 cases v with
 | none=>exact Nat.zero_le _
 | num t b=>exact Nat.le_trans (PZ h.2.1 h.2.2) (by decide)
 | txt z=>
  show(Str.ofString "'"++z).length≤_
  rw[BI,WI]
  have:=h.1
  show 1+_≤_
  omega
 | tru b=>cases b <;> nofun
 | flt w z r c=>
  obtain⟨hw,nm,r0,r1,c0,c1⟩:=h
  show(((Str.ofString "!"++w)++Str.ofString " ")++IB z r c).length≤_
  rw[BI,BI,BI,UP,WJ]
  have:=Ml (c:=c) nm r0 r1
  have tab:∀ w∈Ct,w.length≤7:=by nofun
  have:=tab w hw
  show 1+_+1+_≤_
  omega
def SQ (K:PySem.W.Frag)(mg:Str→Option Value)(x:Str)(xs:List V):Prop:=∃(a:Addr) (o:Obj),mg x=some (.ref a)∧K.lookup a=some o∧o.cls=.type "tuple"∧∃ its n,o.data=.seq its n∧its.size≤sizeLine∧A1 xs its.toList
def ZV (K:PySem.W.Frag)(xs:List V):TE:=fun _ H Q=>∀ a,(∀ H',Af K H' a xs)→Q (.ref a) H
theorem JC {X:Cx}{x:Str}{xs:List V}{pos:Pos}(hm:SQ X.K X.mg x xs)(hg:Gl X x:=by rfl)(hd:(x==("__debug__":Str))=false:=by decide):PE X (.Name x pos) (ZV X.K xs):=by
 obtain⟨a,o,h,hl,hc,its,n,h1,h2,h3⟩:=hm
 intro pins s σ H Q I q
 exact G5 I hg h ⟨.ref a,H,I,rfl,q a fun H'=>.inr ⟨o,its,n,hl,hc,h1,h2,h3⟩⟩ hd
def HP (H:Hp)(p:Addr):Vl→Prop
 | .none=>H p=some (.tup [.str (Str.ofString "none")])
 | .num t b=>H p=some (.tup [.str (Str.ofString "number"),.int t,.int b])
 | .txt z=>H p=some (.tup [.str (Str.ofString "text"),.str z])
 | .tru b=>H p=some (.tup [.str (Str.ofString "truth"),.bl b])
 | .flt w z r c=>∃ q,H p=some (.tup [.str (Str.ofString "fault"),.str w,.ref q])∧H q=some (.tup [.str z,.int r,.int c])
theorem Q1 {w:Str}(h:w∈Ct):S0 (.str w) (Ct.map V.str)=true:=by
 unfold S0
 rw[List.any_map,List.any_eq_true]
 exact⟨w,h,by simp[JU]⟩
theorem Mm:(Ct.map V.str).all Bl=true:=by nofun
def WK:Sp:=fun vs H Q _=>∃ t b:Int,vs=[.int t,.int b]∧Nd t b∧Q (.bl true) H
def Yj:Sp:=fun vs H Q _=>∃ w:Str,vs=[.str w]∧w∈Ct∧Q (.bl true) H
def WL:Sp:=fun vs H Q _=>∃(p:Addr) (v:Vl),vs=[.ref p]∧Ap v∧HP H p v∧∀ H',AI H H'→Q (.bl true) H'
def Yk:Sp:=fun vs H Q _=>∃ t b:Int,vs=[.int t,.int b]∧t.natAbs<10 ^ 30∧b.natAbs<10 ^ 30∧Q (.str (LF t b)) H
def Yl:Sp:=fun vs H Q _=>∃(p:Addr) (v:Vl),vs=[.ref p]∧Ap v∧HP H p v∧∀ H',AI H H'→Q (.str (OP v)) H'
theorem S8 {n:Nat}(h:n<10 ^ 30):n.log2<1920:=by
 rcases Nat.eq_zero_or_pos n with e | e
 ·subst e;decide
 ·exact Nat.lt_trans ((Nat.log2_lt (by omega)).mpr (Nat.lt_trans h (show 10 ^ 30<2 ^ 100 by decide))) (by decide)
theorem Ym {α:Type}{us:List α}(h:us.length=1):∃ a,us=[a]:=match us,h with | [a],_=>⟨a,rfl⟩
theorem WM {α:Type}{us:List α}(h:us.length=2):∃ a b,us=[a,b]:=match us,h with | [a,b],_=>⟨a,b,rfl⟩
abbrev kS (z:String):BC:=.inr (Str.ofString z)
theorem Q2 {ns:List Int}{r:Int}(h0:0≤r)(h1:r<(ns.length:Int)):∃ v,Gh (ns.map V.int) r=some (V.int v):=by
 obtain⟨j,rfl⟩:∃ j:Nat,r=(j:Int):=⟨r.toNat,by omega⟩
 have hj:j<ns.length:=by omega
 exact⟨ns[j],DK (by rw[List.getElem?_map,List.getElem?_eq_getElem hj];rfl)⟩
abbrev vS (z:String):V:=.str (Str.ofString z)
def Xu:Option Str→V
 | none=>.non
 | some z=>.str z
def WN:Option Str→Prop
 | none=>True
 | some z=>Nm z
def Kp (H H':Hp):Prop:=∀ a xs,H a=some (.tup xs)→H' a=some (.tup xs)
theorem Kp.same {H H':Hp}(s:AI H H'):Kp H H':=fun a xs e=>s _ _ e
theorem Kp.lst {H H':Hp}{p:Addr}{ys:List V}(hp:H p=some (.lst ys))(s:Aw p H H'):Kp H H':=fun a xs e=>s _ _ (BJ e hp (by intro z;cases z)) e
theorem Kp.trans {H H1 H2:Hp}(a:Kp H H1)(b:Kp H1 H2):Kp H H2:=fun c xs e=>b c xs (a c xs e)
structure Mn where
 r:Int
 c:Int
 x:Bool
 y:Bool
abbrev Fx (c:Mn):List V:=[.int c.r,.int c.c,.bl c.x,.bl c.y]
structure Q3 (c:Mn):Prop where
 r0:1≤c.r
 r1:c.r≤16
 c0:1≤c.c
 c1:c.c≤8
inductive Lf where
 | val (v:Vl) | cell (s:Option Str) (c:Mn) | rng (s:Option Str) (c d:Mn) | cols (s:Option Str) (a:Int) (x:Bool) (b:Int) (y:Bool) | gone | nam (z:Str) | par (i:Int) | flt (z:Str)
def FD (H:Hp)(a:Addr):Lf→Prop
 | .val v=>∃ q,H a=some (.tup [vS "value",.ref q])∧HP H q v
 | .cell s c=>∃ q,H a=some (.tup [vS "cell",Xu s,.ref q])∧H q=some (.tup (Fx c))
 | .rng s c d=>∃ q u,H a=some (.tup [vS "range",Xu s,.ref q,.ref u])∧H q=some (.tup (Fx c))∧H u=some (.tup (Fx d))
 | .cols s i x j y=>∃ q u,H a=some (.tup [vS "columns",Xu s,.ref q,.ref u])∧H q=some (.tup [.int i,.bl x])∧H u=some (.tup [.int j,.bl y])
 | .gone=>H a=some (.tup [vS "gone"])
 | .nam z=>H a=some (.tup [vS "name",.str z])
 | .par i=>H a=some (.tup [vS "param",.int i])
 | .flt z=>H a=some (.tup [vS "fault",.str z])
def Y8:Vl→Prop
 | .num t b=>b=1∧0≤t∧t≤999999999
 | .txt _=>True
 | .tru _=>True
 | _=>False
def WO (pr:Nat):Lf→Prop
 | .val v=>Ap v∧Y8 v
 | .cell s c=>WN s∧Q3 c
 | .rng s c d=>WN s∧Q3 c∧Q3 d∧c.r≤d.r∧c.c≤d.c
 | .cols ..=>False
 | .gone=>False
 | .nam _=>False
 | .par _=>False
 | .flt z=>z∈Ct
theorem HP.kp {H H':Hp}{p:Addr}{v:Vl}(h:HP H p v)(s:Kp H H'):HP H' p v:=by
 cases v with
 | none=>exact s _ _ h
 | num t b=>exact s _ _ h
 | txt z=>exact s _ _ h
 | tru b=>exact s _ _ h
 | flt w z r c=>obtain⟨q,a,b⟩:=h;exact⟨q,s _ _ a,s _ _ b⟩
theorem FD.kp {H H':Hp}{a:Addr}{l:Lf}(h:FD H a l)(s:Kp H H'):FD H' a l:=by
 cases l with
 | val v=>obtain⟨q,h1,h2⟩:=h;exact⟨q,s _ _ h1,HP.kp h2 s⟩
 | cell z c=>obtain⟨q,h1,h2⟩:=h;exact⟨q,s _ _ h1,s _ _ h2⟩
 | rng z c d=>obtain⟨q,u,h1,h2,h3⟩:=h;exact⟨q,u,s _ _ h1,s _ _ h2,s _ _ h3⟩
 | cols z i x j y=>obtain⟨q,u,h1,h2,h3⟩:=h;exact⟨q,u,s _ _ h1,s _ _ h2,s _ _ h3⟩
 | gone=>exact s _ _ h
 | nam z=>exact s _ _ h
 | par i=>exact s _ _ h
 | flt=>exact s _ _ h
theorem Ld {n:Int}:Nd n 1:=⟨by decide,by simp⟩
inductive Kd where
 | op (z:Str) | neg | own (z:Str) | sumif (z:Str) | grid (i j:Int) | wd (z:Str)
def Pa (t:Addr):Kd→List V→List V
 | .op z,us=>vS "op"::.str z::us
 | .neg,us=>vS "neg"::us
 | .own z,_=>[vS "own",.str z,.ref t]
 | .sumif z,us=>vS "sumif"::(us.take 1++.str z::us.drop 1)
 | .grid i j,us=>vS "grid"::.int i::.int j::us
 | .wd z,us=>.str z::us
def Jl:Kd→Bool
 | .own _=>true
 | _=>false
def Xw:List Str:=["+","-","*","/","&","=","<"].map Str.ofString
def Pb:List (Str×Nat):=[("if",3),("sum",1),("count",1),("least",1),("most",1),("find",3),("turn",1),("stack",2),("outer",1)].map fun x=>(Str.ofString x.1,x.2)
def Q4:Kd→Nat→Prop
 | .op z,m=>z∈Xw∧m=2
 | .neg,m=>m=1
 | .own z,m=>m≤3∧False
 | .sumif z,m=>(z=Str.ofString "="∨z=Str.ofString "<")∧m=3
 | .grid i j,m=>1≤i∧i≤16∧1≤j∧j≤8∧m=2
 | .wd z,m=>(z,m)∈Pb
theorem Q4.le {k:Kd}{m:Nat}(h:Q4 k m):m≤3:=by
 cases k with
 | op z=>have:=h.2;omega
 | neg=>have:m=1:=h;omega
 | own z=>exact h.1
 | sumif z=>have:=h.2;omega
 | grid i j=>have:=h.2.2.2.2;omega
 | wd z=>
  have h:(z,m)∈Pb:=h
  have:∀ x∈Pb,x.2≤3:=by nofun
  exact this _ h
inductive Fm where
 | lf (l:Lf) | nd (k:Kd) (ps:List Fm)
inductive A7 (H:Hp):V→Fm→Prop where
 | lf {a:Addr} {l:Lf} (h:FD H a l):A7 H (.ref a) (.lf l)
 | nd {a t:Addr} {k:Kd} {us:List V} {ps:List Fm} (h:H a=some (.tup (Pa t k us))) (ht:Jl k=true→H t=some (.tup us)) (hl:us.length=ps.length)
  (hh:∀(j:Nat) (u:V) (f:Fm),us[j]?=some u→ps[j]?=some f→A7 H u f):A7 H (.ref a) (.nd k ps)
theorem A7.kp {H H':Hp}{v:V}{f:Fm}(h:A7 H v f)(s:Kp H H'):A7 H' v f:=by
 induction h with
 | lf h=>exact .lf (FD.kp h s)
 | nd h ht hl _ ih=>exact .nd (s _ _ h) (fun z=>s _ _ (ht z)) hl ih
abbrev CK (H:Hp)(us:List V)(fs:List Fm):Prop:=Paired (A7 H) us fs
theorem CK.kp {H H':Hp}{us:List V}{fs:List Fm}(h:CK H us fs)(s:Kp H H'):CK H' us fs:=Paired.imp' (fun _ _ x=>A7.kp x s) h
inductive FO (pr:Nat):Nat→Fm→Prop where
 | lf {n:Nat} {l:Lf} (h:WO pr l):FO pr (n+1) (.lf l)
 | nd {n:Nat} {k:Kd} {ps:List Fm} (h:Q4 k ps.length) (hp:∀ f∈ps,FO pr n f):FO pr (n+1) (.nd k ps)
theorem FO.mono {pr:Nat}{n:Nat}{f:Fm}(h:FO pr n f):∀{m:Nat},n≤m→FO pr m f:=by
 induction h with
 | lf h=>
  intro m hm
  obtain⟨m,rfl⟩:∃ k,m=k+1:=⟨m-1,by omega⟩
  exact .lf h
 | nd h _ ih=>
  intro m hm
  obtain⟨m,rfl⟩:∃ k,m=k+1:=⟨m-1,by omega⟩
  exact .nd h fun f hf=>ih f hf (by omega)
theorem Dx {α β:Type}{F:α→β→Prop}:∀{xs:List α} {ys:List β} {x:α} {y:β},Paired F xs ys→F x y→Paired F (xs++[x]) (ys++[y]):=by
 intro A B C D h g
 induction h with
 | nil=>exact .cons g .nil
 | cons r t ih=>exact .cons r ih
abbrev zS (z:String):Str:=Str.ofString z
theorem Ag {α:Type}{x:α}{r:List α}:Gh (x::r) 0=some x:=DK (j:=0) rfl
theorem OQ {α:Type}{x y:α}{r:List α}:Gh (x::y::r) 1=some y:=DK (j:=1) rfl
theorem OR {α:Type}{x y z:α}{r:List α}:Gh (x::y::z::r) 2=some z:=DK (j:=2) rfl
def Ek:Fm→List Fm
 | .lf _=>[]
 | .nd _ ps=>ps
def kw:Kd→Str
 | .op _=>zS "op"
 | .neg=>zS "neg"
 | .own _=>zS "own"
 | .sumif _=>zS "sumif"
 | .grid _ _=>zS "grid"
 | .wd z=>z
theorem UV (t:Addr)(k:Kd)(us:List V):∃ r,Pa t k us=.str (kw k)::r:=by cases k <;> exact⟨_,rfl⟩
theorem A7.parts {H:Hp}{us:List V}{ps:List Fm}(hl:us.length=ps.length)(hh:∀(j:Nat) (u:V) (f:Fm),us[j]?=some u→ps[j]?=some f→A7 H u f):CK H us ps:=by
 induction us generalizing ps with
 | nil=>
  cases ps with
  | nil=>exact .nil
  | cons _ _=>simp at hl
 | cons u us ih=>
  cases ps with
  | nil=>simp at hl
  | cons p ps=>exact .cons (hh 0 u p rfl rfl) (ih (by simpa using hl) fun j u f e1 e2=>hh (j+1) u f (by simpa using e1) (by simpa using e2))
theorem UW {k:Kd}{m:Nat}(ok:Q4 k m):decide (V.str (kw k)=vS "own")=Jl k:=by
 cases k with
 | wd z=>
  have hw:(z,m)∈Pb:=ok
  have:∀ x∈Pb,decide (V.str x.1=vS "own")=false:=by nofun
  exact this _ hw
 | op z=>show decide (vS "op"=vS "own")=false;nofun
 | neg=>show decide (vS "neg"=vS "own")=false;nofun
 | own z=>show decide (vS "own"=vS "own")=true;nofun
 | sumif z=>show decide (vS "sumif"=vS "own")=false;nofun
 | grid i j=>show decide (vS "grid"=vS "own")=false;nofun
def WP:Sp:=fun vs H Q _=>∃(v:V) (f:Fm) (pr n:Nat),vs=[v]∧A7 H v f∧FO pr n f∧∀(l:Addr) (us:List V) (H':Hp),H l=none→H' l=some (.lst us)→CK H' us (Ek f)→AI H H'→Q (.ref l) H'
theorem AI.back0 {H H':Hp}{b:Addr}(s:AI H H')(h:H' b=none):H b=none:=by
 cases e:H b with
 | none=>rfl
 | some o=>rw[s _ _ e]at h;cases h
theorem Yn {n:Nat}(h:n≤16000000):n≤sizeLine:=Nat.le_trans h (by decide)
def Yo:List (BC×List V):=[(kS "op",[.int 2,.int 3]),(kS "neg",[.int 1]),(kS "if",[.int 1,.int 2,.int 3]),(kS "sum",[.int 1]),(kS "count",[.int 1]),(kS "least",[.int 1]),(kS "most",[.int 1]),(kS "sumif",[.int 1,.int 3,.int 4]),(kS "find",[.int 1,.int 2,.int 3]),(kS "turn",[.int 1]),(kS "stack",[.int 1,.int 2]),(kS "grid",[.int 3,.int 4]),(kS "outer",[.int 1])]
def Nf (k:Str):Option (List V):=(Yo.find? fun kt=>decide (kt.1=(Sum.inr k:BC))).map (·.2)
abbrev Y9 (K:PySem.W.Frag):List (BC×V)→List (BC×List V)→Prop:=Paired (fun(kv:BC×V) (kt:BC×List V)=>kv.1=kt.1∧∃ a,kv.2=.ref a∧∀ H,Af K H a kt.2)
theorem Q5 {K:PySem.W.Frag}{k:BC}{ys:List V}:∀{kvs:List (BC×V)} {kts:List (BC×List V)},Y9 K kvs kts→(kts.find? fun kt=>decide (kt.1=k)).map (·.2)=some ys→∃ a,CA kvs k=some (.ref a)∧∀ H,Af K H a ys
 | _,_,.nil,h=>by simp at h
 | (kv::kvs),(kt::kts),.cons r t,h=>by
  obtain⟨e,a,ea,sq⟩:=r
  by_cases c:kt.1=k
  ·rw[List.find?_cons_of_pos (by simpa using c)]at h
   simp only[Option.map_some,Option.some.injEq]at h
   subst h
   exact⟨a,by rw[Bx (e.trans c),ea],sq⟩
  ·rw[List.find?_cons_of_neg (by simpa using c)]at h
   obtain⟨b,hb,sb⟩:=Q5 t h
   exact⟨b,by rw[Bo (fun z=>c (e.symm.trans z))];exact hb,sb⟩
def Xx (m:Nat):List Nat:=(List.range m).map (·+1)
theorem UX {t:Addr}{k:Kd}{us:List V}(ok:Q4 k us.length)(no:Jl k=false):∃ pl:List Nat,Nf (kw k)=some (pl.map fun(p:Nat)=>V.int p)∧pl.length=us.length∧∀ j,j<us.length→∃ p u,pl[j]?=some p∧us[j]?=some u∧Gh (Pa t k us) (p:Int)=some u:=by
 cases k with
 | op z=>
  obtain⟨u1,u2,rfl⟩:=WM ok.2
  refine⟨[2,3],(by show Nf (zS "op")=_;nofun),rfl,fun j hj=>?_⟩
  have hj':j<2:=hj
  rcases(show j=0∨j=1 by omega)with rfl | rfl
  ·exact⟨2,u1,rfl,rfl,rfl⟩
  ·exact⟨3,u2,rfl,rfl,rfl⟩
 | neg=>
  obtain⟨u1,rfl⟩:=Ym (show us.length=1 from ok)
  refine⟨[1],(by show Nf (zS "neg")=_;nofun),rfl,fun j hj=>?_⟩
  obtain rfl:j=0:=by have hj':j<1:=hj;omega
  exact⟨1,u1,rfl,rfl,rfl⟩
 | own z=>cases no
 | sumif z=>
  have h3:us.length=3:=ok.2
  match us,h3 with
  | [u1,u2,u3],_=>
  refine⟨[1,3,4],(by show Nf (zS "sumif")=_;nofun),rfl,fun j hj=>?_⟩
  have hj':j<3:=hj
  rcases(show j=0∨j=1∨j=2 by omega)with rfl | rfl | rfl
  ·exact⟨1,u1,rfl,rfl,rfl⟩
  ·exact⟨3,u2,rfl,rfl,rfl⟩
  ·exact⟨4,u3,rfl,rfl,rfl⟩
 | grid i j=>
  obtain⟨u1,u2,rfl⟩:=WM ok.2.2.2.2
  refine⟨[3,4],(by show Nf (zS "grid")=_;nofun),rfl,fun j hj=>?_⟩
  have hj':j<2:=hj
  rcases(show j=0∨j=1 by omega)with rfl | rfl
  ·exact⟨3,u1,rfl,rfl,rfl⟩
  ·exact⟨4,u2,rfl,rfl,rfl⟩
 | wd z=>
  have hw:(z,us.length)∈Pb:=ok
  have hz:∀ x∈Pb,Nf x.1=some ((Xx x.2).map fun(p:Nat)=>V.int p):=by nofun
  refine⟨Xx us.length,hz _ hw,by simp[Xx],fun j hj=>⟨j+1,us[j],?_,List.getElem?_eq_getElem hj,?_⟩⟩
  ·unfold Xx
   rw[List.getElem?_map,List.getElem?_range hj];rfl
  ·exact DK (j:=j+1) (by show(V.str z::us)[j+1]?=_;rw[List.getElem?_cons_succ,List.getElem?_eq_getElem hj])
mutual
def ND:Fm→Nat
 | .lf _=>1
 | .nd _ ps=>1+FY ps
def FY:List Fm→Nat
 | []=>0
 | f::fs=>ND f+FY fs
end
theorem JD:∀ a b:List Fm,FY (a++b)=FY a+FY b
 | [],b=>by rw[List.nil_append,FY];omega
 | x::a,b=>by rw[List.cons_append,FY,FY,JD a b];omega
theorem Le (f:Fm):ND f=1+FY (Ek f):=by
 cases f with
 | lf l=>rw[ND];show 1=1+FY [];rw[FY]
 | nd k ps=>rw[ND];rfl
theorem Lg:∀ fs:List Fm,fs.length≤FY fs
 | []=>Nat.zero_le _
 | f::fs=>by
  have:=Lg fs
  have:=Le f
  rw[FY,List.length_cons];omega
theorem Q6 {B:Nat}:∀ fs:List Fm,(∀ f∈fs,ND f≤B)→FY fs≤fs.length*B
 | [],_=>by rw[FY];exact Nat.zero_le _
 | f::fs,h=>by
  have a:=Q6 fs fun g hg=>h g (List.mem_cons_of_mem _ hg)
  have b:=h f (by simp)
  rw[FY,List.length_cons,Nat.add_mul];omega
def SB:Nat→Nat
 | 0=>0
 | n+1=>1+3*SB n
theorem FO.sz {pr n:Nat}{f:Fm}(h:FO pr n f):ND f≤SB n:=by
 induction h with
 | lf h=>rw[ND];show 1≤1+3*SB _;omega
 | @nd n k ps ok _ ih=>
  rw[ND]
  have a:=Q6 ps ih
  have b:ps.length*SB n≤3*SB n:=Nat.mul_le_mul_right _ ok.le
  show 1+FY ps≤1+3*SB n
  omega
theorem FO.sz8 {pr:Nat}{f:Fm}(h:FO pr 8 f):ND f≤3280:=Nat.le_trans h.sz (by decide)
theorem FO.prt {pr n:Nat}{f:Fm}(h:FO pr n f):∀ g∈Ek f,FO pr n g:=fun g hg=>by
 cases h with
 | lf _=>cases hg
 | nd _ hp=>exact(hp g hg).mono (Nat.le_succ _)
theorem UY {α β:Type}{F:α→β→Prop}:∀{xs:List α} {x:α} {ys:List β},Paired F (xs++[x]) ys→∃ ys' y,ys=ys'++[y]∧Paired F xs ys'∧F x y:=by
 intro A x B h
 induction A generalizing B with
 | nil=>
  rw[List.nil_append]at h
  cases h with
  | cons r t=>
   cases t
   exact⟨[],_,rfl,.nil,r⟩
 | cons a l ih=>
  rw[List.cons_append]at h
  cases h with
  | cons r t=>
   obtain⟨ys',y,rfl,p,q⟩:=ih t
   exact⟨_::ys',y,rfl,.cons r p,q⟩
theorem UZ {α β:Type}{F:α→β→Prop}:∀{xs zs:List α} {ys ws:List β},Paired F xs ys→Paired F zs ws→Paired F (xs++zs) (ys++ws):=by
 intro A B C D h g
 induction h with
 | nil=>exact g
 | cons r t ih=>exact .cons r ih
theorem Ua {A:Around}{k:Nat}(hr:Ce k A):A.units+30<cLine:=by have:=hr.un;omega
def KP (x:V):Prop:=Bl x=true∨∃ a,x=.ref a
theorem FD.pp {H:Hp}{a:Addr}{l:Lf}(h:FD H a l):∃ w r,H a=some (.tup (.str w::r))∧V.bl (decide (V.str w=vS "own"))=V.bl false∧Nf w=none∧(∀ x∈(.str w::r),KP x)∧r.length≤5:=by
 have sh:∀ s:Option Str,KP (Xu s):=fun s=>by cases s <;> exact .inl rfl
 cases l with
 | val v=>obtain⟨q,h1,_⟩:=h;exact⟨_,_,h1,by nofun,by nofun,by simp[KP,Bl],by simp⟩
 | cell s c=>obtain⟨q,h1,_⟩:=h;exact⟨_,_,h1,by nofun,by nofun,by simp[KP,Bl];exact sh s,by simp⟩
 | rng s c d=>obtain⟨q,u,h1,_⟩:=h;exact⟨_,_,h1,by nofun,by nofun,by simp[KP,Bl];exact sh s,by simp⟩
 | cols s i x j y=>obtain⟨q,u,h1,_⟩:=h;exact⟨_,_,h1,by nofun,by nofun,by simp[KP,Bl];exact sh s,by simp⟩
 | gone=>exact⟨_,_,h,by nofun,by nofun,by simp[KP,Bl],by simp⟩
 | nam z=>exact⟨_,_,h,by nofun,by nofun,by simp[KP,Bl],by simp⟩
 | par i=>exact⟨_,_,h,by nofun,by nofun,by simp[KP,Bl],by simp⟩
 | flt=>exact⟨_,_,h,by nofun,by nofun,by simp[KP,Bl],by simp⟩
theorem OS {K:PySem.W.Frag}{k:BC}:∀{kvs:List (BC×V)} {kts:List (BC×List V)},Y9 K kvs kts→(kts.find? fun kt=>decide (kt.1=k)).map (·.2)=none→CA kvs k=none
 | _,_,.nil,_=>rfl
 | (kv::kvs),(kt::kts),.cons r t,h=>by
  obtain⟨e,a,ea,sq⟩:=r
  by_cases c:kt.1=k
  ·rw[List.find?_cons_of_pos (by simpa using c)]at h
   simp at h
  ·rw[List.find?_cons_of_neg (by simpa using c)]at h
   rw[Bo (fun z=>c (e.symm.trans z))]
   exact OS t h
theorem Q7 {pr n:Nat}{f:Fm}(h:FO pr n f)(h8:n≤8):ND f≤3280:=(h.mono h8).sz8
theorem Ub:1≤sizeLine:=by decide
mutual
def Dy:Fm→List Fm
 | .lf l=>[.lf l]
 | .nd k ps=>FZ ps++[.nd k ps]
def FZ:List Fm→List Fm
 | []=>[]
 | f::fs=>Dy f++FZ fs
end
theorem SR (f:Fm):Dy f=FZ (Ek f)++[f]:=by
 cases f with
 | lf l=>rw[Dy];show [Fm.lf l]=FZ []++[Fm.lf l];rw[FZ];rfl
 | nd k ps=>rw[Dy];rfl
theorem Lh:∀ a b:List Fm,FZ (a++b)=FZ a++FZ b
 | [],b=>by rw[List.nil_append,FZ,List.nil_append]
 | x::a,b=>by rw[List.cons_append,FZ,FZ,Lh a b,List.append_assoc]
mutual
theorem JE:∀ f:Fm,(Dy f).length=ND f
 | .lf l=>by rw[Dy,ND];rfl
 | .nd k ps=>by rw[Dy,ND,List.length_append,Li ps,List.length_singleton];omega
theorem Li:∀ fs:List Fm,(FZ fs).length=FY fs
 | []=>by rw[FZ,FY];rfl
 | f::fs=>by rw[FZ,FY,List.length_append,JE f,Li fs]
end
def WQ:Sp:=fun vs H Q _=>∃(v:V) (f:Fm) (pr n:Nat),vs=[v]∧A7 H v f∧FO pr n f∧n≤8∧∀ l ws H',H l=none→H' l=some (.lst ws)→CK H' ws (Dy f)→AI H H'→Q (.ref l) H'
theorem Yp {α β:Type}{R:α→β→Prop}{xs:List α}{ys:List β}(h:Paired R xs ys):Paired R xs.reverse ys.reverse:=by
 induction h with
 | nil=>exact .nil
 | cons h _ ih=>rw[List.reverse_cons,List.reverse_cons];exact UZ ih (.cons h .nil)
theorem A7.tup {H:Hp}{v:V}{f:Fm}(h:A7 H v f):∃ b ys,v=.ref b∧H b=some (.tup ys):=by
 cases h with
 | lf h=>obtain⟨w,r,h1,_⟩:=h.pp;exact⟨_,_,rfl,h1⟩
 | nd h _ _ _=>exact⟨_,_,rfl,h⟩
theorem Af.sm {K:PySem.W.Frag}{H H':Hp}{a:Addr}{xs:List V}(h:Af K H a xs)(s:AI H H'):Af K H' a xs:=by
 rcases h with(h | ⟨o,h⟩) | h
 ·exact .inl (.inl (s _ _ h))
 ·exact .inl (.inr ⟨o,s _ _ h⟩)
 ·exact .inr h
mutual
theorem FO.al {pr n:Nat}:∀(f:Fm),FO pr n f→∀ g∈Dy f,FO pr n g
 | .lf l,h,g,hg=>by rw[Dy]at hg;rw[List.mem_singleton.mp hg];exact h
 | .nd k ps,h,g,hg=>by
  rw[Dy]at hg
  rcases List.mem_append.mp hg with q | q
  ·exact FO.als ps (fun x hx=>h.prt x hx) g q
  ·rw[List.mem_singleton.mp q];exact h
theorem FO.als {pr n:Nat}:∀(fs:List Fm),(∀ f∈fs,FO pr n f)→∀ g∈FZ fs,FO pr n g
 | [],_,g,hg=>by rw[FZ]at hg;cases hg
 | f::fs,h,g,hg=>by
  rw[FZ]at hg
  rcases List.mem_append.mp hg with q | q
  ·exact FO.al f (h f (List.mem_cons_self ..)) g q
  ·exact FO.als fs (fun x hx=>h x (List.mem_cons_of_mem _ hx)) g q
end
theorem Uc {xs:List V}{j:Nat}(h:j≤xs.length):Gg xs (some (j:Int)) none=xs.drop j:=by
 unfold Gg
 have e1:HT.Ig xs.length 0 (some (j:Int))=j:=by unfold HT.Ig;simp;split <;> omega
 have e2:HT.Ig xs.length xs.length none=xs.length:=rfl
 rw[e1,e2,← List.length_drop]
 exact List.take_length
theorem Ud {xs:List V}{j:Nat}(h:j≤xs.length):Gg xs none (some (j:Int))=xs.take j:=by
 unfold Gg
 have e1:HT.Ig xs.length xs.length (some (j:Int))=j:=by unfold HT.Ig;simp;split <;> omega
 have e2:HT.Ig xs.length 0 none=0:=rfl
 rw[e1,e2,Nat.sub_zero];rfl
theorem Q8 {α β:Type}{F:α→β→Prop}:∀{xs:List α} {ys:List β} (n:Nat),Paired F xs ys→Paired F (xs.drop n) (ys.drop n)
 | _,_,0,h=>by simpa using h
 | _,_,n+1,.nil=>by simpa using Paired.nil
 | _,_,n+1,.cons _ t=>by simpa using Q8 n t
theorem Q9 {α β:Type}{F:α→β→Prop}:∀{xs:List α} {ys:List β} (n:Nat),Paired F xs ys→Paired F (xs.take n) (ys.take n)
 | _,_,0,h=>by simpa using Paired.nil
 | _,_,n+1,.nil=>by simpa using Paired.nil
 | _,_,n+1,.cons r t=>by simpa using Paired.cons r (Q9 n t)
def WR:Sp:=fun vs H Q _=>∃(q:Addr) (x:V) (a b c d:Int),vs=[.ref q]∧H q=some (.tup [x,.int a,.int b,.int c,.int d])∧∀ r,H r=none→Q (.ref r) (upd H r (.tup [.int (c-a+1),.int (d-b+1)]))
def BD (H:Hp)(u:V)(v:Vl):Prop:=∃ q,u=.ref q∧HP H q v
theorem BD.kp {H H':Hp}{u:V}{v:Vl}(h:BD H u v)(s:Kp H H'):BD H' u v:=by
 obtain⟨q,e,x⟩:=h
 exact⟨q,e,HP.kp x s⟩
abbrev Br (H:Hp)(us:List V)(vs:List Vl):Prop:=Paired (BD H) us vs
theorem Br.kp {H H':Hp}{us:List V}{vs:List Vl}(h:Br H us vs)(s:Kp H H'):Br H' us vs:=Paired.imp' (fun _ _ x=>BD.kp x s) h
def SS (H:Hp)(u:V)(row:List V):Prop:=∃ b,u=.ref b∧H b=some (.tup row)
def Bk (H:Hp)(u:V)(rows:List (List V)):Prop:=∃ b us,u=.ref b∧H b=some (.tup us)∧Paired (SS H) us rows
theorem Bk.kp {H H':Hp}{u:V}{rows:List (List V)}(h:Bk H u rows)(s:Kp H H'):Bk H' u rows:=by
 obtain⟨b,us,e,x,p⟩:=h
 exact⟨b,us,e,s _ _ x,Paired.imp' (fun _ _ ⟨c,e,y⟩=>⟨c,e,s _ _ y⟩) p⟩
abbrev By (H:Hp)(rows:List (List V))(m:List (List Vl)):Prop:=Paired (Paired (BD H)) rows m
theorem By.kp {H H':Hp}{rows:List (List V)}{m:List (List Vl)}(h:By H rows m)(s:Kp H H'):By H' rows m:=Paired.imp' (fun _ _ x=>Br.kp x s) h
def Bm (H:Hp)(u:V)(m:List (List Vl)):Prop:=∃ rows,Bk H u rows∧By H rows m
theorem Bm.kp {H H':Hp}{u:V}{m:List (List Vl)}(h:Bm H u m)(s:Kp H H'):Bm H' u m:=by
 obtain⟨r,x,y⟩:=h
 exact⟨r,x.kp s,By.kp y s⟩
theorem Kp.new {H:Hp}{p:Addr}{o:HO}(h:H p=none):Kp H (upd H p o):=Kp.same (AI.new h)
def Yq:HO→Bool
 | .frz _ (.own 0)=>false
 | .tbl _=>false
 | _=>true
def DR (H H':Hp):Prop:=∀ b o,H b=some o→Yq o=true→H' b=some o
theorem Ue {q:Str}{o:HO}(h:Yq o=true):kn q (some o)=none:=by
 unfold kn
 split
 ·rename_i e;cases e;cases h
 ·rfl
theorem DR.of {H H':Hp}(h:AI H H'):DR H H':=fun b o e _=>h b o e
theorem DR.trans {H H1 H2:Hp}(a:DR H H1)(b:DR H1 H2):DR H H2:=fun c o e d=>b c o (a c o e d) d
theorem DR.kp {H H':Hp}(h:DR H H'):Kp H H':=fun a xs e=>h a _ e rfl
theorem DR.del (q:Str)(H:Hp):DR H (L2.del q H):=fun _ _ e d=>Hy e (Ue d)
theorem DR.tab {H H':Hp}{P:Addr}{ps:Array Value}(hp:H P=some (.tbl ps))(h:Aw P H H'):DR H H':=fun b o e d=>h b o (fun z=>by subst z;rw[hp]at e;cases e;cases d) e
theorem Kp.back {q:Str}{H H':Hp}(h:∀ b o,kn q (H b)=some o→H' b=none):Kp H' (L2.put q H H'):=fun a xs e=>by
 have n:kn q (H a)=none:=by
  cases w:kn q (H a)with
  | none=>rfl
  | some o=>rw[h a o w]at e;cases e
 rw[Cs n];exact e
theorem DR.seq {K:PySem.W.Frag}{H H':Hp}{a:Addr}{xs:List V}(h:DR H H')(q:Ax K H a xs):Ax K H' a xs:=by
 rcases q with(q | ⟨o,q⟩) | q
 ·exact .inl (.inl (h _ _ q rfl))
 ·exact .inl (.inr ⟨o,h _ _ q rfl⟩)
 ·exact .inr q
def tag:Vl→Str
 | .none=>Str.ofString "none"
 | .num ..=>Str.ofString "number"
 | .txt _=>Str.ofString "text"
 | .tru _=>Str.ofString "truth"
 | .flt ..=>Str.ofString "fault"
def itm:Vl→List VL
 | .none=>[.fl (vS "none")]
 | .num t b=>[.fl (vS "number"),.fl (.int t),.fl (.int b)]
 | .txt z=>[.fl (vS "text"),.fl (.str z)]
 | .tru b=>[.fl (vS "truth"),.fl (.bl b)]
 | .flt w z r c=>[.fl (vS "fault"),.fl (.str w),.tp [.str z,.int r,.int c]]
def KQ (x y:Vl):Bool:=R6 IT (itm x) (itm y)
theorem HP.itm {H:Hp}{p:Addr}{v:Vl}(h:HP H p v):∃ xs,H p=some (.tup (.str (tag v)::xs))∧Paired (ML H) (.str (tag v)::xs) (itm v):=by
 cases v with
 | none=>exact⟨_,h,.cons ⟨rfl,rfl⟩ .nil⟩
 | num t b=>exact⟨_,h,.cons ⟨rfl,rfl⟩ (.cons ⟨rfl,rfl⟩ (.cons ⟨rfl,rfl⟩ .nil))⟩
 | txt z=>exact⟨_,h,.cons ⟨rfl,rfl⟩ (.cons ⟨rfl,rfl⟩ .nil)⟩
 | tru b=>exact⟨_,h,.cons ⟨rfl,rfl⟩ (.cons ⟨rfl,rfl⟩ .nil)⟩
 | flt w z r c=>
  obtain⟨q,a,b⟩:=h
  exact⟨_,a,.cons ⟨rfl,rfl⟩ (.cons ⟨rfl,rfl⟩ (.cons ⟨q,rfl,b,rfl⟩ .nil))⟩
def Fe (v:Vl):Bool:=decide (V.str (tag v)=vS "fault")
structure Hm where
 z:Str
 r:Int
 c:Int
def DP (H:Hp)(u:V)(h:Hm):Prop:=∃ q,u=.ref q∧H q=some (.tup [.str h.z,.int h.r,.int h.c])
theorem DP.kp {H H':Hp}{u:V}{h:Hm}(x:DP H u h)(s:Kp H H'):DP H' u h:=by
 obtain⟨q,e,y⟩:=x
 exact⟨q,e,s _ _ y⟩
def Jm (w:String)(h:Hm):Vl:=.flt (Str.ofString w) h.z h.r h.c
structure Bp {α:Type}(m:List (List α))(w:Nat):Prop where
 ne:m≠[]
 w1:1≤w
 row:∀ r∈m,r.length=w
def Pc (g:Str→Int→Int→Vl)(z:Str)(r c:Int)(h w:Nat):List (List Vl):=(List.range h).map fun(i:Nat)=>(List.range w).map fun(j:Nat)=>g z (r+i) (c+j)
def Dz {α:Type}(us:List α)(w h:Nat):List (List α):=(List.range h).map fun(i:Nat)=>(us.drop (i*w)).take w
theorem FE {α β:Type}{F:α→β→Prop}{us:List α}{vs:List β}{w h:Nat}(p:Paired F us vs):Paired (Paired F) (Dz us w h) (Dz vs w h):=by
 unfold Dz
 induction (List.range h)with
 | nil=>exact .nil
 | cons i l ih=>exact .cons (Q9 w (Q8 (i*w) p)) ih
theorem Pd {g:Str→Int→Int→Vl}{z:Str}{r c:Int}{h w:Nat}(hw:1≤w):Dz ((List.range (h*w)).map fun(k:Nat)=>g z (r+((k / w:Nat):Int)) (c+((k%w:Nat):Int))) w h=Pc g z r c h w:=by
 unfold Dz Pc
 refine List.map_congr_left fun i hi=>?_
 have hi':i<h:=List.mem_range.mp hi
 refine List.ext_getElem? fun j=>?_
 by_cases hj:j<w
 ·have hlt:i*w+j<h*w:=by
   have:(i+1)*w≤h*w:=Nat.mul_le_mul_right w hi'
   rw[Nat.succ_mul]at this
   omega
  rw[List.getElem?_take_of_lt hj,List.getElem?_drop,List.getElem?_map,List.getElem?_map,List.getElem?_range hlt,List.getElem?_range hj]
  simp only[Option.map_some]
  rw[Nat.mul_comm i w,Nat.mul_add_div (by omega),Nat.div_eq_of_lt hj,Nat.mul_add_mod,Nat.mod_eq_of_lt hj,Nat.add_zero]
 ·rw[List.getElem?_eq_none (by rw[List.length_take];omega),List.getElem?_eq_none (by rw[List.length_map,List.length_range];omega)]
theorem Lj {g:Str→Int→Int→Vl}{z:Str}{r c:Int}{h w:Nat}:(Pc g z r c h w).length=h:=by unfold Pc;rw[List.length_map,List.length_range]
theorem Mo {g:Str→Int→Int→Vl}{z:Str}{r c:Int}{h w:Nat}(h1:1≤h)(w1:1≤w):Bp (Pc g z r c h w) w:=by
 refine⟨fun e=>?_,w1,fun x hx=>?_⟩
 ·have:=congrArg List.length e
  rw[Lj]at this
  simp at this
  omega
 ·unfold Pc at hx
  obtain⟨i,_,rfl⟩:=List.mem_map.mp hx
  rw[List.length_map,List.length_range]
def Dh (v:Vl)(w:Nat):Bool:=match v with
 | .num t b=>decide (b=1)&&(decide (1≤t)&&decide (t≤(w:Int)))
 | _=>false
def Jn:Vl→Nat
 | .num t _=>(t-1).toNat
 | _=>0
def IC (k:Vl)(j:Nat):List (List Vl)→Option Vl
 | []=>none
 | r::m=>if KQ (r.headD .none) k=true then some (r.getD j .none)else IC k j m
def NE (k:Vl)(m:List (List Vl))(a:Vl)(h:Hm):Vl:=
 if Fe k=true then k else if Fe a=true then a else if Dh a (m.headD []).length=false then Jm "kind" h else(IC k (Jn a) m).getD (Jm "miss" h)
def WS:Sp:=fun vs H Q _=>∃ u:V,vs=[u]∧∀ x H',Bk H' x [[u]]→AI H H'→Q x H'
def WT:Sp:=fun vs H Q _=>∃(l:Addr) (us:List V) (w h:Nat),vs=[.ref l,.int w]∧H l=some (.lst us)∧us.length=h*w∧1≤w∧w≤100∧h≤100∧∀ x H',Bk H' x (Dz us w h)→AI H H'→Q x H'
def E3:List V→List Vl→V
 | u::us,v::vs=>if Fe v=true then u else E3 us vs
 | _,_=>.non
def WU (K:PySem.W.Frag):Sp:=fun vs H Q _=>∃(l:Addr) (us:List V) (ms:List Vl),vs=[.ref l]∧H l=some (.lst us)∧Br H us ms∧us.length≤1000∧Q (E3 us ms) H
def WV:Sp:=fun vs H Q _=>∃(u x:V) (v:Vl) (rows:List (List V)) (r0:List V),vs=[u,x]∧BD H u v∧Bk H x (r0::rows)∧r0.length≤1000∧Q (.bl (Dh v r0.length)) H
def WW:Sp:=fun vs H Q _=>∃(u x a y:V) (k v:Vl) (m:List (List Vl)) (w:Nat) (hm:Hm),vs=[u,x,a,y]∧BD H u k∧Bm H x m∧BD H a v∧DP H y hm∧Bp m w∧w≤1000∧m.length≤1000∧∀ z H',BD H' z (NE k m v hm)→AI H H'→Q z H'
def ST (D:Hp→Prop)(dom:Str→Int→Int→Prop)(g:Str→Int→Int→Vl):Sp:=fun vs H Q _=>∃(q:Addr) (z:Str) (r c:Int),vs=[.ref q]∧H q=some (.tup [.str z,.int r,.int c])∧D H∧dom z r c∧∀ x H',BD H' x (g z r c)→AI H H'→Q x H'
def SU (f:Addr)(D:Hp→Prop)(dom:Str→Int→Int→Prop)(g:Str→Int→Int→Vl):Sp:=fun vs H Q _=>∃(b:Addr) (z:Str) (r c r2 c2:Int),vs=[.ref b,.ref f]∧Qy H b z r c r2 c2∧D H∧(∀ i j:Int,r≤i→i≤r2→c≤j→j≤c2→dom z i j)∧
 ∀ x H',Bm H' x (Pc g z r c (r2-r+1).toNat (c2-c+1).toNat)→AI H H'→Q x H'
def SV:Lf→Option (Str×Mn×Mn)
 | .cell (some z) c=>some (z,c,c)
 | .rng (some z) c d=>some (z,c,d)
 | _=>none
def Rl (g:Str→Int→Int→Vl)(l:Lf):List (List Vl):=match SV l with
 | some (z,c,d)=>Pc g z c.r c.c (d.r-c.r+1).toNat (d.c-c.c+1).toNat
 | none=>[]
structure Fy (dom:Str→Int→Int→Prop)(l:Lf)(z:Str)(c d:Mn):Prop where
 b:SV l=some (z,c,d)
 nm:Nm z
 r0:1≤c.r
 r1:c.r≤d.r
 r16:d.r≤16
 c0:1≤c.c
 c1:c.c≤d.c
 c8:d.c≤8
 dm:∀ i j:Int,c.r≤i→i≤d.r→c.c≤j→j≤d.c→dom z i j
def WX:Sp:=fun vs H Q _=>∃(v:V) (l:Lf) (z:Str) (c d:Mn),vs=[v]∧A7 H v (.lf l)∧SV l=some (z,c,d)∧∀ r,H r=none→Q (.ref r) (upd H r (.tup [.str z,.int c.r,.int c.c,.int d.r,.int d.c]))
theorem _root_.L2.Fun.okX {P:Program}{w:World}{K:PySem.W.Frag}{mg:Str→Option Value}{base:Heap}{x qual:Str}{st:Stmt}{f:Addr}{fd:FuncData}{N ps:List Str}{k:Nat}{sp:Sp}(F:Fun K x qual st f fd)(S:AW N ps (AL st))(len:∀ vs H Q E,sp vs H Q E→vs.length=ps.length)
 (hb:∀(cdv:Value) (A:Around) (outer:List Env) (s:Shared) (H:Hp) (vs:List V) (Q:VK) (E:XK),Ce k (A.deeper (PyProof.Rows.envOfC qual (AL st) s.heap.objs.size f cdv))→sp vs H Q E→∀ Z:Prop,((∃ t,MB (JR Bj P w K mg base N qual (AL st) f cdv A outer s H E).nox (Cp st) t∧t { nx:=fun _ H'=>Q .non H',rt:=Q } (Fl N vs) H)→Z)→Z):Av P w K mg base Bj (k+1) f fd ps sp:=F.ok S len fun cdv A outer s H vs Q E hr h=>hb cdv A outer s H vs Q E hr h _ id
theorem _root_.L2.Fun.okCX {P:Program}{w:World}{K:PySem.W.Frag}{mg:Str→Option Value}{base:Heap}{x qual:Str}{st:Stmt}{f:Addr}{fd:FuncData}{N ps:List Str}{k:Nat}{sp:Sp}(F:Fun K x qual st f fd)(S:AW N ps (AL st))(len:∀ vs H Q E,sp vs H Q E→vs.length=ps.length)
 (hb:∀(cdv:Value) (A:Around) (outer:List Env) (s:Shared) (H:Hp) (vs:List V) (Q:VK) (E:XK),fd.code=cdv→Ce k (A.deeper (PyProof.Rows.envOfC qual (AL st) s.heap.objs.size f cdv))→sp vs H Q E→∀ Z:Prop,((∃ t,MB (JR Bj P w K mg base N qual (AL st) f cdv A outer s H E).nox (Cp st) t∧t { nx:=fun _ H'=>Q .non H',rt:=Q } (Fl N vs) H)→Z)→Z):Av P w K mg base Bj (k+1) f fd ps sp:=F.okC S len fun cdv A outer s H vs Q E e hr h=>hb cdv A outer s H vs Q E e hr h _ id
def ZA (N:List Str)(sc:Scope)(i:Nat)(x:Str):Bool:=decide (N[i]?=some x)&&(decide (sc.names.lookup x=some .local)||(decide (sc.names.lookup x=some .cell)||decide (sc.names.lookup x=some .free)))&&!(x==("__debug__":Str))&&!(x==("__classdict__":Str))
theorem AH {X:Cx}(i:Nat){x:Str}{pos:Pos}(h:ZA X.N X.env.scope i x=true:=by kernel_rfl):PE X (.Name x pos) (GR i):=by
 simp only[ZA,Bool.and_eq_true,Bool.or_eq_true,decide_eq_true_eq,Bool.not_eq_true']at h
 exact P4 h.1.1.1 h.1.1.2 h.1.2 h.2
def ZB (N ps:List Str)(sc:Scope):Bool:=decide (sc.kind=.function)&&decide (sc.isCoroutine=false)&&decide (sc.isGenerator=false)&&decide N.Nodup&&decide (N.take ps.length=ps)&&decide (∀ x∈ps,sc.names.lookup x=some .local∨sc.names.lookup x=some .cell)&&decide (∀ y∈sc.names,y.2≠.free)
theorem A9 {N ps:List Str}{sc:Scope}(h:ZB N ps sc=true:=by kernel_rfl):AW N ps sc:=by
 simp only[ZB,Bool.and_eq_true,decide_eq_true_eq]at h
 obtain⟨⟨⟨⟨⟨⟨a,b⟩,c⟩,d⟩,e⟩,f⟩,g⟩:=h
 exact⟨a,b,c,d,e,f,g⟩
theorem BB {j k:Nat}{A:Around}(hr:Ce k A)(h:j≤k:=by decide):Ce j A:=hr.mono h
theorem A6 {CX:O2}{P:Program}{w:World}{K:PySem.W.Frag}{mg:Str→Option Value}{base:Heap}{N:List Str}{q:Str}{sc:Scope}{f:Addr}{cd:Value}{A:Around}{o:List Env}{s:Shared}{H:Hp}{E:XK}:(JR CX P w K mg base N q sc f cd A o s H E).nox.K=K:=rfl
theorem An {CX:O2}{P:Program}{w:World}{K:PySem.W.Frag}{mg:Str→Option Value}{base:Heap}{N:List Str}{q:Str}{sc:Scope}{f:Addr}{cd:Value}{A:Around}{o:List Env}{s:Shared}{H:Hp}{E:XK}:(JR CX P w K mg base N q sc f cd A o s H E).nox.mg=mg:=rfl
theorem Bg {i:Nat}{c x:V}{t Bv:TS}{D:Dj}{σ:St}{H:Hp}(e:σ[i]?=some (some x))(k:Bv D σ H)(hs:KK x c=true:=by rfl)(hn:decide (x=c)=false:=by kernel_rfl):Ie (LM (FT (MF P7 (GR i) (tC c))) t JN) Bv D σ H:=⟨_,e,hs,false,congrArg V.bl hn,Ah k⟩
theorem Gc {i:Nat}{c x:V}{te:TE}{u Bv:TS}{D:Dj}{σ:St}{H:Hp}(e:σ[i]?=some (some x))(k:te σ H D.rt)(hs:KK x c=true:=by rfl)(hn:decide (x=c)=true:=by kernel_rfl):Ie (LM (FT (MF P7 (GR i) (tC c))) (Rr te) u) Bv D σ H:=⟨_,e,hs,true,congrArg V.bl hn,Az k⟩
theorem RA {i:Nat}{c d x:V}{t Bv:TS}{D:Dj}{σ:St}{H:Hp}(e:σ[i]?=some (some x))(k:Bv D σ H)(hs:KK x c=true:=by rfl)(hn:decide (x=c)=false:=by kernel_rfl)(hs':KK x d=true:=by rfl)(hn':decide (x=d)=false:=by kernel_rfl):Ie (LM (Xn (FT (MF P7 (GR i) (tC c))) (FT (MF P7 (GR i) (tC d)))) t JN) Bv D σ H:=⟨_,e,hs,false,congrArg V.bl hn,Ah ⟨_,e,hs',false,congrArg V.bl hn',Ah k⟩⟩
theorem Uf {i:Nat}{c d x:V}{te:TE}{u Bv:TS}{D:Dj}{σ:St}{H:Hp}(e:σ[i]?=some (some x))(k:te σ H D.rt)(hs:KK x c=true:=by rfl)(hn:decide (x=c)=true:=by kernel_rfl):Ie (LM (Xn (FT (MF P7 (GR i) (tC c))) (FT (MF P7 (GR i) (tC d)))) (Rr te) u) Bv D σ H:=⟨_,e,hs,true,congrArg V.bl hn,Az (Az k)⟩
theorem Ug {i:Nat}{c d x:V}{te:TE}{u Bv:TS}{D:Dj}{σ:St}{H:Hp}(e:σ[i]?=some (some x))(k:te σ H D.rt)(hs:KK x c=true:=by rfl)(hn:decide (x=c)=false:=by kernel_rfl)(hs':KK x d=true:=by rfl)(hn':decide (x=d)=true:=by kernel_rfl):Ie (LM (Xn (FT (MF P7 (GR i) (tC c))) (FT (MF P7 (GR i) (tC d)))) (Rr te) u) Bv D σ H:=⟨_,e,hs,false,congrArg V.bl hn,Ah ⟨_,e,hs',true,congrArg V.bl hn',Az k⟩⟩
theorem RB {i:Nat}{c x:V}{t Bv:TS}{D:Dj}{σ:St}{H:Hp}(e:σ[i]?=some (some x))(a:decide (x=c)=true→∀ N,t { D with nx:=N } σ H)(b:¬ decide (x=c)=true→Bv D σ H)(hs:KK x c=true:=by rfl):Ie (LM (FT (MF P7 (GR i) (tC c))) t JN) Bv D σ H:=⟨_,e,hs,_,rfl,Ba (fun c=>a c _) b⟩
theorem S9 {i:Nat}{x y:Int}{g:Int→Int→Bool}{t Bv:TS}{D:Dj}{σ:St}{H:Hp}(e:σ[i]?=some (some (.int x)))(a:g x y=true→∀ N,t { D with nx:=N } σ H)(b:¬ g x y=true→Bv D σ H):Ie (LM (FT (MF (Rt fun i j=>.bl (g i j)) (GR i) (tC (.int y)))) t JN) Bv D σ H:=⟨_,e,_,_,rfl,rfl,_,rfl,Ba (fun c=>a c _) b⟩
theorem KR {K:PySem.W.Frag}{i j:Nat}{a:Addr}{x:V}{xs:List V}{Bv:TS}{D:Dj}{σ:St}{H:Hp}(e:σ[i]?=some (some (.ref a)))(h:Af K H a (x::xs))(k:Bv D (σ.set j (some x)) H):Ie (Rs (MF (Tt K) (GR i) (tC (.int 0))) (Ew j)) Bv D σ H:=⟨_,e,a,_,_,_,rfl,rfl,h,Ag,k⟩
theorem El {K:PySem.W.Frag}{i:Nat}{a:Addr}{x:V}{xs:List V}{t Bv:TS}{D:Dj}{σ:St}{H:Hp}(e:σ[i]?=some (some (.ref a)))(h:Ax K H a (x::xs))(k:Bv D σ H):Ie (LM (FT (MF P7 (YJ (fun xs H Q=>∃ p ys,xs=[V.ref p]∧(Ax K H p ys∨Af K H p ys)∧Q (V.int ys.length) H) (Ea (GR i) Vh)) (tC (.int 0)))) t JN) Bv D σ H:=⟨_,e,a,_,rfl,.inl h,rfl,false,(by simp;omega),Ah k⟩
theorem Bb {t u:TS}{D:Dj}{σ:St}{H:Hp}(x:∀ N:St→Hp→Prop,(∀ σ' H',u D σ' H'→N σ' H')→t { D with nx:=N } σ H):Ie t u D σ H:=x (u D) fun _ _ h=>h
theorem LG {G:Prop}(h:∀ X:Prop,(G→X)→X):G:=h G id
theorem Pe {α:Type}{us:List α}{w h:Nat}:(Dz us w h).length=h:=by unfold Dz;rw[List.length_map,List.length_range]
theorem Pf {α:Type}{us:List α}{w h i:Nat}(hi:i<h):(Dz us w h)[i]?=some ((us.drop (i*w)).take w):=by unfold Dz;rw[List.getElem?_map,List.getElem?_range hi];rfl
theorem Pg {w h:Nat}(hw:1≤w):FX ((h*w:Nat):Int) (w:Int)=h:=by
 unfold FX
 by_cases hh:h=0
 ·subst hh;simp
 ·have h1:0<h*w:=Nat.mul_pos (by omega) (by omega)
  rw[if_pos (by omega)]
  have e:(((h*w:Nat):Int)-1) / (w:Int)=((h*w-1) / w:Nat):=by
   rw[show((h*w:Nat):Int)-1=((h*w-1:Nat):Int)by omega];rfl
  rw[e]
  have e2:(h*w-1) / w=h-1:=by
   have:h*w-1=w*(h-1)+(w-1):=by
    obtain⟨k,rfl⟩:∃ k,h=k+1:=⟨h-1,by omega⟩
    rw[Nat.succ_mul,Nat.add_sub_cancel,Nat.mul_comm w k];omega
   rw[this,Nat.mul_add_div (by omega),Nat.div_eq_of_lt (by omega),Nat.add_zero]
  rw[e2];omega
theorem RC {xs:List V}{i j:Nat}(h:i+j≤xs.length):Gg xs (some ((i:Nat):Int)) (some ((i:Int)+(j:Int)))=(xs.drop i).take j:=by
 unfold Gg
 have e1:HT.Ig xs.length 0 (some ((i:Nat):Int))=i:=by unfold HT.Ig;simp;split <;> omega
 have e2:HT.Ig xs.length xs.length (some ((i:Int)+(j:Int)))=i+j:=by unfold HT.Ig;simp;split <;> omega
 rw[e1,e2,Nat.add_sub_cancel_left]
theorem BD.hd {H:Hp}{u:V}{v:Vl}(h:BD H u v):∃ q xs,u=.ref q∧H q=some (.tup (.str (tag v)::xs))∧Paired (ML H) (.str (tag v)::xs) (itm v):=by
 obtain⟨q,e,x⟩:=h
 obtain⟨xs,a,b⟩:=x.itm
 exact⟨q,xs,e,a,b⟩
theorem Fz {α β:Type}{F:α→β→Prop}:∀{xs:List α} {ys:List β},Paired F xs ys→∀{j:Nat} {y:β},ys[j]?=some y→∃ x,xs[j]?=some x∧F x y:=by
 intro A B h
 induction h with
 | nil=>
  intro j x e
  simp at e
 | cons r t ih=>
  intro j x e
  cases j with
  | zero=>
   simp at e
   subst e
   exact⟨_,rfl,r⟩
  | succ j=>
   obtain⟨y,h1,h2⟩:=ih (by simpa using e)
   exact⟨y,by simpa using h1,h2⟩
theorem Ph {us:List V}{ms:List Vl}{i:Nat}{u:V}{v:Vl}(h:us[i]?=some u)(g:ms[i]?=some v):E3 (us.drop i) (ms.drop i)=if Fe v=true then u else E3 (us.drop (i+1)) (ms.drop (i+1)):=by
 have hi:=(List.getElem?_eq_some_iff.mp h).1
 have gi:=(List.getElem?_eq_some_iff.mp g).1
 rw[List.drop_eq_getElem_cons hi,List.drop_eq_getElem_cons gi,E3]
 rw[List.getElem?_eq_getElem hi]at h
 rw[List.getElem?_eq_getElem gi]at g
 cases h;cases g;rfl
theorem HP.num_of {H:Hp}{p:Addr}{v:Vl}(h:HP H p v)(t:decide (V.str (tag v)=vS "number")=true):∃ a b,v=.num a b:=by
 cases v with
 | num a b=>exact⟨a,b,rfl⟩
 | none=>exact absurd t (by nofun)
 | txt z=>exact absurd t (by show ¬ decide (V.str (Str.ofString "text")=vS "number")=true;nofun)
 | tru b=>exact absurd t (by show ¬ decide (V.str (Str.ofString "truth")=vS "number")=true;nofun)
 | flt w z r c=>exact absurd t (by show ¬ decide (V.str (Str.ofString "fault")=vS "number")=true;nofun)
theorem Pi {v:Vl}{w:Nat}(t:¬ decide (V.str (tag v)=vS "number")=true):Dh v w=false:=by
 cases v with
 | num a b=>exact absurd (by show decide (V.str (Str.ofString "number")=vS "number")=true;nofun) t
 | none=>rfl
 | txt z=>rfl
 | tru b=>rfl
 | flt w z r c=>rfl
theorem Pj {k:Vl}{j i:Nat}{m:List (List Vl)}{r:List Vl}(h:m[i]?=some r):IC k j (m.drop i)=if KQ (r.headD .none) k=true then some (r.getD j .none)else IC k j (m.drop (i+1)):=by
 have hi:=(List.getElem?_eq_some_iff.mp h).1
 rw[List.drop_eq_getElem_cons hi,IC]
 rw[List.getElem?_eq_getElem hi]at h
 cases h;rfl
theorem CF {α:Type}{l:List α}(h:1≤l.length):∃ a t,l=a::t:=match l,h with | a::t,_=>⟨a,t,rfl⟩
theorem WY {k v:Vl}{m:List (List Vl)}{h:Hm}(c:Fe k=true):NE k m v h=k:=by unfold NE;rw[if_pos c]
theorem WZ {k v:Vl}{m:List (List Vl)}{h:Hm}(c:¬ Fe k=true)(d:Fe v=true):NE k m v h=v:=by unfold NE;rw[if_neg c,if_pos d]
theorem Wa {k v:Vl}{m:List (List Vl)}{h:Hm}(c:¬ Fe k=true)(d:¬ Fe v=true)(e:Dh v (m.headD []).length=false):NE k m v h=Jm "kind" h:=by unfold NE;rw[if_neg c,if_neg d,if_pos e]
theorem TB {k v:Vl}{m:List (List Vl)}{h:Hm}(c:¬ Fe k=true)(d:¬ Fe v=true)(e:Dh v (m.headD []).length=true):NE k m v h=(IC k (Jn v) m).getD (Jm "miss" h):=by unfold NE;rw[if_neg c,if_neg d,if_neg (by rw[e];simp)]
theorem Wb {k v:Vl}{m:List (List Vl)}{h:Hm}{x:Vl}(c:¬ Fe k=true)(d:¬ Fe v=true)(e:Dh v (m.headD []).length=true)(s:IC k (Jn v) m=some x):NE k m v h=x:=by rw[TB c d e,s];rfl
theorem Pk {v:Vl}{w:Nat}(h:Dh v w=true):∃ j:Nat,v=.num ((j:Int)+1) 1∧j<w∧Jn v=j:=by
 cases v with
 | num t b=>
  unfold Dh at h
  simp only[Bool.and_eq_true,decide_eq_true_eq]at h
  obtain⟨rfl,h1,h2⟩:=h
  refine⟨(t-1).toNat,?_,by omega,rfl⟩
  congr 1;omega
 | none=>cases h
 | txt z=>cases h
 | tru b=>cases h
 | flt w z r c=>cases h
theorem DP.flt {H:Hp}{y:V}{h:Hm}{w:String}(x:DP H y h){p:Addr}(hp:H p=none):BD (upd H p (.tup [vS "fault",vS w,y])) (.ref p) (Jm w h):=by
 obtain⟨q,rfl,hq⟩:=x
 exact⟨p,rfl,q,AE,AI.new hp _ _ hq⟩
theorem Ng {H:Hp}{a:Addr}{l:Lf}{z:Str}{c d:Mn}(h:FD H a l)(b:SV l=some (z,c,d)):∃ w q u r,H a=some (.tup (.str w::.str z::.ref q::r))∧(w=zS "cell"∨w=zS "range")∧H q=some (.tup (Fx c))∧H u=some (.tup (Fx d))∧
 ((r=[]∧q=u)∨r=[.ref u]):=by
 cases l with
 | cell s c'=>
  obtain⟨q,h1,h2⟩:=h
  cases s with
  | none=>cases b
  | some z'=>
   cases b
   exact⟨_,q,q,[],h1,.inl rfl,h2,h2,.inl ⟨rfl,rfl⟩⟩
 | rng s c' d'=>
  obtain⟨q,u,h1,h2,h3⟩:=h
  cases s with
  | none=>cases b
  | some z'=>
   cases b
   exact⟨_,q,u,[.ref u],h1,.inr rfl,h2,h3,.inr rfl⟩
 | val v=>cases b
 | cols s i x j y=>cases b
 | gone=>cases b
 | nam z=>cases b
 | par i=>cases b
 | flt=>cases b
def hd0 (m:List (List Vl)):Vl:=(m.headD []).headD .none
theorem Bm.hd0 {H:Hp}{u:V}{m:List (List Vl)}{w:Nat}(h:Bm H u m)(rc:Bp m w):∃ b us x0 rt b0 y,u=.ref b∧H b=some (.tup (.ref b0::us))∧H b0=some (.tup (y::rt))∧BD H y (hd0 m)∧x0=y:=by
 obtain⟨rows,⟨b,us,rfl,hb,pr⟩,vt⟩:=h
 obtain⟨m0,mt,rfl⟩:∃ a t,m=a::t:=by
  cases m with
  | nil=>exact absurd rfl rc.ne
  | cons a t=>exact⟨a,t,rfl⟩
 cases vt with
 | cons v0 vt'=>
  cases pr with
  | cons p0 pt=>
   obtain⟨b0,rfl,hb0⟩:=p0
   have w1:=rc.w1
   have l0:=rc.row m0 List.mem_cons_self
   obtain⟨y0,yt,rfl⟩:=CF (l:=m0) (by omega)
   cases v0 with
   | cons y ys=>exact⟨b,_,_,_,b0,_,rfl,hb,hb0,y,rfl⟩
def ZC (dom:Str→Int→Int→Prop)(f:Fm):Prop:=∃ l z c d,f=.lf l∧Fy dom l z c d
def Uh {B:Type}(At:Hp→V→B→Prop)(sem:Fm→B)(ok:Fm→Prop)(Dp:Hp→Prop):Sp:=fun vs H Q _=>∃(v:V) (f:Fm) (l:Addr) (us:List V) (n:Nat),vs=[v,.ref l]∧A7 H v f∧FO 0 n f∧ok f∧Dp H∧H l=some (.lst us)∧Paired (At H) us ((Ek f).map sem)∧∀ x H',At H' x (sem f)→AI H H'→Q x H'
def RE {B:Type}(f0:Addr)(At:Hp→V→B→Prop)(sem:Fm→B)(ok:Fm→Prop)(Dp:Hp→Prop):Sp:=fun vs H Q _=>∃(l:Addr) (f:Fm) (ws:List V) (n:Nat),vs=[.ref l,.ref f0]∧H l=some (.lst ws)∧CK H ws (Dy f)∧FO 0 n f∧n≤8∧(∀ g∈Dy f,ok g)∧Dp H∧∀ x H',At H' x (sem f)→AI H H'→Q x H'
theorem JF {H:Hp}{v:V}{l:Lf}(h:A7 H v (.lf l)):∃ a,v=.ref a∧FD H a l:=by
 cases h with | lf h=>exact⟨_,rfl,h⟩
section
variable {B:Type}(sem:Fm→B)
def Fa (st:List B)(g:Fm):List B:=st.take (st.length-(Ek g).length)++[sem g]
theorem Jo (st:List B)(g:Fm):Fa sem (st++(Ek g).map sem) g=st++[sem g]:=by
 unfold Fa
 rw[List.length_append,List.length_map,Nat.add_sub_cancel,List.take_left]
mutual
theorem Lk:∀(f:Fm) (st:List B),(Dy f).foldl (Fa sem) st=st++[sem f]
 | .lf l,st=>by
  rw[Dy,List.foldl_cons,List.foldl_nil]
  have:=Jo sem st (.lf l)
  rw[show Ek (.lf l)=[]from rfl,List.map_nil,List.append_nil]at this
  exact this
 | .nd k ps,st=>by
  rw[Dy,List.foldl_append,Ll ps st,List.foldl_cons,List.foldl_nil]
  exact Jo sem st (.nd k ps)
theorem Ll:∀(fs:List Fm) (st:List B),(FZ fs).foldl (Fa sem) st=st++fs.map sem
 | [],st=>by rw[FZ,List.map_nil,List.append_nil];rfl
 | f::fs,st=>by rw[FZ,List.foldl_append,Lk f st,Ll fs,List.map_cons,List.append_assoc];rfl
end
mutual
theorem RF:∀(f:Fm) (st:List B) (i:Nat) (g:Fm),(Dy f)[i]?=some g→∃ st',((Dy f).take i).foldl (Fa sem) st=st'++(Ek g).map sem
 | .lf l,st,i,g,h=>by
  rw[Dy]at h ⊢
  have hi:i<1:=(List.getElem?_eq_some_iff.mp h).1
  have h0:i=0:=by omega
  subst h0
  cases h
  exact⟨st,by rw[show Ek (.lf l)=[]from rfl,List.map_nil,List.append_nil];rfl⟩
 | .nd k ps,st,i,g,h=>by
  rw[Dy]at h ⊢
  by_cases c:i<(FZ ps).length
  ·rw[List.getElem?_append_left c]at h
   obtain⟨st',e⟩:=RG ps st i g h
   exact⟨st',by rw[List.take_append_of_le_length (by omega)];exact e⟩
  ·have hi:i<(FZ ps++[Fm.nd k ps]).length:=(List.getElem?_eq_some_iff.mp h).1
   rw[List.length_append,List.length_singleton]at hi
   have e:i=(FZ ps).length:=by omega
   subst e
   rw[List.getElem?_append_right (Nat.le_refl _),Nat.sub_self]at h
   cases h
   exact⟨st,by rw[List.take_left,Ll];rfl⟩
theorem RG:∀(fs:List Fm) (st:List B) (i:Nat) (g:Fm),(FZ fs)[i]?=some g→∃ st',((FZ fs).take i).foldl (Fa sem) st=st'++(Ek g).map sem
 | [],st,i,g,h=>by rw[FZ]at h;simp at h
 | f::fs,st,i,g,h=>by
  rw[FZ]at h ⊢
  by_cases c:i<(Dy f).length
  ·rw[List.getElem?_append_left c]at h
   obtain⟨st',e⟩:=RF f st i g h
   exact⟨st',by rw[List.take_append_of_le_length (by omega)];exact e⟩
  ·rw[List.getElem?_append_right (by omega)]at h
   obtain⟨st',e⟩:=RG fs (st++[sem f]) _ g h
   refine⟨st',?_⟩
   rw[List.take_append,List.take_of_length_le (by omega),List.foldl_append,Lk]
   exact e
end
theorem Pl (fs:List Fm)(st:List B):(fs.foldl (Fa sem) st).length≤st.length+fs.length:=by
 induction fs generalizing st with
 | nil=>exact Nat.le_refl _
 | cons f fs ih=>
  rw[List.foldl_cons,List.length_cons]
  have:=ih (Fa sem st f)
  have h2:(Fa sem st f).length≤st.length+1:=by unfold Fa;rw[List.length_append,List.length_take,List.length_singleton];omega
  omega
end
def qR:Str:=Str.ofString "reckoned"++Str.ofString ".<locals>."++Str.ofString "<lambda>"
theorem Ax.kl {K:PySem.W.Frag}{H H':Hp}{a p b:Addr}{ns:List Int}{r:List V}(h:Ax K H a (ns.map V.int))(hp:H p=some (.lst (.ref b::r)))(s:Aw p H H'):Ax K H' a (ns.map V.int):=by
 rcases h with(h | ⟨o,h⟩) | h
 ·exact .inl (.inl (s _ _ (BJ h hp (by intro z;injection z with z;cases ns <;> simp at z)) h))
 ·exact .inl (.inr ⟨o,s _ _ (BJ h hp (by intro z;cases z)) h⟩)
 ·exact .inr h
def Bd (K:PySem.W.Frag)(S:Addr×List Int)(H:Hp)(p:Addr)(k:Nat):Prop:=∃(b:Bool) (c r:Int),H p=some (.lst [.ref S.1,.bl b,.int c,.int r])∧Ax K H S.1 (S.2.map V.int)∧0≤c∧c≤k∧S.2.length≤63
section
variable {K:PySem.W.Frag}{S:Addr×List Int}{H H':Hp}{p D:Addr}{k n:Nat}
theorem Bd.same (h:Bd K S H p k)(s:AI H H'):Bd K S H' p k:=by
 obtain⟨b,c,r,e,q,z⟩:=h
 exact⟨b,c,r,s _ _ e,s.seq q,z⟩
theorem Bd.smd (h:Bd K S H p k)(s:DR H H'):Bd K S H' p k:=by
 obtain⟨b,c,r,e,q,z⟩:=h
 exact⟨b,c,r,s _ _ e rfl,s.seq q,z⟩
theorem Bd.mono (h:Bd K S H p k)(s:k≤n):Bd K S H p n:=by
 obtain⟨b,c,r,e,q,y,v,w⟩:=h
 exact⟨b,c,r,e,q,y,by omega,w⟩
theorem Bd.ob (h:Bd K S H p k):∃ vs,H p=some (.lst vs):=by
 obtain⟨_,_,_,e,_⟩:=h
 exact⟨_,e⟩
theorem Bd.ne (h:Bd K S H p k)(hD:H D=none):D≠p:=fun z=>by
 obtain⟨vs,e⟩:=h.ob
 rw[← z,hD]at e;cases e
theorem Bd.kp (h:Bd K S H p k)(s:Aw p H H'):Kp H H':=by
 obtain⟨_,e⟩:=h.ob
 exact Kp.lst e s
theorem Bd.put {o:HO}(h0:Bd K S H p k)(hD:H D=none)(h:Bd K S H' p n):Bd K S (upd H' D o) p n:=by
 have ne:=h0.ne hD
 obtain⟨_,_,_,_,q0,_⟩:=h0
 obtain⟨b,c,r,e,q,z⟩:=h
 refine⟨b,c,r,by rw[AX (Ne.symm ne)];exact e,?_,z⟩
 rcases q0 with(q0 | ⟨o0,q0⟩) | q0
 ·have na:=AZ q0 hD
  rcases q with(q | ⟨o1,q⟩) | q
  ·exact .inl (.inl (by rw[AX na];exact q))
  ·exact .inl (.inr ⟨o1,by rw[AX na];exact q⟩)
  ·exact .inr q
 ·have na:=AZ q0 hD
  rcases q with(q | ⟨o1,q⟩) | q
  ·exact .inl (.inl (by rw[AX na];exact q))
  ·exact .inl (.inr ⟨o1,by rw[AX na];exact q⟩)
  ·exact .inr q
 ·exact .inr q0
end
def Wc (K:PySem.W.Frag):Sp:=fun vs H Q _=>∃(a:Addr) (ns:List Int) (k:Int),vs=[.ref a,.int k]∧Ax K H a (ns.map V.int)∧0≤k∧∀ v:Int,Q (.int v) H
def Wd (K:PySem.W.Frag):Sp:=fun vs H Q _=>∃(a:Addr) (ns:List Int),vs=[.ref a]∧Ax K H a (ns.map V.int)∧ns.length≤63∧∀(p:Addr) (H':Hp),H p=none→Bd K (a,ns) H' p 0→AI H H'→Q (.ref p) H'
def We (K:PySem.W.Frag):Sp:=fun vs H Q _=>∃(p:Addr) (m:Int) (k:Nat) (S:Addr×List Int),vs=[.ref p,.int m]∧0<m∧Sz 4000 m∧Bd K S H p k∧k≤10000000∧∀(r:Int) (H':Hp),0≤r→r<m→Bd K S H' p (k+1)→Aw p H H'→Q (.int r) H'
def Wf:Sp:=fun vs H Q _=>∃ t b:Int,vs=[.int t,.int b]∧1≤b∧Sz 4000 b∧∀ q,H q=none→Q (.ref q) (upd H q (.tup [vS "number",.int (CP t b),.int (CB t b)]))
def Wg (K:PySem.W.Frag):Sp:=fun vs H Q _=>∃(p:Addr) (k:Nat) (S:Addr×List Int),vs=[.ref p]∧Bd K S H p k∧k≤9000000∧∀(q:Addr) (h:Hm) (H':Hp),H' q=some (.tup [.str h.z,.int h.r,.int h.c])→Nm h.z→1≤h.r→h.r≤16→1≤h.c→h.c≤8→Bd K S H' p (k+3)→Aw p H H'→Q (.ref q) H'
def Wh (K:PySem.W.Frag):Sp:=fun vs H Q _=>∃(p:Addr) (k:Nat) (S:Addr×List Int),vs=[.ref p]∧Bd K S H p k∧k≤8000000∧∀(u:V) (v:Vl) (H':Hp),BD H' u v→Ap v→Bd K S H' p (k+8)→Aw p H H'→Q u H'
theorem ZD {x y:V}{r:Int}(h0:0≤r)(h1:r<2):∃ v,Gh [x,y] r=some v∧(v=x∨v=y):=by
 have:r=0∨r=1:=by omega
 rcases this with rfl | rfl
 ·exact⟨_,rfl,.inl rfl⟩
 ·exact⟨_,rfl,.inr rfl⟩
theorem ZE {xs:List V}{r:Int}(h0:0≤r)(h1:r<(xs.length:Int)):∃ v,Gh xs r=some v∧v∈xs:=by
 obtain⟨j,rfl⟩:∃ j:Nat,r=(j:Int):=⟨r.toNat,by omega⟩
 have hj:j<xs.length:=by omega
 exact⟨xs[j],DK (List.getElem?_eq_getElem hj),List.getElem_mem hj⟩
theorem Xy {K:PySem.W.Frag}{S:Addr×List Int}{H H':Hp}{p l:Addr}{k:Nat}{o:HO}(h:Bd K S H p k)(hl:H l=none)(s:Aw p (upd H l o) H'):H' l=some o∧Aw p H H':=
 ⟨s _ _ (h.ne hl) AE,(AI.keep (AI.new hl)).trans s⟩
theorem Yr:Nm (Str.ofString "b"):=Qz (by nofun)
theorem SW:Nm (Str.ofString "main"):=Qz (by nofun)
theorem Lm {t b:Int}(hb:1≤b)(h1:t.natAbs<10 ^ 30)(h2:b.natAbs<10 ^ 30):Ap (.num (CP t b) (CB t b)):=
 ⟨DL (by omega),Nat.lt_of_le_of_lt (Ji t b (by omega)) h1,Nat.lt_of_le_of_lt (Jj t b (by omega)) h2⟩
theorem SX {H:Hp}{q:Addr}{x y:Int}:BD (upd H q (.tup [vS "number",.int x,.int y])) (.ref q) (.num x y):=⟨q,rfl,AE⟩
theorem Gk {t:Int}(h1:t.natAbs<10 ^ 30):Ap (.num t 1):=⟨Ld,h1,by decide⟩
theorem ZW:(10:Int) ^ (28:Int).toNat=10000000000000000000000000000:=by nofun
theorem p9:(10:Int) ^ (9:Int).toNat=1000000000:=by nofun
theorem ZX:(10:Int) ^ (30:Int).toNat=1000000000000000000000000000000:=by nofun
theorem SY:(10:Nat) ^ 30=1000000000000000000000000000000:=by nofun
theorem Pm {x:Int}(h0:-1000000000000000000000000000000≤x)(h1:x≤1000000000000000000000000000000):Sz 4000 x:=by
 refine Sz.mono (m:=100) ?_ (by decide)
 unfold Sz
 have:(2:Nat) ^ 100=1267650600228229401496703205376:=by nofun
 omega
def Wi (K:PySem.W.Frag):Sp:=fun vs H Q _=>∃(p:Addr) (k:Nat) (S:Addr×List Int),vs=[.ref p]∧Bd K S H p k∧k≤8500000∧∀(u:V) (v:Vl) (H':Hp),BD H' u v→Ap v→Bd K S H' p (k+4)→Aw p H H'→Q u H'
def Ln:List V:=[vS "",vS "a",vS "ab",vS "b c",vS "12",vS "0",vS "abcdefghij klmnopqrs",vS "z"]
theorem Nh:∀ v∈Ln,∃ z,v=.str z∧Ap (.txt z):=by
 have h:∀ z∈["","a","ab","b c","12","0","abcdefghij klmnopqrs","z"].map Str.ofString,z.length≤20∧∀ c∈z.cps.toList,c∈(Str.ofString "abcdefghijklmnopqrstuvwxyz0123456789 ").cps.toList:=by nofun
 intro v hv
 have e:Ln=(["","a","ab","b c","12","0","abcdefghij klmnopqrs","z"].map Str.ofString).map V.str:=rfl
 rw[e]at hv
 obtain⟨z,hz,rfl⟩:=List.mem_map.mp hv
 exact⟨z,rfl,h z hz⟩
theorem Ni {v:V}(h:v∈Ct.map V.str):∃ w,v=.str w∧w∈Ct:=by
 obtain⟨z,hz,rfl⟩:=List.mem_map.mp h
 exact⟨z,rfl,hz⟩
abbrev Mp (H:Hp)(bs:List Addr)(rows:List (List V)):Prop:=Paired (fun b row=>H b=some (HO.lst row)) bs rows
def Xz (m:List (List Vl))(w:Nat):Prop:=∀ r∈m,r.length=w∧∀ v∈r,Ap v
structure Wj (H:Hp)(p l:Addr)(bs:List Addr)(rows:List (List V))(m:List (List Vl)):Prop where
 ob:H l=some (.lst (bs.map V.ref))
 nd:bs.Nodup
 np:p∉bs
 nl:l∉bs
 lp:l≠p
 ls:Mp H bs rows
 vt:By H rows m
theorem Nj {α β:Type}{F G:α→β→Prop}:∀{xs:List α} {ys:List β},Paired F xs ys→(∀ x y,x∈xs→F x y→G x y)→Paired G xs ys:=by
 intro A B h
 induction h with
 | nil=>
  intro _
  exact .nil
 | cons r t ih=>
  intro h
  exact .cons (h _ _ List.mem_cons_self r) (ih fun x y hx=>h x y (List.mem_cons_of_mem _ hx))
def Wk (K:PySem.W.Frag):Sp:=fun vs H Q _=>∃(p:Addr) (h w:Nat) (k:Nat) (S:Addr×List Int),vs=[.ref p,.int h,.int w]∧1≤h∧h≤6∧1≤w∧w≤6∧Bd K S H p k∧k≤5000000∧∀(l:Addr) (bs:List Addr) (rows:List (List V)) (m:List (List Vl)) (H':Hp),H l=none→(∀ b∈bs,H b=none)→Wj H' p l bs rows m→m.length=h→Xz m w→Bd K S H' p (k+400)→Aw p H H'→Q (.ref l) H'
theorem Aw.fresh {p D:Addr}{H H':Hp}(s:Aw p H H')(hp:D≠p)(h:H' D=none):H D=none:=by
 cases e:H D with
 | none=>rfl
 | some o=>rw[s _ _ hp e]at h;cases h
theorem CQ {H:Hp}{D:Addr}{us vs:List V}(h:H D=some (.lst us)):Kp H (upd H D (.lst vs)):=Kp.lst h Aw.upd
abbrev cK (z:Str)(r c:Int):List BC:=[.inr z,.inl r,.inl c]
theorem Ui {z:Str}{r c r' c':Int}(h:cK z r c=cK z r' c'):r=r'∧c=c':=by
 injection h with _ h;injection h with h1 h2;injection h2 with h2 _
 injection h1 with h1;injection h2 with h2
 exact⟨h1,h2⟩
def Ff (kvs:List (List BC×V))(z:Str)(hi wi:Int)(rows:List (List V))(i j:Nat):Prop:=
 ∀(a b:Nat) (row:List V) (v:V),rows[a]?=some row→row[b]?=some v→(a<i∨(a=i∧b<j))→CA kvs (cK z (hi+a+1) (wi+b+1))=some v
def Ii (kvs kvs':List (List BC×V))(z:Str):Prop:=∀ key:List BC,key.head?≠some (.inr z)→CA kvs' key=CA kvs key
theorem Ff.next {kvs:List (List BC×V)}{z:Str}{hi wi:Int}{rows:List (List V)}{i j:Nat}{row:List V}{v:V}(h:Ff kvs z hi wi rows i j)(hr:rows[i]?=some row)(hv:row[j]?=some v):
 Ff (FB kvs (cK z (hi+i+1) (wi+j+1)) v) z hi wi rows i (j+1):=by
 intro a b row' v' h1 h2 h3
 rw[Jd]
 by_cases e:cK z (hi+a+1) (wi+b+1)=cK z (hi+i+1) (wi+j+1)
 ·rw[if_pos e]
  obtain⟨e1,e2⟩:=Ui e
  have ea:a=i:=by omega
  have eb:b=j:=by omega
  subst ea eb
  rw[hr]at h1;cases h1
  rw[hv]at h2;exact h2
 ·rw[if_neg e]
  refine h a b row' v' h1 h2 ?_
  rcases h3 with h3 | ⟨rfl,h3⟩
  ·exact .inl h3
  ·rcases Nat.lt_succ_iff_lt_or_eq.mp h3 with q | q
   ·exact .inr ⟨rfl,q⟩
   ·subst q;exact absurd rfl e
theorem Ff.row {kvs:List (List BC×V)}{z:Str}{hi wi:Int}{rows:List (List V)}{i j:Nat}{row:List V}(h:Ff kvs z hi wi rows i j)(hr:rows[i]?=some row)(hj:row.length≤j):Ff kvs z hi wi rows (i+1) 0:=by
 intro a b row' v' h1 h2 h3
 refine h a b row' v' h1 h2 ?_
 rcases h3 with h3 | ⟨_,h3⟩
 ·rcases Nat.lt_succ_iff_lt_or_eq.mp h3 with q | q
  ·exact .inl q
  ·subst q
   rw[hr]at h1;cases h1
   have:=(List.getElem?_eq_some_iff.mp h2).1
   exact .inr ⟨rfl,by omega⟩
 ·omega
theorem Ii.put {kvs kvs':List (List BC×V)}{z:Str}{r c:Int}{v:V}(h:Ii kvs kvs' z):Ii kvs (FB kvs' (cK z r c) v) z:=fun key hk=>by
 rw[Jd,if_neg (fun e=>hk (by rw[e];rfl))]
 exact h key hk
theorem Bd.kx {K:PySem.W.Frag}{S:Addr×List Int}{H H':Hp}{p kn:Addr}{k:Nat}{kvs:List (List BC×V)}(h:Bd K S H p k)(hk:H kn=some (.dT kvs))(s:Aw kn H H'):Bd K S H' p k:=by
 obtain⟨b,c,r,e,q,z⟩:=h
 refine⟨b,c,r,s _ _ (BJ e hk (by intro z;cases z)) e,?_,z⟩
 rcases q with(q | ⟨o,q⟩) | q
 ·exact .inl (.inl (s _ _ (BJ q hk (by intro z;cases z)) q))
 ·exact .inl (.inr ⟨o,s _ _ (BJ q hk (by intro z;cases z)) q⟩)
 ·exact .inr q
inductive Tr where
 | bl (b:Bool) | int (i:Int) | str (z:Str) | tup (ts:List Tr)
inductive EW (H:Hp):V→Tr→Nat→Prop where
 | bl (b:Bool) (n:Nat):EW H (.bl b) (.bl b) n
 | int (i:Int) (n:Nat):EW H (.int i) (.int i) n
 | str (z:Str) (n:Nat):EW H (.str z) (.str z) n
 | tup {a:Addr} {us:List V} {ts:List Tr} {n:Nat} (e:H a=some (.tup us)) (hl:us.length≤100) (hn:us.length=ts.length) (hh:∀(j:Nat) (u:V) (t:Tr),us[j]?=some u→ts[j]?=some t→EW H u t n):EW H (.ref a) (.tup ts) (n+1)
theorem EW.kp {H H':Hp}{v:V}{t:Tr}{n:Nat}(h:EW H v t n)(s:Kp H H'):EW H' v t n:=by
 induction h with
 | bl b n=>exact .bl b n
 | int i n=>exact .int i n
 | str z n=>exact .str z n
 | tup e hl hn _ ih=>exact .tup (s _ _ e) hl hn ih
theorem EW.ofP {H:Hp}{a:Addr}{us:List V}{ts:List Tr}{n:Nat}(e:H a=some (.tup us))(hl:us.length≤100)(p:Paired (fun u t=>EW H u t n) us ts):EW H (.ref a) (.tup ts) (n+1):=by
 refine .tup e hl (Paired.length p) fun j u t h1 h2=>?_
 obtain⟨t',h3,h4⟩:=Ar p h1
 rw[h2]at h3
 rw[Option.some.inj h3]
 exact h4
def VN:Vl→Tr
 | .none=>.tup [.str (Str.ofString "none")]
 | .num t b=>.tup [.str (Str.ofString "number"),.int t,.int b]
 | .txt z=>.tup [.str (Str.ofString "text"),.str z]
 | .tru b=>.tup [.str (Str.ofString "truth"),.bl b]
 | .flt w z r c=>.tup [.str (Str.ofString "fault"),.str w,.tup [.str z,.int r,.int c]]
theorem BD.tr {H:Hp}{u:V}{v:Vl}(h:BD H u v):EW H u (VN v) 2:=by
 obtain⟨q,rfl,h⟩:=h
 cases v with
 | none=>exact .ofP h (by simp) (.cons (.str _ _) .nil)
 | num t b=>exact .ofP h (by simp) (.cons (.str _ _) (.cons (.int _ _) (.cons (.int _ _) .nil)))
 | txt z=>exact .ofP h (by simp) (.cons (.str _ _) (.cons (.str _ _) .nil))
 | tru b=>exact .ofP h (by simp) (.cons (.str _ _) (.cons (.bl _ _) .nil))
 | flt w z r c=>
  obtain⟨p,h1,h2⟩:=h
  exact .ofP h1 (by simp) (.cons (.str _ _) (.cons (.str _ _) (.cons (.ofP (n:=0) h2 (by simp) (.cons (.str _ _) (.cons (.int _ _) (.cons (.int _ _) .nil)))) .nil)))
def Wl (n:Nat):Sp:=fun vs H Q _=>∃(u v:V) (tr:Tr),vs=[u,v]∧EW H u tr n∧EW H v tr n∧∀ H',AI H H'→Q (.bl true) H'
theorem RH (n:Nat):(List.replicate n true).all id=true:=by simp
def few (i:Int):Bool:=decide ((if i<0 then -i else i)≤999999999999999999999999999999)
theorem JG {i:Int}:few i=true↔i.natAbs<10 ^ 30:=by
 unfold few
 rw[decide_eq_true_eq,SY,Lb]
 omega
def KS (t b:Int)(h:Hm):Vl:=if(few t&&few b)=true then .num t b else Jm "great" h
def Ec:Vl→Option (Int×Int)
 | .none=>some (0,1)
 | .num t b=>some (t,b)
 | _=>none
def Wm (H:Hp)(x:V):Option (Int×Int)→Prop
 | some n=>∃ p,x=.ref p∧H p=some (.tup [.int n.1,.int n.2])
 | none=>x=.non
def Uj:Sp:=fun vs H Q _=>∃ i:Int,vs=[.int i]∧Q (.bl (few i)) H
def Wn:Sp:=fun vs H Q _=>∃ t b:Int,vs=[.int t,.int b]∧Nd t b∧Q (.bl (few t&&few b)) H
def Ys (K:PySem.W.Frag)(H:Hp)(u:V)(v:Vl):Prop:=BD H u v∨(v=.num 0 1∧∃ q,u=.ref q∧∀ H',Af K H' q [vS "number",.int 0,.int 1])
def Wo (K:PySem.W.Frag):Sp:=fun vs H Q _=>∃(u:V) (v:Vl),vs=[u]∧Ys K H u v∧∀ x H',Wm H' x (Ec v)→AI H H'→Q x H'
def Wp:Sp:=fun vs H Q _=>∃(p:Addr) (t b:Int) (y:V) (hm:Hm),vs=[.ref p,y]∧H p=some (.tup [.int t,.int b])∧Nd t b∧DP H y hm∧∀ x H',BD H' x (KS t b hm)→AI H H'→Q x H'
theorem ID {v:Vl}{n:Int×Int}(ok:Ap v)(h:Ec v=some n):Nd n.1 n.2∧n.1.natAbs<10 ^ 30∧n.2.natAbs<10 ^ 30:=by
 cases v with
 | none=>cases h;exact⟨Ld,by decide,by decide⟩
 | num t b=>cases h;exact ok
 | txt z=>cases h
 | tru b=>cases h
 | flt w z r c=>cases h
theorem OT {t b:Int}{h:Hm}(l:Nd t b)(nm:Nm h.z)(h1:1≤h.r)(h2:h.r≤16)(h3:1≤h.c)(h4:h.c≤8):Ap (KS t b h):=by
 unfold KS
 split
 ·rename_i e
  rw[Bool.and_eq_true]at e
  exact⟨l,JG.mp e.1,JG.mp e.2⟩
 ·exact⟨by nofun,nm,h1,h2,h3,h4⟩
def Wq (s:Str)(a b:Int×Int)(h:Hm):Vl:=
 if s=Str.ofString "+" then KS (CP (a.1*b.2+b.1*a.2) (a.2*b.2)) (CB (a.1*b.2+b.1*a.2) (a.2*b.2)) h
 else if s=Str.ofString "-" then KS (CP (a.1*b.2-b.1*a.2) (a.2*b.2)) (CB (a.1*b.2-b.1*a.2) (a.2*b.2)) h
 else if s=Str.ofString "*" then KS (CP (a.1*b.1) (a.2*b.2)) (CB (a.1*b.1) (a.2*b.2)) h
 else if s=Str.ofString "/" then(if b.1=0 then Jm "nought" h else KS (CP (a.1*b.2) (a.2*b.1)) (CB (a.1*b.2) (a.2*b.1)) h)
 else .tru (decide (a.1*b.2<b.1*a.2))
def Wr:Sp:=fun vs H Q _=>∃(s:Str) (p q:Addr) (a b:Int×Int) (y:V) (hm:Hm),vs=[.str s,.ref p,.ref q,y]∧Fw H p a.1 a.2 100∧Fw H q b.1 b.2 100∧DP H y hm∧∀ x H',BD H' x (Wq s a b hm)→AI H H'→Q x H'
theorem Nk {s:Str}{z:String}:decide (V.str s=vS z)=decide (s=Str.ofString z):=by
 by_cases h:s=Str.ofString z
 ·subst h;simp
 ·rw[decide_eq_false h,decide_eq_false (fun e=>h (by injection e))]
theorem TC {x:Int}(h:x.natAbs<10 ^ 30):Sz 100 x:=by
 unfold Sz
 have:(10:Nat) ^ 30≤2 ^ 100:=by nofun
 omega
def SZ:Vl→Str
 | .txt z=>z
 | v=>OP v
def ZY:Str:=Str.ofString "abcdefghijklmnopqrstuvwxyz0123456789 "
def Nl (z:Str):Bool:=!decide ((20:Int)<(z.length:Int))&&(z.cps.toList.map fun c=>decide (c∈ZY.cps.toList)).all id
def Uk:Sp:=fun vs H Q _=>∃ z:Str,vs=[.str z]∧z.length≤1000∧∀ H',AI H H'→Q (.bl (Nl z)) H'
def Ws:Sp:=fun vs H Q _=>∃(u:V) (v:Vl),vs=[u]∧BD H u v∧Ap v∧∀ H',AI H H'→Q (.str (SZ v)) H'
def OU (a b:Vl)(h:Hm):Vl:=if Nl (SZ a++SZ b)=true then .txt (SZ a++SZ b)else Jm "kind" h
def Wt:Sp:=fun vs H Q _=>∃(u v y:V) (a b:Vl) (hm:Hm),vs=[u,v,y]∧BD H u a∧BD H v b∧Ap a∧Ap b∧DP H y hm∧∀ x H',BD H' x (OU a b hm)→AI H H'→Q x H'
theorem OV {v:Vl}(ok:Ap v):(SZ v).length≤100:=by
 cases v with
 | txt z=>exact Nat.le_trans ok.1 (by decide)
 | none=>exact Nat.le_trans (HN ok) (by decide)
 | num t b=>exact Nat.le_trans (HN ok) (by decide)
 | tru b=>exact Nat.le_trans (HN ok) (by decide)
 | flt w z r c=>exact Nat.le_trans (HN ok) (by decide)
def Nn (s:Str)(a b:Vl):Option Bool:=if s=Str.ofString "<" then(match a,b with | .txt x,.txt y=>some (decide (x.cps.toList<y.cps.toList)) | _,_=>none)else none
def Gd (s:Str)(a b:Vl)(h:Hm):Vl:=match Ec a,Ec b with
 | some m,some n=>Wq s m n h
 | _,_=>Jm "kind" h
def TD (o:Option Bool)(v:Vl):Vl:=match o with
 | some t=>.tru t
 | none=>v
def Mq (s:Str)(a b:Vl)(h:Hm):Vl:=
 if Fe a=true then a else if Fe b=true then b
 else if s=Str.ofString "=" then .tru (KQ a b)
 else if s=Str.ofString "&" then OU a b h
 else TD (Nn s a b) (Gd s a b h)
theorem OW {s:Str}{a b:Vl}(h:¬ s=Str.ofString "<"):Nn s a b=none:=if_neg h
theorem Ul {s:Str}{a b:Vl}(h:¬ decide (V.str (tag a)=vS "text")=true):Nn s a b=none:=by
 unfold Nn
 split
 ·cases a with
  | txt z=>exact absurd (by show decide (V.str (Str.ofString "text")=vS "text")=true;nofun) h
  | none=>rfl
  | num t b=>rfl
  | tru b=>rfl
  | flt w z r c=>rfl
 ·rfl
theorem Um {s:Str}{a b:Vl}(h:¬ decide (V.str (tag b)=vS "text")=true):Nn s a b=none:=by
 unfold Nn
 split
 ·cases b with
  | txt z=>exact absurd (by show decide (V.str (Str.ofString "text")=vS "text")=true;nofun) h
  | none=>cases a <;> rfl
  | num t b=>cases a <;> rfl
  | tru b=>cases a <;> rfl
  | flt w z r c=>cases a <;> rfl
 ·rfl
theorem OX {a:Vl}(h:decide (V.str (tag a)=vS "text")=true):∃ z,a=.txt z:=by
 cases a with
 | txt z=>exact⟨z,rfl⟩
 | none=>exact absurd h (by show ¬ decide (V.str (Str.ofString "none")=vS "text")=true;nofun)
 | num t b=>exact absurd h (by show ¬ decide (V.str (Str.ofString "number")=vS "text")=true;nofun)
 | tru b=>exact absurd h (by show ¬ decide (V.str (Str.ofString "truth")=vS "text")=true;nofun)
 | flt w z r c=>exact absurd h (by show ¬ decide (V.str (Str.ofString "fault")=vS "text")=true;nofun)
theorem FF {H:Hp}{p:Addr}{v:Vl}{n:Int×Int}(ok:Ap v)(e:Ec v=some n)(h:H p=some (.tup [.int n.1,.int n.2])):Fw H p n.1 n.2 100:=by
 obtain⟨l,h1,h2⟩:=ID ok e
 exact⟨h,l,TC h1,TC h2⟩
def Pn (K:PySem.W.Frag)(s:Str)(hm:Hm)(H:Hp)(u v:V)(r:Vl):Prop:=(∃ a b,BD H u a∧BD H v b∧Ap a∧Ap b∧r=Mq s a b hm)∨
 (s=Str.ofString "-"∧(∃ q,u=.ref q∧∀ H',Af K H' q [vS "number",.int 0,.int 1])∧∃ b,BD H v b∧Ap b∧r=Mq s (.num 0 1) b hm)
theorem Pn.kp {K:PySem.W.Frag}{s:Str}{hm:Hm}{H H':Hp}{u v:V}{r:Vl}(h:Pn K s hm H u v r)(k:Kp H H'):Pn K s hm H' u v r:=by
 rcases h with⟨a,b,x,y,z⟩ | ⟨e,c,b,y,z⟩
 ·exact .inl ⟨a,b,x.kp k,y.kp k,z⟩
 ·exact .inr ⟨e,c,b,y.kp k,z⟩
def Wu (K:PySem.W.Frag):Sp:=fun vs H Q _=>∃(s:Str) (u v y:V) (r:Vl) (hm:Hm),vs=[.str s,u,v,y]∧Pn K s hm H u v r∧DP H y hm∧∀ x H',BD H' x r→AI H H'→Q x H'
abbrev Sh:=Option (Int×Int)
abbrev VO (p:Int×Int):List V:=[.int p.1,.int p.2]
def IE (K:PySem.W.Frag)(H:Hp)(v:V):Sh→Prop
 | none=>v=.non
 | some p=>∃ a,v=.ref a∧Af K H a (VO p)
theorem IE.same {K:PySem.W.Frag}{H H':Hp}{v:V}{s:Sh}(h:IE K H v s)(q:AI H H'):IE K H' v s:=by
 cases s with
 | none=>exact h
 | some p=>obtain⟨a,e,h⟩:=h;exact⟨a,e,Af.sm h q⟩
def Rm (a b:Int×Int):Sh:=if a=b then some a else if b=(1,1)then some a else if a=(1,1)then some b else none
theorem Sa (p q:Int×Int):(if false=true then !E9 (VO p) (VO q)else E9 (VO p) (VO q))=decide (p=q):=by
 obtain⟨a,b⟩:=p
 obtain⟨c,d⟩:=q
 have e:∀ x y:Int,(x==y)=decide (x=y):=fun _ _=>rfl
 simp[E9,JU,VO,e]
def Wv (K:PySem.W.Frag):Sp:=fun vs H Q _=>∃(u v:V) (a b:Int×Int),vs=[u,v]∧IE K H u (some a)∧IE K H v (some b)∧∀ r H',IE K H' r (Rm a b)→AI H H'→Q r H'
def X0 (m:List (List V)):V:=(m.headD []).headD .non
theorem Bk.row0 {H:Hp}{u:V}{rows:List (List V)}{w:Nat}(h:Bk H u rows)(rc:Bp rows w):∃ b us b0 rt,u=.ref b∧H b=some (.tup (.ref b0::us))∧us.length+1=rows.length∧H b0=some (.tup (X0 rows::rt))∧rt.length+1=w:=by
 obtain⟨b,us,rfl,hb,pr⟩:=h
 obtain⟨m0,mt,rfl⟩:∃ a t,rows=a::t:=by
  cases rows with
  | nil=>exact absurd rfl rc.ne
  | cons a t=>exact⟨a,t,rfl⟩
 have l1:=Paired.length pr
 have w1:=rc.w1
 have l0:=rc.row m0 List.mem_cons_self
 obtain⟨y0,yt,rfl⟩:=CF (l:=m0) (by omega)
 cases pr with
 | cons p0 pt=>
  obtain⟨b0,rfl,hb0⟩:=p0
  exact⟨b,_,b0,yt,rfl,hb,by simpa using l1,hb0,by simpa using l0⟩
def Mr {α:Type}(h w:Nat)(v:α):List (List α):=List.replicate h (List.replicate w v)
theorem FG {α β:Type}{F:α→β→Prop}{x:α}{y:β}(h:F x y):∀ n:Nat,Paired F (List.replicate n x) (List.replicate n y)
 | 0=>.nil
 | n+1=>.cons h (FG h n)
def Ww:Sp:=fun vs H Q _=>∃(x:V) (m:List (List V)) (w:Nat),vs=[x]∧Bk H x m∧Bp m w∧∀ r,H r=none→Q (.ref r) (upd H r (.tup [.int m.length,.int w]))
def Wx (K:PySem.W.Frag):Sp:=fun vs H Q _=>∃(p u:V) (h w:Nat),vs=[p,u]∧IE K H p (some (h,w))∧1≤h∧h≤1000∧1≤w∧w≤1000∧∀ x H',Bk H' x (Mr h w u)→AI H H'→Q x H'
def GS (m:List (List V))(w h2 w2:Nat):List (List V):=if(m.length,w)=(1,1)then Mr h2 w2 (X0 m)else m
def TF (K:PySem.W.Frag):Sp:=fun vs H Q _=>∃(x p:V) (m:List (List V)) (w h2 w2:Nat),vs=[x,p]∧Bk H x m∧Bp m w∧IE K H p (some (h2,w2))∧1≤h2∧h2≤1000∧1≤w2∧w2≤1000∧∀ y H',Bk H' y (GS m w h2 w2)→AI H H'→Q y H'
def Wy:Sp:=fun vs H Q _=>∃(x:V) (m:List (List V)) (w:Nat),vs=[x]∧Bk H x m∧Bp m w∧w≤30∧m.length≤30∧∀ l H',H l=none→H' l=some (.lst m.flatten)→AI H H'→Q (.ref l) H'
theorem CL {α:Type}{m:List (List α)}{w:Nat}(h:∀ r∈m,r.length=w):m.flatten.length=m.length*w:=by
 induction m with
 | nil=>simp
 | cons r m ih=>
  rw[List.flatten_cons,List.length_append,ih fun x hx=>h x (List.mem_cons_of_mem _ hx),h r List.mem_cons_self,List.length_cons,Nat.succ_mul]
  omega
theorem RI:bootBuiltins "zip"=some (.type "zip"):=by nofun
def TH (K:PySem.W.Frag):Sp:=fun vs H Q _=>∃(s:Str) (x y z:V) (m n:List (List V)) (w1 w2 h w:Nat) (hm:Hm) (rs:List Vl),vs=[.str s,x,y,z]∧Bk H x m∧Bk H y n∧Bp m w1∧Bp n w2∧
 Rm ((m.length:Int),(w1:Int)) ((n.length:Int),(w2:Int))=some ((h:Int),(w:Int))∧(GS m w1 h w).length=h∧Bp (GS m w1 h w) w∧(GS n w2 h w).length=h∧Bp (GS n w2 h w) w∧1≤h∧h≤30∧1≤w∧w≤30∧DP H z hm∧rs.length=h*w∧
 (∀(i:Nat) (u v:V) (r:Vl),(GS m w1 h w).flatten[i]?=some u→(GS n w2 h w).flatten[i]?=some v→rs[i]?=some r→Pn K s hm H u v r)∧∀ u H',Bm H' u (Dz rs w h)→AI H H'→Q u H'
theorem GM {m:List (List Vl)}(h:∀ r∈m,∀ v∈r,Ap v):∀ v∈m.flatten,Ap v:=fun v hv=>by
 obtain⟨r,hr,hv'⟩:=List.mem_flatten.mp hv
 exact h r hr v hv'
def Jp (H:Hp)(us:List V)(ns:List (Int×Int)):Prop:=Paired (fun u (n:Int×Int)=>∃ p,u=.ref p∧H p=some (.tup [.int n.1,.int n.2])) us ns
theorem Jp.kp {H H':Hp}{us:List V}{ns:List (Int×Int)}(h:Jp H us ns)(s:Kp H H'):Jp H' us ns:=Paired.imp' (fun _ _ ⟨p,e,x⟩=>⟨p,e,s _ _ x⟩) h
def cy {α:Type}(d:α)(m:List (List α))(j k:Nat):α:=(m.getD (j%m.length) []).getD (k%(m.headD []).length) d
def CC {α:Type}(f:Nat→Nat→α)(h w:Nat):List (List α):=(List.range h).map fun j=>(List.range w).map (f j)
abbrev wd {α:Type}(m:List (List α)):Nat:=(m.headD []).length
theorem Cu {α:Type}{f:Nat→Nat→α}{h w:Nat}:(CC f h w).length=h:=by unfold CC;rw[List.length_map,List.length_range]
theorem GN {α:Type}{f:Nat→Nat→α}{h w:Nat}(h1:1≤h)(w1:1≤w):Bp (CC f h w) w:=by
 refine⟨fun z=>?_,w1,fun r hr=>?_⟩
 ·have:=congrArg List.length z
  rw[Cu]at this
  simp at this;omega
 ·obtain⟨j,_,rfl⟩:=List.mem_map.mp hr
  rw[List.length_map,List.length_range]
theorem RJ {α:Type}{f:Nat→Nat→α}{h w j:Nat}(hj:j<h):(CC f h w)[j]?=some ((List.range w).map (f j)):=by
 unfold CC;rw[List.getElem?_map,List.getElem?_range hj];rfl
theorem Bp.wd {α:Type}{m:List (List α)}{w:Nat}(h:Bp m w):(m.headD []).length=w:=by
 cases m with
 | nil=>exact absurd rfl h.ne
 | cons a t=>exact h.row a List.mem_cons_self
theorem Bp.len {α:Type}{m:List (List α)}{w:Nat}(h:Bp m w):1≤m.length:=by
 cases m with
 | nil=>exact absurd rfl h.ne
 | cons a t=>simp
theorem Jq {α:Type}(f:Nat→Nat→α)(w:Nat)(hw:1≤w):∀ h:Nat,(CC f h w).flatten=(List.range (h*w)).map fun i=>f (i / w) (i%w)
 | 0=>by simp[CC]
 | h+1=>by
  have ih:=Jq f w hw h
  unfold CC at ih ⊢
  rw[List.range_succ,List.map_append,List.flatten_append,ih,Nat.succ_mul,List.range_add,List.map_append,List.map_map]
  congr 1
  rw[List.map_cons,List.map_nil,List.flatten_cons,List.flatten_nil,List.append_nil]
  refine List.map_congr_left fun k hk=>?_
  have hk':k<w:=List.mem_range.mp hk
  show f h k=f ((h*w+k) / w) ((h*w+k)%w)
  rw[Nat.mul_comm h w,Nat.mul_add_div (by omega),Nat.div_eq_of_lt hk',Nat.add_zero,Nat.mul_add_mod,Nat.mod_eq_of_lt hk']
theorem LH {α:Type}(f:Nat→Nat→α){w:Nat}(hw:1≤w)(h:Nat):Dz ((List.range (h*w)).map fun i=>f (i / w) (i%w)) w h=CC f h w:=by
 unfold Dz CC
 refine List.map_congr_left fun j hj=>?_
 have hj':j<h:=List.mem_range.mp hj
 refine List.ext_getElem? fun k=>?_
 by_cases hk:k<w
 ·rw[List.getElem?_take,if_pos hk,List.getElem?_drop,List.getElem?_map,List.getElem?_map,List.getElem?_range hk]
  have:j*w+k<h*w:=by
   have:=Nat.mul_le_mul_right w (show j+1≤h from hj')
   rw[Nat.succ_mul]at this
   omega
  rw[List.getElem?_range this]
  show some (f ((j*w+k) / w) ((j*w+k)%w))=some (f j k)
  rw[Nat.mul_comm j w,Nat.mul_add_div (by omega),Nat.div_eq_of_lt hk,Nat.add_zero,Nat.mul_add_mod,Nat.mod_eq_of_lt hk]
 ·rw[List.getElem?_take,if_neg hk,List.getElem?_eq_none (by rw[List.length_map,List.length_range];omega)]
theorem RK {α:Type}(d:α){m:List (List α)}{w:Nat}(rc:Bp m w):CC (cy d m) m.length w=m:=by
 refine List.ext_getElem? fun j=>?_
 by_cases hj:j<m.length
 ·rw[RJ hj,List.getElem?_eq_getElem hj]
  refine congrArg some (List.ext_getElem? fun k=>?_)
  have lm:=rc.row _ (List.getElem_mem hj)
  by_cases hk:k<w
  ·rw[List.getElem?_map,List.getElem?_range hk,List.getElem?_eq_getElem (by omega)]
   refine congrArg some ?_
   show(m.getD (j%m.length) []).getD (k%(m.headD []).length) d=_
   rw[rc.wd,Nat.mod_eq_of_lt hj,Nat.mod_eq_of_lt hk,List.getD_eq_getElem?_getD,List.getD_eq_getElem?_getD,List.getElem?_eq_getElem hj,Option.getD_some,List.getElem?_eq_getElem (by omega),Option.getD_some]
  ·rw[List.getElem?_eq_none (by rw[List.length_map,List.length_range];omega),List.getElem?_eq_none (by omega)]
 ·rw[List.getElem?_eq_none (by rw[Cu];omega),List.getElem?_eq_none (by omega)]
theorem Ms {α:Type}(f:Nat→Nat→α)(x:α)(h w:Nat)(e:∀ j k,f j k=x):CC f h w=Mr h w x:=by
 unfold CC Mr
 rw[show(fun j=>(List.range w).map (f j))=fun _=>List.replicate w x from funext fun j=>by
  rw[show f j=fun _=>x from funext (e j),List.map_const',List.length_range],List.map_const',List.length_range]
theorem Lo {m:List (List V)}{w h2 w2:Nat}(rc:Bp m w)(c:(m.length=h2∧w=w2)∨(m.length=1∧w=1)):GS m w h2 w2=CC (cy .non m) h2 w2:=by
 by_cases e:(m.length,w)=(1,1)
 ·unfold GS
  rw[if_pos e]
  have e1:m.length=1:=congrArg Prod.fst e
  have e2:w=1:=congrArg Prod.snd e
  refine(Ms _ _ _ _ fun j k=>?_).symm
  show(m.getD (j%m.length) []).getD (k%(m.headD []).length) .non=(m.headD []).headD .non
  rw[rc.wd,e1,e2,Nat.mod_one,Nat.mod_one]
  cases m with
  | nil=>rfl
  | cons a t=>cases a <;> rfl
 ·unfold GS
  rw[if_neg e]
  rcases c with⟨rfl,rfl⟩ | ⟨c1,c2⟩
  ·exact(RK _ rc).symm
  ·exact absurd (by rw[c1,c2]) e
theorem Dr {α β:Type}{F:α→β→Prop}{d:α}{d':β}{m:List (List α)}{n:List (List β)}{w:Nat}(p:Paired (Paired F) m n)(rc:Bp n w)(j k:Nat):F (cy d m j k) (cy d' n j k):=by
 have l1:=Paired.length p
 have hn:=rc.len
 have hj:j%n.length<n.length:=Nat.mod_lt _ (by omega)
 obtain⟨r,hr,pr⟩:=Fz p (List.getElem?_eq_getElem hj)
 have lw:=rc.row _ (List.getElem_mem hj)
 have w1:=rc.w1
 have hk:k%w<(n[j%n.length]).length:=by rw[lw];exact Nat.mod_lt _ (by omega)
 obtain⟨x,hx,fx⟩:=Fz pr (List.getElem?_eq_getElem hk)
 have wm:(m.headD []).length=w:=by
  rw[← rc.wd]
  cases p with
  | nil=>exact absurd rfl rc.ne
  | cons a _=>exact Paired.length a
 unfold cy
 rw[l1,wm,rc.wd,List.getD_eq_getElem?_getD (l:=m),hr,Option.getD_some,List.getD_eq_getElem?_getD (l:=r),hx,Option.getD_some,List.getD_eq_getElem?_getD (l:=n),List.getElem?_eq_getElem hj,Option.getD_some,List.getD_eq_getElem?_getD,List.getElem?_eq_getElem hk,Option.getD_some]
 exact fx
theorem BE {α β:Type}{F:α→β→Prop}{m:List (List α)}{n:List (List β)}{w:Nat}(p:Paired (Paired F) m n)(rc:Bp n w):Bp m w:=by
 refine⟨fun z=>?_,rc.w1,fun r hr=>?_⟩
 ·have:=Paired.length p
  have:=rc.len
  rw[z]at *;simp at *;omega
 ·obtain⟨j,hj⟩:=List.getElem?_of_mem hr
  obtain⟨mr,hmr,pv⟩:=Ar p hj
  rw[Paired.length pv];exact rc.row mr (List.mem_of_getElem? hmr)
def RL {α β:Type}(m:List (List α))(n:List (List β)):Prop:=(m.length=n.length∧wd m=wd n)∨(n.length=1∧wd n=1)∨(m.length=1∧wd m=1)
def Sb (s:Str)(m n:List (List Vl))(hm:Hm):List (List Vl):=CC (fun j k=>Mq s (cy .none m j k) (cy .none n j k) hm) (max m.length n.length) (max (wd m) (wd n))
theorem Wz {a b:Nat}(h:b=1)(g:1≤a):max a b=a:=Nat.max_eq_left (h▸g)
theorem W0 {a b:Nat}(h:a=1)(g:1≤b):max a b=b:=Nat.max_eq_right (h▸g)
theorem Sc {a b c d:Nat}(ft:(a=c∧b=d)∨(c=1∧d=1)∨(a=1∧b=1))(a1:1≤a)(b1:1≤b)(c1:1≤c)(d1:1≤d):((a=max a c∧b=max b d)∨(a=1∧b=1))∧((c=max a c∧d=max b d)∨(c=1∧d=1))∧Rm ((a:Int),(b:Int)) ((c:Int),(d:Int))=some (((max a c:Nat):Int),((max b d:Nat):Int)):=by
 rcases ft with⟨rfl,rfl⟩ | ⟨rfl,rfl⟩ | ⟨rfl,rfl⟩
 ·rw[Nat.max_self,Nat.max_self]
  exact⟨.inl ⟨rfl,rfl⟩,.inl ⟨rfl,rfl⟩,if_pos rfl⟩
 ·rw[Wz rfl a1,Wz rfl b1]
  refine⟨.inl ⟨rfl,rfl⟩,.inr ⟨rfl,rfl⟩,?_⟩
  unfold Rm
  split
  ·rfl
  ·exact if_pos rfl
 ·rw[W0 rfl c1,W0 rfl d1]
  refine⟨.inr ⟨rfl,rfl⟩,.inl ⟨rfl,rfl⟩,?_⟩
  unfold Rm
  split
  ·rename_i e;rw[e]
  ·split
   ·rename_i e;rw[e];rfl
   ·exact if_pos rfl
theorem W1 {K:PySem.W.Frag}{H:Hp}{s:Str}{x y z:V}{hm:Hm}{mu nu:List (List V)}{m n:List (List Vl)}{w1 w2:Nat}{Q:VK}{E:XK}(hx:Bk H x mu)(hy:Bk H y nu)(rm:Bp mu w1)(rn:Bp nu w2)(lm:mu.length=m.length)(ln:nu.length=n.length)(wm:wd m=w1)(wn:wd n=w2)(ft:RL m n)
 (b1:m.length≤30) (b2:n.length≤30) (b3:w1≤30) (b4:w2≤30) (hz:DP H z hm) (key:∀ j k,Pn K s hm H (cy .non mu j k) (cy .non nu j k) (Mq s (cy .none m j k) (cy .none n j k) hm)) (k:∀ w H',Bm H' w (Sb s m n hm)→AI H H'→Q w H'):TH K [.str s,x,y,z] H Q E:=by
 have g1:=rm.len;have g2:=rn.len;have g3:=rm.w1;have g4:=rn.w1
 obtain⟨cm,cn,fit'⟩:=Sc (a:=mu.length) (b:=w1) (c:=nu.length) (d:=w2) (by rw[lm,ln,← wm,← wn];exact ft) g1 g3 g2 g4
 obtain⟨h,hh⟩:∃ h,h=max mu.length nu.length:=⟨_,rfl⟩
 obtain⟨w,hw⟩:∃ w,w=max w1 w2:=⟨_,rfl⟩
 have hT:Sb s m n hm=CC (fun j k=>Mq s (cy .none m j k) (cy .none n j k) hm) h w:=by unfold Sb;rw[hh,hw,lm,ln,wm,wn]
 have h1:1≤h:=hh▸Nat.le_trans g1 (Nat.le_max_left _ _)
 have w1':1≤w:=hw▸Nat.le_trans g3 (Nat.le_max_left _ _)
 have h3:h≤30:=hh▸Nat.max_le.mpr ⟨lm▸b1,ln▸b2⟩
 have w3:w≤30:=hw▸Nat.max_le.mpr ⟨b3,b4⟩
 rw[← hh,← hw]at cm cn fit'
 rw[hT]at k
 have em:=Lo (h2:=h) (w2:=w) rm cm
 have en:=Lo (h2:=h) (w2:=w) rn cn
 refine⟨s,x,y,z,mu,nu,w1,w2,h,w,hm,(List.range (h*w)).map fun i=>Mq s (cy .none m (i / w) (i%w)) (cy .none n (i / w) (i%w)) hm,rfl,hx,hy,rm,rn,fit',by rw[em,Cu],by rw[em];exact GN h1 w1',by rw[en,Cu],by rw[en];exact GN h1 w1',h1,by omega,w1',by omega,hz,by rw[List.length_map,List.length_range],fun i u v r q1 q2 q3=>?_,fun u H' hu s'=>k u H' ?_ s'⟩
 ·have hi:i<h*w:=by
   have:=(List.getElem?_eq_some_iff.mp q3).1
   rwa [List.length_map,List.length_range]at this
  rw[em,Jq _ _ w1',List.getElem?_map,List.getElem?_range hi]at q1
  rw[en,Jq _ _ w1',List.getElem?_map,List.getElem?_range hi]at q2
  rw[List.getElem?_map,List.getElem?_range hi]at q3
  cases q1;cases q2;cases q3
  exact key _ _
 ·rw[← LH _ w1' h]
  exact hu
theorem HQ {m:List (List Vl)}{w:Nat}(rc:Bp m w)(h:∀ r∈m,∀ v∈r,Ap v)(j k:Nat):Ap (cy .none m j k):=by
 have hn:=rc.len
 have w1:=rc.w1
 have hj:j%m.length<m.length:=Nat.mod_lt _ (by omega)
 have lw:=rc.row _ (List.getElem_mem hj)
 have hk:k%w<(m[j%m.length]).length:=by rw[lw];exact Nat.mod_lt _ (by omega)
 unfold cy
 rw[rc.wd,List.getD_eq_getElem?_getD,List.getD_eq_getElem?_getD,List.getElem?_eq_getElem hj,Option.getD_some,List.getElem?_eq_getElem hk,Option.getD_some]
 exact h _ (List.getElem_mem hj) _ (List.getElem_mem hk)
theorem RM {α:Type}{d x:α}(j k:Nat):cy d [[x]] j k=x:=by
 unfold cy
 rw[show([[x]]:List (List α)).length=1 from rfl,show(([[x]]:List (List α)).headD []).length=1 from rfl,Nat.mod_one,Nat.mod_one]
 rfl
theorem TJ {α:Type}(u:α):Bp [[u]] 1:=⟨by simp,by decide,fun r hr=>by rw[List.mem_singleton.mp hr];rfl⟩
theorem TK {H:Hp}{a t:Addr}{kd:Kd}{u:V}{f:Fm}(h:H a=some (.tup (Pa t kd [u])))(no:Jl kd=false)(x:A7 H u f):A7 H (.ref a) (.nd kd [f]):=
 .nd h (fun z=>by rw[no]at z;cases z) rfl fun j u' f' e1 e2=>by
  match j with
  | 0=>cases e1;cases e2;exact x
  | n+1=>simp at e1
theorem VP {H:Hp}{a t:Addr}{kd:Kd}{u v:V}{f g:Fm}(h:H a=some (.tup (Pa t kd [u,v])))(no:Jl kd=false)(x:A7 H u f)(y:A7 H v g):A7 H (.ref a) (.nd kd [f,g]):=
 .nd h (fun z=>by rw[no]at z;cases z) rfl fun j u' f' e1 e2=>by
  match j with
  | 0=>cases e1;cases e2;exact x
  | 1=>cases e1;cases e2;exact y
  | n+2=>simp at e1
theorem VQ {H:Hp}{a t:Addr}{kd:Kd}{u v w:V}{f g k:Fm}(h:H a=some (.tup (Pa t kd [u,v,w])))(no:Jl kd=false)(x:A7 H u f)(y:A7 H v g)(z:A7 H w k):A7 H (.ref a) (.nd kd [f,g,k]):=
 .nd h (fun z=>by rw[no]at z;cases z) rfl fun j u' f' e1 e2=>by
  match j with
  | 0=>cases e1;cases e2;exact x
  | 1=>cases e1;cases e2;exact y
  | 2=>cases e1;cases e2;exact z
  | n+3=>simp at e1
structure D3 (H:Hp)(p:Addr)(l:Addr)(bs:List Addr)(rows:List (List V))(h w:Nat):Prop where
 ob:H l=some (.lst (bs.map V.ref))
 lp:l≠p
 np:p∉bs
 ls:Mp H bs rows
 len:rows.length=h
 h1:1≤h
 h16:h≤16
 w1:1≤w
 w8:w≤8
 row:∀ r∈rows,r.length=w
def E4 (p q:Addr)(H H':Hp):Prop:=∀ b o,b≠p→b≠q→H b=some o→H' b=some o
theorem E4.of {p q:Addr}{H H':Hp}(s:AI H H'):E4 p q H H':=fun b o _ _ e=>s b o e
theorem E4.trans {p q:Addr}{H H1 H2:Hp}(a:E4 p q H H1)(b:E4 p q H1 H2):E4 p q H H2:=fun c o h1 h2 e=>b c o h1 h2 (a c o h1 h2 e)
theorem E4.kp {p q:Addr}{H H':Hp}{vs:List V}{kvs:List (List BC×V)}(s:E4 p q H H')(hp:H p=some (.lst vs))(hq:H q=some (.dT kvs)):Kp H H':=fun a xs e=>s a _ (BJ e hp (by intro z;cases z)) (BJ e hq (by intro z;cases z)) e
def HR (H:Hp)(kvs:List (List BC×V))(z:Str)(rows:List (List V))(h w:Nat)(u:V):Prop:=∃(a:Addr) (lf:Lf) (c d:Mn) (hi wi:Int),u=.ref a∧FD H a lf∧SV lf=some (z,c,d)∧c.r=hi+1∧c.c=wi+1∧d.r=hi+h∧d.c=wi+w∧0≤hi∧hi+h≤16∧0≤wi∧wi+w≤8∧Ff kvs z hi wi rows h 0
theorem Ff.els {kvs kvs':List (List BC×V)}{z z':Str}{hi wi:Int}{rows:List (List V)}{i j:Nat}(h:Ff kvs z hi wi rows i j)(e:Ii kvs kvs' z')(n:z≠z'):Ff kvs' z hi wi rows i j:=fun a b row v h1 h2 h3=>by
 rw[e _ (fun q=>n (by injection q with q;injection q))]
 exact h a b row v h1 h2 h3
theorem HR.step {H H':Hp}{kvs kvs':List (List BC×V)}{z z':Str}{rows:List (List V)}{h w:Nat}{u:V}(x:HR H kvs z rows h w u)(kp:Kp H H')(e:Ii kvs kvs' z')(n:z≠z'):HR H' kvs' z rows h w u:=by
 obtain⟨a,lf,c,d,hi,wi,h1,h2,h3,h4,h5,h6,h7,h8,h9,h10,h11,h12⟩:=x
 exact⟨a,lf,c,d,hi,wi,h1,FD.kp h2 kp,h3,h4,h5,h6,h7,h8,h9,h10,h11,h12.els e n⟩
theorem HR.kp {H H':Hp}{kvs:List (List BC×V)}{z:Str}{rows:List (List V)}{h w:Nat}{u:V}(x:HR H kvs z rows h w u)(kp:Kp H H'):HR H' kvs z rows h w u:=by
 obtain⟨a,lf,c,d,hi,wi,h1,h2,r⟩:=x
 exact⟨a,lf,c,d,hi,wi,h1,FD.kp h2 kp,r⟩
structure Dt where
 z:Str
 l:Addr
 bs:List Addr
 rows:List (List V)
 h:Nat
 w:Nat
def Sd (H H':Hp):Prop:=∀ b o,H b=some o→Yq o=false→H' b=some o
theorem Do {H H':Hp}{P:Addr}{q:Str}(x:BN H P q)(s:Sd H H'):BN H' P q:=by
 obtain⟨ps,e,t,k⟩:=x
 refine⟨ps,s _ _ e rfl,t,fun pos cv z=>?_⟩
 obtain⟨c,e1,e2⟩:=k pos cv z
 exact⟨c,e1,e2.keep fun b o h=>s b _ h rfl⟩
theorem Sd.kx {H H':Hp}{p:Addr}{vs:List V}(hp:H p=some (.lst vs))(s:Aw p H H'):Sd H H':=fun b o e d=>s b o (fun z=>by subst z;rw[hp]at e;cases e;cases d) e
def qL:Str:=Str.ofString "law"++Str.ofString ".<locals>."++Str.ofString "<lambda>"
structure ZZ (K:PySem.W.Frag)(S:Addr×List Int)(PR PL:Addr)(H:Hp)(p:Addr)(n:Nat):Prop where
 pen:Bd K S H p n
 tR:BN H PR qR
 tL:BN H PL qL
theorem HS {q:Str}{P:Addr}{H H':Hp}(h:Aw P (L2.del q H) H'):Aw P H (L2.put q H H'):=fun b o hb e=>by
 cases w:kn q (H b)with
 | none=>rw[Cs w];exact h b o hb (by rw[HI w];exact e)
 | some u=>
  rw[LZ w]
  rw[HH w]at e
  exact e
theorem CD {H H':Hp}{P P':Addr}{q:Str}{ps:Array Value}(x:BN H P q)(ne:P≠P')(hp:H P'=some (.tbl ps))(s:Aw P' H H'):BN H' P q:=by
 obtain⟨ps',e,t,k⟩:=x
 refine⟨ps',s _ _ ne e,t,fun pos cv z=>?_⟩
 obtain⟨c,e1,e2⟩:=k pos cv z
 exact⟨c,e1,e2.keep fun b o h=>s _ _ (BJ h hp (by intro z;cases z)) h⟩
theorem JH {H:Hp}{P:Addr}{q q':Str}(x:BN H P q)(n:(q==q')=false):BN (L2.del q' H) P q:=by
 obtain⟨ps',e,t,k⟩:=x
 refine⟨ps',Hy e rfl,t,fun pos cv z=>?_⟩
 obtain⟨c,e1,o,vs,tk,e2,d,w⟩:=k pos cv z
 exact⟨c,e1,o,vs,tk,by rw[HI (UF e2 ((MY d w).trans n))];exact e2,d,w⟩
theorem HU {H H':Hp}{P:Addr}{q q':Str}(x:BN H' P q)(n:∀ b o,kn q' (H b)=some o→H' b=none):BN (L2.put q' H H') P q:=by
 have po:∀ b o,H' b=some o→L2.put q' H H' b=some o:=fun b o e=>by
  cases w:kn q' (H b)with
  | none=>rw[Cs w];exact e
  | some u=>rw[n b u w]at e;cases e
 exact x.sm po
def IV (kn:Addr)(dom:Str→Int→Int→Prop)(g:Str→Int→Int→Vl)(H:Hp):Prop:=∃ kvs,H kn=some (.dT kvs)∧∀ z r c,dom z r c→∃ x,CA kvs (cK z r c)=some x∧BD H x (g z r c)
theorem IV.smd {kn:Addr}{dom:Str→Int→Int→Prop}{g:Str→Int→Int→Vl}{H H':Hp}(s:DR H H')(h:IV kn dom g H):IV kn dom g H':=by
 obtain⟨kvs,e,k⟩:=h
 refine⟨kvs,s _ _ e rfl,fun z r c d=>?_⟩
 obtain⟨x,h1,h2⟩:=k z r c d
 exact⟨x,h1,h2.kp s.kp⟩
theorem OY {dom:Str→Int→Int→Prop}{lf:Lf}{z:Str}{c d:Mn}{hi wi:Int}{h w:Nat}(b:SV lf=some (z,c,d))(nm:Nm z)(k7:c.r=hi+1)(k8:c.c=wi+1)(k9:d.r=hi+h)(k10:d.c=wi+w)(k11:0≤hi)(k12:hi+h≤16)(k13:0≤wi)(k14:wi+w≤8)(h1:1≤h)(w1:1≤w)
 (dm:∀ i j:Int,hi+1≤i→i≤hi+h→wi+1≤j→j≤wi+w→dom z i j):Fy dom lf z c d:=
 ⟨b,nm,by omega,by omega,by omega,by omega,by omega,by omega,fun i j x1 x2 x3 x4=>dm i j (by omega) (by omega) (by omega) (by omega)⟩
theorem Uo {g:Str→Int→Int→Vl}{lf:Lf}{z:Str}{c d:Mn}{hi wi:Int}{h w:Nat}(b:SV lf=some (z,c,d))(k7:c.r=hi+1)(k8:c.c=wi+1)(k9:d.r=hi+h)(k10:d.c=wi+w):Rl g lf=Pc g z (hi+1) (wi+1) h w:=by
 unfold Rl
 rw[b]
 dsimp only
 rw[k7,k8,k9,k10,show(hi+h-(hi+1)+1).toNat=h by omega,show(wi+w-(wi+1)+1).toNat=w by omega]
theorem W2 {dom:Str→Int→Int→Prop}{lf:Lf}{z:Str}{c d:Mn}(h:Fy dom lf z c d):WO 0 lf:=by
 have g1:=h.r0;have g2:=h.r1;have g3:=h.r16;have g4:=h.c0;have g5:=h.c1;have g6:=h.c8;have nm:=h.nm;have b:=h.b
 cases lf with
 | cell s c'=>
  cases s with
  | none=>cases b
  | some z'=>cases b;exact⟨nm,⟨g1,by omega,g4,by omega⟩⟩
 | rng s c' d'=>
  cases s with
  | none=>cases b
  | some z'=>cases b;exact⟨nm,⟨g1,by omega,g4,by omega⟩,⟨by omega,g3,by omega,g6⟩,g2,g5⟩
 | val v=>cases b
 | cols s i x j y=>cases b
 | gone=>cases b
 | nam z=>cases b
 | par i=>cases b
 | flt=>cases b
def Lp (s n:Int×Int):Int×Int:=(s.1*n.2+n.1*s.2,s.2*n.2)
def Ed (l:List (Int×Int)):Int×Int:=l.foldl Lp (0,1)
def Sm (c:Int→Int)(l:List (Int×Int)):Int:=(l.map fun n=>n.1*c n.2).sum
theorem RN {l:List (Int×Int)}{n:Int×Int}:Ed (l++[n])=Lp (Ed l) n:=by unfold Ed;rw[List.foldl_append];rfl
theorem RO {c:Int→Int}{B:Int}:∀(l:List (Int×Int)) (s:Int×Int) (X:Int),(∀ n∈l,n.2*c n.2=B)→s.1*B=X*s.2→(l.foldl Lp s).1*B=(X+Sm c l)*(l.foldl Lp s).2
 | [],s,X,_,h=>by simp[Sm,h]
 | n::t,s,X,hc,h=>by
  rw[List.foldl_cons]
  have hn:=hc n List.mem_cons_self
  have:=RO t (Lp s n) (X+n.1*c n.2) (fun m hm=>hc m (List.mem_cons_of_mem _ hm)) (by
   show(s.1*n.2+n.1*s.2)*B=(X+n.1*c n.2)*(s.2*n.2)
   calc (s.1*n.2+n.1*s.2)*B=(s.1*B)*n.2+n.1*s.2*B:=by rw[Int.add_mul];congr 1;rw[Int.mul_assoc,Int.mul_assoc,Int.mul_comm n.2 B]
    _=(X*s.2)*n.2+n.1*s.2*(n.2*c n.2):=by rw[h,hn]
    _=(X+n.1*c n.2)*(s.2*n.2):=by
     rw[Int.add_mul]
     congr 1
     ·rw[Int.mul_assoc]
     ·ac_rfl)
  rw[this]
  congr 1
  unfold Sm
  rw[List.map_cons,List.sum_cons]
  omega
theorem TL {c:Int→Int}{B:Int}{l:List (Int×Int)}(h:∀ n∈l,n.2*c n.2=B):(Ed l).1*B=Sm c l*(Ed l).2:=by
 have:=RO l (0,1) 0 h (by simp)
 rw[Int.zero_add]at this
 exact this
theorem Mt:∀(l:List (Int×Int)) (s:Int×Int),(∀ n∈l,0<n.2)→0<s.2→0<(l.foldl Lp s).2
 | [],_,_,h=>h
 | n::t,s,hc,h=>by
  rw[List.foldl_cons]
  exact Mt t _ (fun m hm=>hc m (List.mem_cons_of_mem _ hm)) (Int.mul_pos h (hc n List.mem_cons_self))
theorem HV {l:List (Int×Int)}(h:∀ n∈l,0<n.2):0<(Ed l).2:=Mt l _ h (by decide)
def FH:List (Int×Int)→Int→Int→List (Int×Int)
 | [],b,v=>[(b,v)]
 | (k,s)::r,b,v=>if k=b then(k,v)::r else(k,s)::FH r b v
def CW:List (Int×Int)→Int→Option Int
 | [],_=>none
 | (k,s)::r,b=>if k=b then some s else CW r b
def sw (d:Int×Int):Int×Int:=(d.2,d.1)
def dK (ds:List (Int×Int)):List (BC×V):=ds.map fun d=>(Sum.inl d.1,V.int d.2)
theorem Lq:∀(ds:List (Int×Int)) (b:Int),CA (dK ds) (.inl b:BC)=(CW ds b).map V.int
 | [],b=>rfl
 | (k,s)::r,b=>by
  have ih:=Lq r b
  unfold CW
  by_cases e:k=b
  ·rw[if_pos e]
   exact Bx (p:=((.inl k:BC),V.int s)) (by rw[e])
  ·rw[if_neg e,← ih]
   exact Bo (p:=((.inl k:BC),V.int s)) (fun z=>e (Sum.inl.inj z))
theorem Mu:∀(ds:List (Int×Int)) (b v:Int),(ds.map (·.1)).Nodup→((FH ds b v).map (·.1)).Nodup∧∀ x,x∈(FH ds b v).map (·.1)→x=b∨x∈ds.map (·.1)
 | [],b,v,_=>⟨by simp[FH],by simp[FH]⟩
 | (k,s)::r,b,v,nd=>by
  rw[List.map_cons,List.nodup_cons]at nd
  obtain⟨h1,h2⟩:=Mu r b v nd.2
  unfold FH
  by_cases e:k=b
  ·rw[if_pos e]
   refine⟨by rw[List.map_cons,List.nodup_cons];exact nd,fun x hx=>.inr ?_⟩
   simpa using hx
  ·rw[if_neg e]
   refine⟨?_,fun x hx=>?_⟩
   ·rw[List.map_cons,List.nodup_cons]
    refine⟨fun z=>?_,h1⟩
    rcases h2 _ z with z | z
    ·exact e z
    ·exact nd.1 z
   ·rw[List.map_cons,List.mem_cons]at hx
    rcases hx with hx | hx
    ·exact .inr (by rw[List.map_cons,List.mem_cons];exact .inl hx)
    ·rcases h2 x hx with z | z
     ·exact .inl z
     ·exact .inr (by rw[List.map_cons,List.mem_cons];exact .inr z)
theorem Up:∀(ds:List (Int×Int)) (b:Int),((dK ds).any fun kv=>decide (kv.1=(.inl b:BC)))=(CW ds b).isSome:=fun ds b=>by
 rw[Fu,Lq]
 cases CW ds b <;> rfl
theorem RP:∀(ds:List (Int×Int)) (b v:Int),b∉ds.map (·.1)→((dK ds).map fun kv=>if kv.1=(.inl b:BC)then(kv.1,V.int v)else kv)=dK ds
 | [],_,_,_=>rfl
 | (k,s)::r,b,v,h=>by
  rw[List.map_cons,List.mem_cons,not_or]at h
  have ih:=RP r b v h.2
  show((if((.inl k:BC),V.int s).1=(.inl b:BC)then _ else _)::(dK r).map _)=_
  rw[if_neg (fun z=>h.1 (Sum.inl.inj z).symm),ih]
  rfl
theorem RQ:∀(ds:List (Int×Int)) (b v:Int),(ds.map (·.1)).Nodup→FB (dK ds) (.inl b:BC) (.int v)=dK (FH ds b v)
 | [],b,v,_=>rfl
 | (k,s)::r,b,v,nd=>by
  have nd':=nd
  rw[List.map_cons,List.nodup_cons]at nd
  have ih:=RQ r b v nd.2
  unfold FB at ih ⊢
  rw[Up]at ih ⊢
  unfold FH CW
  by_cases e:k=b
  ·rw[if_pos e,if_pos e,Option.isSome_some,if_pos rfl]
   show((if((.inl k:BC),V.int s).1=(.inl b:BC)then _ else _)::(dK r).map _)=_
   rw[if_pos (by rw[e]),RP r b v (e▸nd.1)]
   rfl
  ·rw[if_neg e,if_neg e]
   by_cases c:(CW r b).isSome=true
   ·rw[if_pos c]at ih ⊢
    show((if((.inl k:BC),V.int s).1=(.inl b:BC)then _ else _)::(dK r).map _)=_
    rw[if_neg (fun z=>e (Sum.inl.inj z)),ih]
    rfl
   ·rw[if_neg c]at ih ⊢
    show((.inl k:BC),V.int s)::(dK r++_)=_
    rw[ih]
    rfl
theorem TM {c:Int→Int}:∀(ds:List (Int×Int)) (b t:Int),Sm c ((FH ds b ((CW ds b).getD 0+t)).map sw)=Sm c (ds.map sw)+t*c b
 | [],b,t=>by simp[FH,CW,Sm,sw]
 | (k,s)::r,b,t=>by
  have ih:=TM (c:=c) r b t
  unfold FH CW
  by_cases e:k=b
  ·rw[if_pos e,if_pos e,Option.getD_some]
   subst e
   show Sm c ((s+t,k)::r.map sw)=Sm c ((s,k)::r.map sw)+_
   unfold Sm
   rw[List.map_cons,List.sum_cons,List.map_cons,List.sum_cons]
   show(s+t)*c k+_=s*c k+_+_
   rw[Int.add_mul]
   omega
  ·rw[if_neg e,if_neg e]
   show Sm c (sw (k,s)::(FH r b _).map sw)=Sm c (sw (k,s)::r.map sw)+_
   unfold Sm at ih ⊢
   rw[List.map_cons,List.sum_cons,List.map_cons,List.sum_cons,ih]
   omega
theorem OZ:∀(ds:List (Int×Int)) (b v:Int),(FH ds b v).length≤ds.length+1
 | [],_,_=>by simp[FH]
 | (k,s)::r,b,v=>by
  unfold FH
  have:=OZ r b v
  split
  ·simp
  ·simp only[List.length_cons];omega
theorem Oa:∀(ds:List (Int×Int)) (b v:Int) (d:Int×Int),d∈FH ds b v→d∈ds∨d=(b,v)
 | [],b,v,d,h=>.inr (by simpa [FH]using h)
 | (k,s)::r,b,v,d,h=>by
  unfold FH at h
  by_cases e:k=b
  ·rw[if_pos e]at h
   rcases List.mem_cons.mp h with h | h
   ·exact .inr (by rw[h,e])
   ·exact .inl (List.mem_cons_of_mem _ h)
  ·rw[if_neg e]at h
   rcases List.mem_cons.mp h with h | h
   ·exact .inl (by rw[h];exact List.mem_cons_self)
   ·rcases Oa r b v d h with q | q
    ·exact .inl (List.mem_cons_of_mem _ q)
    ·exact .inr q
theorem Mv:∀{ds:List (Int×Int)} {b s:Int},CW ds b=some s→(b,s)∈ds
 | [],_,_,h=>by cases h
 | (k,s')::r,b,s,h=>by
  unfold CW at h
  by_cases e:k=b
  ·rw[if_pos e]at h;cases h;rw[← e];exact List.mem_cons_self
  ·rw[if_neg e]at h;exact List.mem_cons_of_mem _ (Mv h)
theorem Ob:∀{ds:List (Int×Int)} {d:Int×Int},(ds.map (·.1)).Nodup→d∈ds→CW ds d.1=some d.2
 | [],_,_,h=>by cases h
 | (k,s)::r,d,nd,h=>by
  rw[List.map_cons,List.nodup_cons]at nd
  unfold CW
  rcases List.mem_cons.mp h with rfl | h
  ·rw[if_pos rfl]
  ·rw[if_neg (fun z=>nd.1 (by show k∈_;rw[z];exact List.mem_map.mpr ⟨d,h,rfl⟩))]
   exact Ob nd.2 h
def Rn (l:List (Int×Int)):Int:=(l.map fun n=>n.2).foldl (·*·) 1
theorem HW:∀(l:List Int) (a:Int),l.foldl (·*·) a=a*l.foldl (·*·) 1
 | [],a=>by simp
 | b::t,a=>by
  rw[List.foldl_cons,List.foldl_cons,HW t (a*b),HW t (1*b),Int.one_mul,Int.mul_assoc]
theorem RR:∀{l:List (Int×Int)} {n:Int×Int},n∈l→n.2 ∣ Rn l
 | m::t,n,h=>by
  unfold Rn
  rw[List.map_cons,List.foldl_cons,HW]
  rcases List.mem_cons.mp h with rfl | h
  ·rw[Int.one_mul];exact Int.dvd_mul_right _ _
  ·exact Int.dvd_mul_of_dvd_right (RR h)
theorem No:∀{l:List (Int×Int)},(∀ n∈l,0<n.2)→0<Rn l
 | [],_=>by decide
 | m::t,h=>by
  unfold Rn
  rw[List.map_cons,List.foldl_cons,HW,Int.one_mul]
  exact Int.mul_pos (h m List.mem_cons_self) (No fun n hn=>h n (List.mem_cons_of_mem _ hn))
def cB (l:List (Int×Int))(b:Int):Int:=Rn l / b
theorem TN {l:List (Int×Int)}{n:Int×Int}(h:n∈l):n.2*cB l n.2=Rn l:=Int.mul_ediv_cancel' (RR h)
theorem Se {c:Int→Int}{B:Int}{l m:List (Int×Int)}(hB:B≠0)(hl:∀ n∈l,n.2*c n.2=B)(hm:∀ n∈m,n.2*c n.2=B)(e:Sm c l=Sm c m):(Ed l).1*(Ed m).2=(Ed m).1*(Ed l).2:=by
 have h1:=TL hl
 have h2:=TL hm
 rw[e]at h1
 refine Int.eq_of_mul_eq_mul_right hB ?_
 calc (Ed l).1*(Ed m).2*B=(Ed l).1*B*(Ed m).2:=by ac_rfl
  _=Sm c m*(Ed l).2*(Ed m).2:=by rw[h1]
  _=Sm c m*(Ed m).2*(Ed l).2:=by ac_rfl
  _=(Ed m).1*B*(Ed l).2:=by rw[h2]
  _=(Ed m).1*(Ed l).2*B:=by ac_rfl
theorem Oc {β γ:Nat}:∀(l:List (Int×Int)) (s:Int×Int) (k:Nat),(∀ n∈l,n.1.natAbs≤2 ^ γ∧n.2.natAbs≤2 ^ β)→s.1.natAbs≤k*2 ^ (γ+β*k)→s.2.natAbs≤2 ^ (β*k)→(l.foldl Lp s).1.natAbs≤(k+l.length)*2 ^ (γ+β*(k+l.length))∧(l.foldl Lp s).2.natAbs≤2 ^ (β*(k+l.length))
 | [],s,k,_,h1,h2=>by simpa using⟨h1,h2⟩
 | n::t,s,k,hc,h1,h2=>by
  rw[List.foldl_cons,List.length_cons,show k+(t.length+1)=(k+1)+t.length by omega]
  obtain⟨q1,q2⟩:=hc n List.mem_cons_self
  refine Oc t (Lp s n) (k+1) (fun m hm=>hc m (List.mem_cons_of_mem _ hm)) ?_ ?_
  ·show(s.1*n.2+n.1*s.2).natAbs≤_
   refine Nat.le_trans (Int.natAbs_add_le _ _) ?_
   rw[Int.natAbs_mul,Int.natAbs_mul]
   have a1:=Nat.mul_le_mul h1 q2
   have a2:=Nat.mul_le_mul q1 h2
   have e1:k*2 ^ (γ+β*k)*2 ^ β=k*2 ^ (γ+β*(k+1)):=by rw[Nat.mul_assoc,← Nat.pow_add];congr 2;rw[Nat.mul_succ];omega
   have e2:2 ^ γ*2 ^ (β*k)≤2 ^ (γ+β*(k+1)):=by rw[← Nat.pow_add];exact Nat.pow_le_pow_right (by decide) (by rw[Nat.mul_succ];omega)
   rw[e1]at a1
   rw[Nat.succ_mul]
   omega
  ·show(s.2*n.2).natAbs≤_
   rw[Int.natAbs_mul]
   refine Nat.le_trans (Nat.mul_le_mul h2 q2) ?_
   rw[← Nat.pow_add,Nat.mul_succ]
   exact Nat.le_refl _
theorem Uq {β γ:Nat}{l:List (Int×Int)}(h:∀ n∈l,n.1.natAbs≤2 ^ γ∧n.2.natAbs≤2 ^ β):(Ed l).1.natAbs≤l.length*2 ^ (γ+β*l.length)∧(Ed l).2.natAbs≤2 ^ (β*l.length):=by
 have:=Oc l (0,1) 0 h (by simp) (by simp)
 rw[Nat.zero_add]at this
 exact this
theorem Od {x:Int}{k m:Nat}(h:x.natAbs≤k*2 ^ m)(hk:k<2 ^ 10)(hm:m+10≤4000):Sz 4000 x:=by
 refine Sz.mono (m:=m+10) ?_ hm
 unfold Sz
 have h1:k*2 ^ m<2 ^ 10*2 ^ m:=(Nat.mul_lt_mul_right (Nat.two_pow_pos m)).mpr hk
 have h2:2 ^ 10*2 ^ m=2 ^ (m+10):=by rw[← Nat.pow_add,Nat.add_comm]
 omega
def Ur:Vl→Option (Int×Int)
 | .num t b=>some (t,b)
 | _=>none
def A8 (ms:List Vl):List (Int×Int):=ms.filterMap Ur
def Sf (ns:List (Int×Int))(h:Hm):Vl:=KS (CP (Ed ns).1 (Ed ns).2) (CB (Ed ns).1 (Ed ns).2) h
def Po (ms:List Vl)(h:Hm):Vl:=match ms.find? Fe with
 | some v=>v
 | none=>Sf (A8 ms) h
def Np (β γ:Nat)(ns:List (Int×Int)):Prop:=(∀ n∈ns,0<n.2∧n.1.natAbs≤2 ^ γ∧n.2.natAbs≤2 ^ β)∧ns.length<900∧γ+β*ns.length≤3000
def W3 (K:PySem.W.Frag):Sp:=fun vs H Q _=>∃(l:Addr) (us:List V) (ms:List Vl),vs=[.ref l]∧H l=some (.lst us)∧Br H us ms∧us.length≤1000∧∀(l':Addr) (ps:List V) (H':Hp),H' l'=some (.lst ps)→Jp H' ps (A8 ms)→AI H H'→Q (.ref l') H'
def W5:Sp:=fun vs H Q _=>∃(l:Addr) (us:List V) (ns:List (Int×Int)) (β γ:Nat),vs=[.ref l]∧H l=some (.lst us)∧Jp H us ns∧Np β γ ns∧∀(q:Addr) (H':Hp),H' q=some (.tup [.int (CP (Ed ns).1 (Ed ns).2),.int (CB (Ed ns).1 (Ed ns).2)])→AI H H'→Q (.ref q) H'
def W6 (K:PySem.W.Frag):Sp:=fun vs H Q _=>∃(l:Addr) (us:List V) (ms:List Vl) (y:V) (hm:Hm) (β γ:Nat),vs=[.ref l,y]∧H l=some (.lst us)∧Br H us ms∧us.length≤1000∧Np β γ (A8 ms)∧DP H y hm∧∀ x H',BD H' x (Po ms hm)→AI H H'→Q x H'
theorem HX {H:Hp}:∀{us:List V} {ms:List Vl},Br H us ms→(ms.find? Fe=none∧E3 us ms=.non)∨∃ u v,ms.find? Fe=some v∧E3 us ms=u∧BD H u v∧u≠.non
 | _,_,.nil=>.inl ⟨rfl,rfl⟩
 | _,_,@Paired.cons _ _ _ u v us ms h t=>by
  by_cases c:Fe v=true
  ·refine .inr ⟨u,v,by rw[List.find?_cons_of_pos c],by simp[E3,c],h,?_⟩
   obtain⟨q,rfl,_⟩:=h
   intro z;cases z
  ·rw[List.find?_cons_of_neg c,show E3 (u::us) (v::ms)=E3 us ms by simp[E3,c]]
   exact HX t
theorem DF {α:Type}{l:List α}{i:Nat}{x:α}(h:l[i]?=some x):l.take (i+1)=l.take i++[x]:=by rw[List.take_add_one,h];rfl
theorem Sg {ns ds:List (Int×Int)}(hn:∀ n∈ns,0<n.2)(hd:∀ n∈ds,n.2*cB ns n.2=Rn ns∧0<n.2)(e:Sm (cB ns) ds=Sm (cB ns) ns):CP (Ed ds).1 (Ed ds).2=CP (Ed ns).1 (Ed ns).2∧CB (Ed ds).1 (Ed ds).2=CB (Ed ns).1 (Ed ns).2:=by
 have p1:=HV (l:=ds) fun n h=>(hd n h).2
 have p2:=HV hn
 have p3:=No hn
 exact UN (by omega) (by omega) (Se (B:=Rn ns) (by omega) (fun n h=>(hd n h).1) (fun n h=>TN h) e)
def Yt (tA ta tb:L2.TT):L2.TT:=fun σ H Q=>tA σ H fun d H1=>if d=true then ta σ H1 Q else tb σ H1 Q
theorem W7 {X:Cx}{c a b:Expr}{pos:Pos}{tA ta tb:L2.TT}(hc:PT X c tA)(ha:PT X a ta)(hb:PT X b tb):PT X (.IfExp c a b pos) (Yt tA ta tb):=by
 intro pins s σ H Q I h
 rw[PySem.isTrue]
 refine wpAny_bind (BZ (hc pins s σ H _ I h) fun d s1 zq=>?_)
 obtain⟨H1,I1,q1⟩:=zq
 cases d with
 | true=>exact ha pins s1 σ H1 Q I1 q1
 | false=>exact hb pins s1 σ H1 Q I1 q1
theorem Lr {α β:Type}{F:α→β→Prop}:∀{xs:List α} {ys:List β} {us:List α} {vs:List β},Paired F xs ys→Paired F us vs→Paired F (xs++us) (ys++vs):=by
 intro A B C D h g
 induction h with
 | nil=>exact g
 | cons r t ih=>exact .cons r ih
theorem Jr {α β:Type}{F:α→β→Prop}:∀{m:List (List α)} {n:List (List β)},Paired (Paired F) m n→Paired F m.flatten n.flatten:=by
 intro A B h
 induction h with
 | nil=>exact .nil
 | cons h t ih=>
  rw[List.flatten_cons,List.flatten_cons]
  exact Lr h ih
def Ee (a b:Int×Int):Bool:=decide (a.1*b.2<b.1*a.2)
def HY (most:Bool)(o:Option (Int×Int))(n:Int×Int):Option (Int×Int):=match o with
 | none=>some n
 | some b=>if(if most=true then Ee b n else Ee n b)=true then some n else some b
theorem Si {most:Bool}{b n:Int×Int}(c:(if most=true then Ee b n else Ee n b)=true):HY most (some b) n=some n:=by
 show(if(if most=true then Ee b n else Ee n b)=true then some n else some b)=_
 rw[if_pos c]
theorem Sj {most:Bool}{b n:Int×Int}(c:¬ (if most=true then Ee b n else Ee n b)=true):HY most (some b) n=some b:=by
 show(if(if most=true then Ee b n else Ee n b)=true then some n else some b)=_
 rw[if_neg c]
def GT (most:Bool)(ns:List (Int×Int)):Option (Int×Int):=ns.foldl (HY most) none
theorem Pp {most:Bool}{l:List (Int×Int)}{n:Int×Int}:GT most (l++[n])=HY most (GT most l) n:=by unfold GT;rw[List.foldl_append];rfl
def W8:Option (Int×Int)→Vl
 | none=>.none
 | some n=>.num n.1 n.2
def KU (ms:List Vl)(v:Vl):Vl:=match ms.find? Fe with
 | some f=>f
 | none=>v
theorem RS {ms:List Vl}{v f:Vl}(h:ms.find? Fe=some f):KU ms v=f:=by unfold KU;rw[h]
theorem RT {ms:List Vl}{v:Vl}(h:ms.find? Fe=none):KU ms v=v:=by unfold KU;rw[h]
theorem RU {ms:List Vl}{hm:Hm}:Po ms hm=KU ms (Sf (A8 ms) hm):=rfl
def Ro (z:Str)(ms:List Vl)(hm:Hm):Vl:=KU ms (if z=Str.ofString "sum" then Sf (A8 ms) hm else if z=Str.ofString "count" then .num ((A8 ms).length:Int) 1 else W8 (GT (decide (z=Str.ofString "most")) (A8 ms)))
def Nq (H:Hp)(b:V):Option (Int×Int)→Prop
 | none=>b=.non
 | some n=>∃ p,b=.ref p∧H p=some (.tup [.int n.1,.int n.2])
theorem HZ {ms:List Vl}{n:Int×Int}(h:n∈A8 ms):Vl.num n.1 n.2∈ms:=by
 obtain⟨v,hv,e⟩:=List.mem_filterMap.mp h
 cases v with
 | num t b=>cases e;exact hv
 | none=>cases e
 | txt z=>cases e
 | tru b=>cases e
 | flt w z r c=>cases e
def W9 (f:List Vl→Hm→Vl):Sp:=fun vs H Q _=>∃(x y:V) (m:List (List Vl)) (w:Nat) (hm:Hm) (β γ:Nat),vs=[x,y]∧Bm H x m∧Bp m w∧w≤30∧m.length≤30∧Np β γ (A8 m.flatten)∧DP H y hm∧∀ z H',BD H' z (f m.flatten hm)→AI H H'→Q z H'
def XA:Sp:=fun vs H Q _=>∃(x:V) (m:List (List Vl)) (w:Nat),vs=[x]∧Bm H x m∧Bp m w∧w≤30∧m.length≤30∧∀ z H',BD H' z (KU m.flatten (.num ((A8 m.flatten).length:Int) 1))→AI H H'→Q z H'
def XB:Sp:=fun vs H Q _=>∃(x:V) (b:Bool) (m:List (List Vl)) (w:Nat),vs=[x,.bl b]∧Bm H x m∧Bp m w∧w≤30∧m.length≤30∧(∀ r∈m,∀ v∈r,Ap v)∧∀ z H',BD H' z (KU m.flatten (W8 (GT b (A8 m.flatten))))→AI H H'→Q z H'
def W4:List Str:=["sum","count","least","most"].map Str.ofString
theorem Nr {z:Str}(h:z∈W4):z=Str.ofString "sum"∨z=Str.ofString "count"∨z=Str.ofString "least"∨z=Str.ofString "most":=by simpa [W4]using h
theorem XC:∀ z∈W4,∀ w∈["op","neg","if","turn","stack","grid"].map Str.ofString,z≠w:=by nofun
theorem LI {z:Str}{w:String}(h:z∈W4)(hw:Str.ofString w∈["op","neg","if","turn","stack","grid"].map Str.ofString):V.bl (decide (V.str z=vS w))=.bl false:=by
 rw[decide_eq_false fun e=>XC z h _ hw (by injection e)]
def EX (h:Hm):Prop:=Nm h.z∧1≤h.r∧h.r≤16∧1≤h.c∧h.c≤8
theorem Gm {w:String}{h:Hm}(hw:Str.ofString w∈Ct)(ho:EX h):Ap (Jm w h):=⟨hw,ho.1,ho.2.1,ho.2.2.1,ho.2.2.2.1,ho.2.2.2.2⟩
def XD (v a b:Vl)(hm:Hm):Vl:=match v with
 | .flt ..=>v
 | .none=>b
 | .tru t=>if t=true then a else b
 | _=>Jm "kind" hm
def TQ (v:Vl)(m n:List (List Vl))(hm:Hm):List (List Vl):=CC (fun j k=>XD v (cy .none m j k) (cy .none n j k) hm) (max m.length n.length) (max (wd m) (wd n))
theorem Sk {a b c d:Nat}(ft:(a=c∧b=d)∨(c=1∧d=1)∨(a=1∧b=1))(a1:1≤a)(b1:1≤b)(c1:1≤c)(d1:1≤d):Rm ((a:Int),(b:Int)) ((c:Int),(d:Int))=some (((max a c:Nat):Int),((max b d:Nat):Int)):=by
 unfold Rm
 by_cases x1:((a:Int),(b:Int))=((c:Int),(d:Int))
 ·rw[if_pos x1]
  have e1:(a:Int)=c:=congrArg Prod.fst x1
  have e2:(b:Int)=d:=congrArg Prod.snd x1
  exact congrArg some (Prod.ext (by show(a:Int)=_;omega) (by show(b:Int)=_;omega))
 ·rw[if_neg x1]
  by_cases x2:((c:Int),(d:Int))=((1:Int),(1:Int))
  ·rw[if_pos x2]
   have e1:(c:Int)=1:=congrArg Prod.fst x2
   have e2:(d:Int)=1:=congrArg Prod.snd x2
   exact congrArg some (Prod.ext (by show(a:Int)=_;omega) (by show(b:Int)=_;omega))
  ·rw[if_neg x2]
   have:a=1∧b=1:=by
    rcases ft with⟨e1,e2⟩ | ⟨e1,e2⟩ | h
    ·exact absurd (Prod.ext (by show(a:Int)=c;omega) (by show(b:Int)=d;omega)) x1
    ·exact absurd (Prod.ext (by show(c:Int)=1;omega) (by show(d:Int)=1;omega)) x2
    ·exact h
   rw[if_pos (Prod.ext (by show(a:Int)=1;omega) (by show(b:Int)=1;omega))]
   exact congrArg some (Prod.ext (by show(c:Int)=_;omega) (by show(d:Int)=_;omega))
theorem RV {α β γ:Type}{F:β→γ→Prop}{f:α→β}{g:α→γ}(h:∀ a,F (f a) (g a)):∀ l:List α,Paired F (l.map f) (l.map g)
 | []=>.nil
 | a::t=>.cons (h a) (RV h t)
def XE (K:PySem.W.Frag):Sp:=fun vs H Q _=>∃(u x y z:V) (v:Vl) (mu nu:List (List V)) (m n:List (List Vl)) (w1 w2:Nat) (hm:Hm),vs=[u,x,y,z]∧BD H u v∧Bk H x mu∧Bk H y nu∧By H mu m∧By H nu n∧Bp m w1∧Bp n w2∧RL m n∧m.length≤30∧n.length≤30∧w1≤30∧w2≤30∧DP H z hm∧∀ x H',Bm H' x (TQ v m n hm)→AI H H'→Q x H'
theorem Js {H:Hp}{u:V}{v:Vl}{h w:Nat}{f:Nat→Nat→Vl}(hv:BD H u v)(e:∀ j k,f j k=v):By H (Mr h w u) (CC f h w):=by
 rw[Ms f v h w e]
 exact FG (FG hv w) h
theorem Nt {H:Hp}{mu:List (List V)}{m:List (List Vl)}{w h2 w2:Nat}{f:Nat→Nat→Vl}(vt:By H mu m)(rm:Bp m w)(c:(mu.length=h2∧w=w2)∨(mu.length=1∧w=1))(e:∀ j k,f j k=cy .none m j k):By H (GS mu w h2 w2) (CC f h2 w2):=by
 rw[Lo (BE vt rm) c,show f=cy .none m from funext fun j=>funext fun k=>e j k]
 unfold CC
 exact RV (fun j=>RV (fun k=>Dr vt rm j k) _) _
theorem Us {s:Str}{a b:Int×Int}{h:Hm}(la:Nd a.1 a.2)(lb:Nd b.1 b.2)(ho:EX h):Ap (Wq s a b h):=by
 have p1:=la.pos
 have p2:=lb.pos
 have nz:a.2*b.2≠0:=Int.mul_ne_zero (by omega) (by omega)
 have nv:∀ t d:Int,d≠0→Ap (KS (CP t d) (CB t d) h):=fun t d hd=>OT (DL hd) ho.1 ho.2.1 ho.2.2.1 ho.2.2.2.1 ho.2.2.2.2
 unfold Wq
 split
 ·exact nv _ _ nz
 ·split
  ·exact nv _ _ nz
  ·split
   ·exact nv _ _ nz
   ·split
    ·split
     ·exact Gm (by nofun) ho
     ·exact nv _ _ (Int.mul_ne_zero (by omega) (by assumption))
    ·trivial
theorem Ls {s:Str}{a b:Vl}{h:Hm}(oa:Ap a)(ob:Ap b)(ho:EX h):Ap (Mq s a b h):=by
 unfold Mq
 split
 ·exact oa
 ·split
  ·exact ob
  ·split
   ·trivial
   ·split
    ·unfold OU
     split
     ·rename_i e
      unfold Nl at e
      rw[Bool.and_eq_true]at e
      refine⟨?_,fun c hc=>?_⟩
      ·have:=e.1
       simp at this
       omega
      ·have:=List.all_eq_true.mp e.2 _ (List.mem_map.mpr ⟨c,hc,rfl⟩)
       exact of_decide_eq_true this
     ·exact Gm (by nofun) ho
    ·unfold TD
     split
     ·trivial
     ·unfold Gd
      split
      ·rename_i e1 e2
       exact Us (ID oa e1).1 (ID ob e2).1 ho
      ·exact Gm (by nofun) ho
theorem XF {α:Type}{d:α}{m:List (List α)}{w j k:Nat}{r:List α}(rc:Bp m w)(hr:m[j]?=some r)(hk:k<w):r[k]?=some (cy d m j k):=by
 have hj:j<m.length:=(List.getElem?_eq_some_iff.mp hr).1
 have lr:=rc.row r (List.mem_of_getElem? hr)
 have hk':k<r.length:=by omega
 unfold cy
 rw[rc.wd,Nat.mod_eq_of_lt hj,Nat.mod_eq_of_lt hk,List.getD_eq_getElem?_getD (l:=m),hr,Option.getD_some,List.getD_eq_getElem?_getD,List.getElem?_eq_getElem hk',Option.getD_some]
def Sl {α:Type}(d:α)(m:List (List α))(w:Nat):List (List α):=CC (fun j k=>cy d m k j) w m.length
def VR (a b:Vl)(hm:Hm)(i:Nat):Vl:=Mq (Str.ofString "+") a (Mq (Str.ofString "*") b (.num (i:Int) 1) hm) hm
def VS (h w:Nat)(a b:Vl)(hm:Hm):List (List Vl):=CC (fun j k=>VR a b hm (w*j+k)) h w
theorem Nu {H:Hp}{mu:List (List V)}{m:List (List Vl)}{w:Nat}(p:By H mu m)(rc:Bp m w):By H (Sl .non mu w) (Sl .none m w):=by
 unfold Sl CC
 rw[Paired.length p]
 exact RV (fun j=>RV (fun k=>Dr p rc k j) _) _
theorem Pq {a b:Vl}{hm:Hm}{h w:Nat}(hw:1≤w):Dz ((List.range (h*w)).map (VR a b hm)) w h=VS h w a b hm:=by
 have:(List.range (h*w)).map (VR a b hm)=(List.range (h*w)).map fun i=>VR a b hm (w*(i / w)+i%w):=List.map_congr_left fun i _=>by rw[Nat.div_add_mod]
 rw[this]
 exact LH (fun j k=>VR a b hm (w*j+k)) hw h
def XG:Sp:=fun vs H Q _=>∃(x:V) (m:List (List V)) (w:Nat),vs=[x]∧Bk H x m∧Bp m w∧w≤30∧m.length≤30∧∀ y H',Bk H' y (Sl .non m w)→AI H H'→Q y H'
def XH (K:PySem.W.Frag):Sp:=fun vs H Q _=>∃(h w:Nat) (u v y:V) (a b:Vl) (hm:Hm),vs=[.int h,.int w,u,v,y]∧1≤h∧h≤16∧1≤w∧w≤8∧BD H u a∧BD H v b∧Ap a∧Ap b∧DP H y hm∧EX hm∧∀ x H',Bm H' x (VS h w a b hm)→AI H H'→Q x H'
def chz (s:Str)(k:Vl)(hm:Hm)(Z:List (Vl×Vl)):List Vl:=(Z.filter fun p=>KQ (Mq s p.1 k hm) (.tru true)).map (·.2)
def TR (s:Str)(m:List (List Vl))(k:Vl)(n:List (List Vl))(hm:Hm):Vl:=if Fe k=true then k else Po (chz s k hm (m.flatten.zip n.flatten)) hm
theorem Mw {s:Str}{k:Vl}{hm:Hm}{Z:List (Vl×Vl)}{p:Vl×Vl}:chz s k hm (Z++[p])=chz s k hm Z++(if KQ (Mq s p.1 k hm) (.tru true)=true then [p.2]else []):=by
 unfold chz
 rw[List.filter_append,List.map_append]
 congr 1
 by_cases c:KQ (Mq s p.1 k hm) (.tru true)=true
 ·rw[if_pos c];simp[c]
 ·rw[if_neg c];simp[c]
theorem Lu {s:Str}{k:Vl}{hm:Hm}{Z:List (Vl×Vl)}:(chz s k hm Z).length≤Z.length:=by unfold chz;rw[List.length_map];exact List.length_filter_le _ _
def XI (K:PySem.W.Frag):Sp:=fun vs H Q _=>∃(x u y z:V) (s:Str) (m n:List (List Vl)) (k:Vl) (w:Nat) (hm:Hm) (β γ:Nat),vs=[x,.str s,u,y,z]∧Bm H x m∧BD H u k∧Bm H y n∧DP H z hm∧Bp m w∧Bp n w∧m.length=n.length∧m.length≤30∧w≤30∧(∀ r∈m,∀ v∈r,Ap v)∧Ap k∧Np β γ (A8 (chz s k hm (m.flatten.zip n.flatten)))∧
 ∀ x H',BD H' x (TR s m k n hm)→AI H H'→Q x H'
def TU (fo:Vl→Vl)(v:Vl):Vl:=if Fe v=true then v else fo v
theorem Jt {m:List (List Vl)}{w:Nat}(rc:Bp m w)(h:∀ r∈m,∀ v∈r,Ap v):Ap (hd0 m):=by
 obtain⟨r0,rt,rfl⟩:=CF (l:=m) rc.len
 have:=rc.row r0 List.mem_cons_self
 have:=rc.w1
 obtain⟨x,xt,rfl⟩:=CF (l:=r0) (by omega)
 exact h _ List.mem_cons_self _ List.mem_cons_self
def fltS (z:Str)(h:Hm):Vl:=.flt z h.z h.r h.c
theorem DP.fltS {H:Hp}{y:V}{h:Hm}{z:Str}(x:DP H y h){p:Addr}(hp:H p=none):BD (upd H p (.tup [vS "fault",.str z,y])) (.ref p) (fltS z h):=by
 obtain⟨q,rfl,e⟩:=x
 exact⟨p,rfl,q,AE,AI.new hp _ _ e⟩
def RW (g:Str→Int→Int→Vl)(hm:Hm):Lf→List (List Vl)
 | .val v=>[[v]]
 | .flt z=>[[fltS z hm]]
 | l=>Rl g l
def Oe (fo:Vl→Vl)(hm:Hm):Kd→List (List (List Vl))→List (List Vl)
 | .op s,[a,b]=>Sb s a b hm
 | .neg,[a]=>Sb (Str.ofString "-") [[.num 0 1]] a hm
 | .sumif s,[a,b,c]=>[[TR s a (hd0 b) c hm]]
 | .grid i j,[a,b]=>VS i.toNat j.toNat (hd0 a) (hd0 b) hm
 | .wd z,[a]=>if z=zS "turn" then Sl .none a (wd a)else if z=zS "outer" then [[TU fo (hd0 a)]]else [[Ro z a.flatten hm]]
 | .wd _,[a,b]=>a++b
 | .wd z,[a,b,c]=>if z=zS "if" then TQ (hd0 a) b c hm else [[NE (hd0 a) b (hd0 c) hm]]
 | _,_=>[]
mutual
def Au (fo:Vl→Vl)(g:Str→Int→Int→Vl)(hm:Hm):Fm→List (List Vl)
 | .lf l=>RW g hm l
 | .nd k ps=>Oe fo hm k (RX fo g hm ps)
def RX (fo:Vl→Vl)(g:Str→Int→Int→Vl)(hm:Hm):List Fm→List (List (List Vl))
 | []=>[]
 | f::fs=>Au fo g hm f::RX fo g hm fs
end
theorem Mz {fo:Vl→Vl}{g:Str→Int→Int→Vl}{hm:Hm}:∀ ps:List Fm,RX fo g hm ps=ps.map (Au fo g hm)
 | []=>by rw[RX];rfl
 | f::fs=>by rw[RX,Mz fs];rfl
theorem DM {fo:Vl→Vl}{g:Str→Int→Int→Vl}{hm:Hm}{k:Kd}{ps:List Fm}:Au fo g hm (.nd k ps)=Oe fo hm k (ps.map (Au fo g hm)):=by rw[Au,Mz]
theorem BV {fo:Vl→Vl}{g:Str→Int→Int→Vl}{hm:Hm}{l:Lf}:Au fo g hm (.lf l)=RW g hm l:=by rw[Au]
def G3 (m:List (List Vl)):Prop:=∃ w,Bp m w∧w≤3∧m.length≤3∧∀ r∈m,∀ v∈r,Ap v
def Ut (dom:Str→Int→Int→Prop)(g:Str→Int→Int→Vl)(l:Lf):Prop:=(∃ v,l=.val v)∨(∃ z,l=.flt z)∨∃ z c d,Fy dom l z c d
def okN (dom:Str→Int→Int→Prop)(g:Str→Int→Int→Vl)(fo:Vl→Vl)(hm:Hm)(f:Fm):Prop:=
 (∃ l,f=.lf l∧Ut dom g l)∨
 (∃ s a b,f=.nd (.op s) [a,b]∧G3 (Au fo g hm a)∧G3 (Au fo g hm b)∧RL (Au fo g hm a) (Au fo g hm b))∨
 (∃ a,f=.nd .neg [a]∧G3 (Au fo g hm a))∨
 (∃ a b c,f=.nd (.wd (zS "if")) [a,b,c]∧G3 (Au fo g hm a)∧G3 (Au fo g hm b)∧G3 (Au fo g hm c)∧RL (Au fo g hm b) (Au fo g hm c))∨
 (∃ a,f=.nd (.wd (zS "turn")) [a]∧G3 (Au fo g hm a))∨
 (∃ a b,f=.nd (.wd (zS "stack")) [a,b]∧G3 (Au fo g hm a)∧G3 (Au fo g hm b))∨
 (∃(h w:Nat) (a b:Fm),f=.nd (.grid h w) [a,b]∧1≤h∧h≤3∧1≤w∧w≤3∧G3 (Au fo g hm a)∧G3 (Au fo g hm b))∨
 (∃ z a,f=.nd (.wd z) [a]∧z∈W4∧G3 (Au fo g hm a))∨
 (∃ a,f=.nd (.wd (zS "outer")) [a]∧G3 (Au fo g hm a))∨
 (∃ s a b c,f=.nd (.sumif s) [a,b,c]∧G3 (Au fo g hm a)∧G3 (Au fo g hm b)∧G3 (Au fo g hm c)∧(Au fo g hm a).length=(Au fo g hm c).length∧wd (Au fo g hm a)=wd (Au fo g hm c))∨
 (∃ a b c,f=.nd (.wd (zS "find")) [a,b,c]∧G3 (Au fo g hm a)∧G3 (Au fo g hm b)∧G3 (Au fo g hm c))
theorem ZF {ms:List Vl}(ok:∀ v∈ms,Ap v)(hl:ms.length≤9):Np 100 100 (A8 ms):=by
 have h1:(A8 ms).length≤ms.length:=List.length_filterMap_le _ _
 refine⟨fun n hn=>?_,by omega,by omega⟩
 have hv:=ok _ (HZ hn)
 have:=hv.1.pos
 have p1:(10:Nat) ^ 30≤2 ^ 100:=by decide
 exact⟨by omega,by have:=hv.2.1;omega,by have:=hv.2.2;omega⟩
theorem G3.ns {m:List (List Vl)}(h:G3 m):Np 100 100 (A8 m.flatten):=by
 obtain⟨w,rc,w3,l3,ok⟩:=h
 have:m.length*w≤3*3:=Nat.mul_le_mul l3 w3
 exact ZF (GM ok) (by rw[CL rc.row];omega)
theorem Of {s:Str}{k v:Vl}{hm:Hm}{m n:List Vl}(h:v∈chz s k hm (m.zip n)):v∈n:=by
 unfold chz at h
 obtain⟨p,hp,rfl⟩:=List.mem_map.mp h
 exact(List.of_mem_zip (List.mem_filter.mp hp).1).2
theorem G3.chz {s:Str}{k:Vl}{hm:Hm}{m n:List (List Vl)}(h:G3 n):Np 100 100 (A8 (chz s k hm (m.flatten.zip n.flatten))):=by
 obtain⟨w,rc,w3,l3,ok⟩:=h
 have:n.length*w≤3*3:=Nat.mul_le_mul l3 w3
 have l2:n.flatten.length=n.length*w:=CL rc.row
 have l1:=Lu (s:=s) (k:=k) (hm:=hm) (Z:=m.flatten.zip n.flatten)
 rw[List.length_zip]at l1
 exact ZF (fun v hv=>GM ok v (Of hv)) (by omega)
def Og (fo:Vl→Vl):Sp:=fun vs H Q _=>∃(u:V) (v:Vl),vs=[u]∧BD H u v∧Ap v∧¬ Fe v=true∧∀ x H',BD H' x (fo v)→AI H H'→Q x H'
def Uu (o:Addr)(fo:Vl→Vl):Sp:=fun vs H Q _=>∃(u:V) (v:Vl),vs=[u,.ref o]∧BD H u v∧Ap v∧∀ x H',BD H' x (TU fo v)→AI H H'→Q x H'
def XJ (f:Addr)(D:Hp→Prop)(dom:Str→Int→Int→Prop)(g:Str→Int→Int→Vl):Sp:=fun vs H Q _=>∃(v y:V) (l:Lf) (hm:Hm),vs=[v,y,.ref f]∧A7 H v (.lf l)∧Ut dom g l∧D H∧DP H y hm∧∀ x H',Bm H' x (RW g hm l)→AI H H'→Q x H'
def XM (o:Addr)(fo:Vl→Vl):Sp:=fun vs H Q _=>∃(y:V) (l a:Addr) (us:List V) (hm:Hm),vs=[.ref a,.ref l,y,.ref o]∧H l=some (.lst us)∧DP H y hm∧
 ((∃ z r x0 m,z∈W4∧H a=some (.tup (.str z::r))∧us=[x0]∧Bm H x0 m∧G3 m∧∀ x H',BD H' x (Ro z m.flatten hm)→AI H H'→Q x H')∨
  (∃ r x0 m,H a=some (.tup (vS "outer"::r))∧us=[x0]∧Bm H x0 m∧G3 m∧∀ x H',BD H' x (TU fo (hd0 m))→AI H H'→Q x H')∨
  (∃ s v0 v1 v2 x0 x1 x2 m0 m1 m2,H a=some (.tup [vS "sumif",v0,.str s,v1,v2])∧us=[x0,x1,x2]∧Bm H x0 m0∧Bm H x1 m1∧Bm H x2 m2∧G3 m0∧G3 m1∧G3 m2∧m0.length=m2.length∧wd m0=wd m2∧∀ x H',BD H' x (TR s m0 (hd0 m1) m2 hm)→AI H H'→Q x H')∨
  ∃ r x0 x1 x2 m0 m1 m2,H a=some (.tup (vS "find"::r))∧us=[x0,x1,x2]∧Bm H x0 m0∧Bm H x1 m1∧Bm H x2 m2∧G3 m0∧G3 m1∧G3 m2∧∀ x H',BD H' x (NE (hd0 m0) m1 (hd0 m2) hm)→AI H H'→Q x H')
def XN (f o:Addr)(Dp:Hp→Prop)(dom:Str→Int→Int→Prop)(g:Str→Int→Int→Vl)(fo:Vl→Vl)(hm:Hm):Sp:=fun vs H Q _=>∃(v y:V) (fm:Fm) (l:Addr) (us:List V) (n:Nat),vs=[v,.ref l,y,.ref f,.ref o]∧A7 H v fm∧FO 0 n fm∧okN dom g fo hm fm∧Dp H∧H l=some (.lst us)∧Paired (Bm H) us ((Ek fm).map (Au fo g hm))∧DP H y hm∧EX hm∧∀ x H',Bm H' x (Au fo g hm fm)→AI H H'→Q x H'
def Ju (Pr f o:Addr)(Dp:Hp→Prop)(dom:Str→Int→Int→Prop)(g:Str→Int→Int→Vl)(fo:Vl→Vl):Sp:=fun vs H Q _=>∃(v y:V) (fm:Fm) (n:Nat) (hm:Hm),vs=[v,y,.ref f,.ref o]∧A7 H v fm∧FO 0 n fm∧n≤8∧(∀ x∈Dy fm,okN dom g fo hm x)∧Dp H∧DP H y hm∧EX hm∧BN H Pr qR∧
 ∀ x H',Bm H' x (Au fo g hm fm)→Aw Pr H H'→BN H' Pr qR→Q x H'
section
variable {fo:Vl→Vl}{g:Str→Int→Int→Vl}{hm:Hm}{s z:Str}{a b c:Fm}{h w:Nat}
theorem Yu {A:List (List Vl)}:Oe fo hm (.wd z) [A]=if z=zS "turn" then Sl .none A (wd A)else if z=zS "outer" then [[TU fo (hd0 A)]]else [[Ro z A.flatten hm]]:=rfl
theorem ZG {A B C:List (List Vl)}:Oe fo hm (.wd z) [A,B,C]=if z=zS "if" then TQ (hd0 A) B C hm else [[NE (hd0 A) B (hd0 C) hm]]:=rfl
theorem Oh:Au fo g hm (.nd (.op s) [a,b])=Sb s (Au fo g hm a) (Au fo g hm b) hm:=by rw[DM];rfl
theorem Lv:Au fo g hm (.nd .neg [a])=Sb (Str.ofString "-") [[.num 0 1]] (Au fo g hm a) hm:=by rw[DM];rfl
theorem Ha:Au fo g hm (.nd (.sumif s) [a,b,c])=[[TR s (Au fo g hm a) (hd0 (Au fo g hm b)) (Au fo g hm c) hm]]:=by rw[DM];rfl
theorem JI:Au fo g hm (.nd (.grid h w) [a,b])=VS h w (hd0 (Au fo g hm a)) (hd0 (Au fo g hm b)) hm:=by rw[DM];rfl
theorem JJ:Au fo g hm (.nd (.wd (zS "turn")) [a])=Sl .none (Au fo g hm a) (wd (Au fo g hm a)):=by rw[DM,List.map_cons,List.map_nil,Yu,if_pos rfl]
theorem Hb:Au fo g hm (.nd (.wd (zS "outer")) [a])=[[TU fo (hd0 (Au fo g hm a))]]:=by rw[DM,List.map_cons,List.map_nil,Yu,if_neg (by nofun),if_pos rfl]
theorem RY:∀ z∈W4,z≠zS "turn"∧z≠zS "outer":=by nofun
theorem Oi (h:z∈W4):Au fo g hm (.nd (.wd z) [a])=[[Ro z (Au fo g hm a).flatten hm]]:=by rw[DM,List.map_cons,List.map_nil,Yu,if_neg (RY z h).1,if_neg (RY z h).2]
theorem Hc:Au fo g hm (.nd (.wd (zS "stack")) [a,b])=Au fo g hm a++Au fo g hm b:=by rw[DM];rfl
theorem Oj:Au fo g hm (.nd (.wd (zS "if")) [a,b,c])=TQ (hd0 (Au fo g hm a)) (Au fo g hm b) (Au fo g hm c) hm:=by rw[DM,List.map_cons,List.map_cons,List.map_cons,List.map_nil,ZG,if_pos rfl]
theorem JK:Au fo g hm (.nd (.wd (zS "find")) [a,b,c])=[[NE (hd0 (Au fo g hm a)) (Au fo g hm b) (hd0 (Au fo g hm c)) hm]]:=by rw[DM,List.map_cons,List.map_cons,List.map_cons,List.map_nil,ZG,if_neg (by nofun)]
end
theorem IW {dom:Str→Int→Int→Prop}{g:Str→Int→Int→Vl}{hm:Hm}{l:Lf}{z:Str}{c d:Mn}(h:Fy dom l z c d):RW g hm l=Rl g l:=by
 have b:=h.b
 cases l with
 | flt=>cases b
 | val=>cases b
 | _=>rfl
def RZ (K:PySem.W.Frag)(P1 P2 P3:Addr):Sp:=fun vs H Q _=>∃(a:Addr) (ns:List Int),vs=[.ref a]∧Ax K H a (ns.map V.int)∧ns.length≤63∧H P1=some (.tbl #[])∧H P2=some (.tbl #[])∧H P3=some (.tbl #[])∧∀ H',Q (.bl true) H'
structure NF where
 z:Str
 hi:Int
 wi:Int
 rows:List (List V)
 m:List (List Vl)
 w:Nat
def pl (hi wi:Int)(m:List (List Vl))(r c:Int):Vl:=(m.getD (r-hi-1).toNat []).getD (c-wi-1).toNat .none
def gS (T:List NF):Str→Int→Int→Vl:=fun z r c=>match T.find? (fun s=>decide (s.z=z))with
 | some s=>pl s.hi s.wi s.m r c
 | none=>.none
def Ps (T:List NF):Str→Int→Int→Prop:=fun z r c=>∃ s∈T,s.z=z∧s.hi+1≤r∧r≤s.hi+s.m.length∧s.wi+1≤c∧c≤s.wi+s.w
structure XO (H:Hp)(kvs:List (List BC×V))(s:NF):Prop where
 ld:Ff kvs s.z s.hi s.wi s.rows s.m.length 0
 vt:By H s.rows s.m
 row:∀ r∈s.m,r.length=s.w
theorem Ol:∀{T:List NF},(T.map fun s=>s.z).Nodup→∀{s:NF},s∈T→T.find? (fun x=>decide (x.z=s.z))=some s
 | [],_,s,h=>by cases h
 | a::t,nd,s,h=>by
  rw[List.map_cons,List.nodup_cons]at nd
  rcases List.mem_cons.mp h with rfl | h
  ·rw[List.find?_cons_of_pos (by simp)]
  ·rw[List.find?_cons_of_neg (by
    intro z
    exact nd.1 (of_decide_eq_true z▸List.mem_map.mpr ⟨s,h,rfl⟩))]
   exact Ol nd.2 h
theorem Ra {T:List NF}(nd:(T.map fun s=>s.z).Nodup){s:NF}(hs:s∈T)(r c:Int):gS T s.z r c=pl s.hi s.wi s.m r c:=by unfold gS;rw[Ol nd hs]
theorem JL {α:Type}{l:List α}{i:Nat}{x d:α}(h:l[i]?=some x):l.getD i d=x:=by rw[List.getD_eq_getElem?_getD,h];rfl
theorem Uv {H:Hp}{kn:Addr}{kvs:List (List BC×V)}{T:List NF}(hkn:H kn=some (.dT kvs))(nd:(T.map fun s=>s.z).Nodup)(ok:∀ s∈T,XO H kvs s):IV kn (Ps T) (gS T) H:=by
 refine⟨kvs,hkn,fun z r c d=>?_⟩
 obtain⟨s,hs,rfl,d1,d2,d3,d4⟩:=d
 obtain⟨a,rfl⟩:∃ a:Nat,r=s.hi+a+1:=⟨(r-s.hi-1).toNat,by omega⟩
 obtain⟨b,rfl⟩:∃ b:Nat,c=s.wi+b+1:=⟨(c-s.wi-1).toNat,by omega⟩
 have g:=ok s hs
 have ha:a<s.m.length:=by omega
 have hm':s.m[a]?=some s.m[a]:=List.getElem?_eq_getElem ha
 have hb:b<s.m[a].length:=by rw[g.row _ (List.getElem_mem ha)];omega
 obtain⟨rw',hrw,pv⟩:=Fz g.vt hm'
 obtain⟨x,hx,vx⟩:=Fz pv (List.getElem?_eq_getElem hb)
 refine⟨x,g.ld a b rw' x hrw hx (.inl (by omega)),?_⟩
 rw[Ra nd hs,pl,show(s.hi+a+1-s.hi-1).toNat=a by omega,show(s.wi+b+1-s.wi-1).toNat=b by omega,JL hm',JL (List.getElem?_eq_getElem hb)]
 exact vx
theorem XQ {T:List NF}(nd:(T.map fun s=>s.z).Nodup){s:NF}(hs:s∈T)(row:∀ r∈s.m,r.length=s.w):Pc (gS T) s.z (s.hi+1) (s.wi+1) s.m.length s.w=s.m:=by
 unfold Pc
 refine List.ext_getElem? fun i=>?_
 by_cases hi':i<s.m.length
 ·have hm':s.m[i]?=some s.m[i]:=List.getElem?_eq_getElem hi'
  have lm:=row _ (List.getElem_mem hi')
  rw[List.getElem?_map,List.getElem?_range hi',hm']
  refine congrArg some (List.ext_getElem? fun j=>?_)
  by_cases hj:j<s.w
  ·rw[List.getElem?_map,List.getElem?_range hj,List.getElem?_eq_getElem (by omega)]
   refine congrArg some ?_
   show gS T s.z (s.hi+1+(i:Int)) (s.wi+1+(j:Int))=_
   rw[Ra nd hs,pl,show(s.hi+1+(i:Int)-s.hi-1).toNat=i by omega,show(s.wi+1+(j:Int)-s.wi-1).toNat=j by omega,JL hm',JL (List.getElem?_eq_getElem (by omega))]
  ·rw[List.getElem?_eq_none (by rw[List.length_map,List.length_range];omega),List.getElem?_eq_none (by omega)]
 ·rw[List.getElem?_eq_none (by rw[List.length_map,List.length_range];omega),List.getElem?_eq_none (by omega)]
theorem IF {H:Hp}{kvs:List (List BC×V)}{z:Str}{rows:List (List V)}{m:List (List Vl)}{h w:Nat}{u:V}(x:HR H kvs z rows h w u)(nm:Nm z)(vt:By H rows m)(ml:m.length=h)(row:∀ r∈m,r.length=w)(h1:1≤h)(w1:1≤w):
 ∃(a:Addr) (lf:Lf) (s:NF),u=.ref a∧FD H a lf∧s.z=z∧s.m=m∧XO H kvs s∧∀ T:List NF,(T.map fun s=>s.z).Nodup→s∈T→(∃ z c d,Fy (Ps T) lf z c d)∧Rl (gS T) lf=m:=by
 obtain⟨a,lf,c,d,hi,wi,rfl,h2,h3,h4,h5,h6,h7,h8,h9,h10,h11,h12⟩:=x
 subst ml
 refine⟨a,lf,⟨z,hi,wi,rows,m,w⟩,rfl,h2,rfl,rfl,⟨h12,vt,row⟩,fun T nd hs=>⟨⟨z,c,d,OY h3 nm h4 h5 h6 h7 h8 h9 h10 h11 h1 w1 fun i j q1 q2 q3 q4=>⟨_,hs,rfl,q1,q2,q3,q4⟩⟩,?_⟩⟩
 rw[Uo h3 h4 h5 h6 h7]
 exact XQ nd hs row
structure LB (H:Hp)(l:Addr)(bs:List Addr)(rows:List (List V))(m:List (List Vl)):Prop where
 ob:H l=some (.lst (bs.map V.ref))
 ls:Mp H bs rows
 vt:By H rows m
theorem LB.smd {H H':Hp}{l:Addr}{bs:List Addr}{rows:List (List V)}{m:List (List Vl)}(x:LB H l bs rows m)(s:DR H H'):LB H' l bs rows m:=⟨s _ _ x.ob rfl,Nj x.ls fun b row _ e=>s _ _ e rfl,By.kp x.vt s.kp⟩
theorem LB.same {H H':Hp}{l:Addr}{bs:List Addr}{rows:List (List V)}{m:List (List Vl)}(x:LB H l bs rows m)(s:AI H H'):LB H' l bs rows m:=x.smd (DR.of s)
structure RD (H0 H:Hp)(l:Addr)(bs:List Addr)(rows:List (List V))(m:List (List Vl)):Prop where
 b:LB H l bs rows m
 nl:l∉bs
 s:AI H0 H
 fl:H0 l=none
 fb:∀ b∈bs,H0 b=none
section
variable {H0 H H':Hp}{l D:Addr}{bs:List Addr}{rows:List (List V)}{m:List (List Vl)}
theorem RD.nil (h:H0 l=none):RD H0 (upd H0 l (.lst [])) l [] [] []:=⟨⟨AE,.nil,.nil⟩,by simp,AI.new h,h,fun b z=>absurd z (by simp)⟩
theorem RD.same (x:RD H0 H l bs rows m)(s:AI H H'):RD H0 H' l bs rows m:=⟨x.b.same s,x.nl,x.s.trans s,x.fl,x.fb⟩
theorem RD.new (x:RD H0 H l bs rows m)(h:H D=none):D≠l∧D∉bs∧H0 D=none:=by
 refine⟨(fun z=>by rw[z,x.b.ob]at h;cases h),fun z=>?_,?_⟩
 ·obtain⟨j,hj⟩:=List.getElem?_of_mem z
  obtain⟨r,_,e⟩:=Ar x.b.ls hj
  have e':H D=some (.lst r):=e
  rw[e']at h;cases h
 ·cases e:H0 D with
  | none=>rfl
  | some o=>rw[x.s _ _ e]at h;cases h
theorem RD.st {us vs:List V}(x:RD H0 H l bs rows m)(n1:D≠l)(n2:D∉bs)(n3:H0 D=none)(hD:H D=some (.lst us)):RD H0 (upd H D (.lst vs)) l bs rows m:=
 ⟨⟨by rw[AX (Ne.symm n1)];exact x.b.ob,Nj x.b.ls fun b row hb e=>by
  show upd H D (.lst vs) b=some (.lst row)
  rw[AX (show b≠D from fun z=>n2 (z▸hb))];exact e,By.kp x.b.vt (CQ hD)⟩,x.nl,fun b o e=>by rw[AX (AZ e n3)];exact x.s _ _ e,x.fl,x.fb⟩
theorem RD.push {us:List V}{vs:List Vl}(x:RD H0 H l bs rows m)(n1:D≠l)(n3:H0 D=none)(hD:H D=some (.lst us))(hv:Br H us vs):RD H0 (upd H l (.lst (bs.map V.ref++[.ref D]))) l (bs++[D]) (rows++[us]) (m++[vs]):=by
 have kk:Kp H (upd H l (.lst (bs.map V.ref++[.ref D]))):=CQ x.b.ob
 refine⟨⟨by rw[AE,List.map_append];rfl,Dx (Nj x.b.ls fun b row hb e=>?_) (by rw[AX n1];exact hD),Dx (By.kp x.b.vt kk) (Br.kp hv kk)⟩,fun z=>?_,fun b o e=>by rw[AX (AZ e x.fl)];exact x.s _ _ e,x.fl,fun b hb=>?_⟩
 ·show upd H l _ b=some (.lst row)
  rw[AX (show b≠l from fun z=>x.nl (z▸hb))];exact e
 ·rcases List.mem_append.mp z with z | z
  ·exact x.nl z
  ·exact n1 (List.mem_singleton.mp z).symm
 ·rcases List.mem_append.mp hb with z | z
  ·exact x.fb b z
  ·rw[List.mem_singleton.mp z];exact n3
theorem RD.len (x:RD H0 H l bs rows m):bs.length=m.length∧rows.length=m.length:=⟨(Paired.length x.b.ls).trans (Paired.length x.b.vt),Paired.length x.b.vt⟩
end
theorem LJ {α:Type}{f:Nat→Nat→α}{h w:Nat}:CC f (h+1) w=CC f h w++[(List.range w).map (f h)]:=by
 unfold CC;rw[List.range_succ,List.map_append];rfl
def trT (m:List (List Vl)):Tr:=.tup (m.map fun r=>.tup (r.map VN))
theorem TV {H:Hp}:∀{us:List V} {vs:List Vl},Br H us vs→Paired (fun u t=>EW H u t 2) us (vs.map VN)
 | _,_,.nil=>.nil
 | _,_,.cons h t=>.cons h.tr (TV t)
theorem TW {H:Hp}:∀{us:List V} {rows:List (List V)} {m:List (List Vl)},Paired (SS H) us rows→By H rows m→(∀ r∈m,r.length≤100)→Paired (fun u t=>EW H u t 3) us (m.map fun r=>Tr.tup (r.map VN))
 | _,_,_,.nil,.nil,_=>.nil
 | _,_,_,.cons ⟨b0,e,hb0⟩ pr,.cons v vt,h=>by
  subst e
  exact .cons (.ofP (n:=2) hb0 (by rw[Paired.length v];exact h _ List.mem_cons_self) (TV v)) (TW pr vt fun r hr=>h r (List.mem_cons_of_mem _ hr))
theorem Bm.trT {H:Hp}{u:V}{m:List (List Vl)}(h:Bm H u m)(l1:m.length≤100)(l2:∀ r∈m,r.length≤100):EW H u (trT m) 4:=by
 obtain⟨rows,⟨b,us,rfl,hb,pr⟩,vt⟩:=h
 exact .ofP (n:=3) hb (by rw[Paired.length pr,Paired.length vt];exact l1) (TW pr vt l2)
theorem LB.len {H:Hp}{l:Addr}{bs:List Addr}{rows:List (List V)}{m:List (List Vl)}(h:LB H l bs rows m):rows.length=m.length:=Paired.length h.vt
structure TT (H:Hp)(p l:Addr)(bs:List Addr)(rows:List (List V))(m:List (List Vl))(h w:Nat):Prop where
 d:D3 H p l bs rows h w
 vt:By H rows m
 ml:m.length=h
 ok:Xz m w
section
variable {p kn l:Addr}{H H':Hp}{h w:Nat}{m:List (List Vl)}{bs:List Addr}{rows:List (List V)}
theorem TT.kx (x:TT H p l bs rows m h w)(kp:Aw p H H')(kk:Kp H H'):TT H' p l bs rows m h w:=
 ⟨⟨kp _ _ x.d.lp x.d.ob,x.d.lp,x.d.np,Nj x.d.ls fun b row hb e=>kp _ _ (fun z=>x.d.np (z▸hb)) e,x.d.len,x.d.h1,x.d.h16,x.d.w1,x.d.w8,x.d.row⟩,By.kp x.vt kk,x.ml,x.ok⟩
theorem TT.same (x:TT H p l bs rows m h w)(s:AI H H'):TT H' p l bs rows m h w:=x.kx (AI.keep s) (Kp.same s)
theorem TT.rect (x:TT H p l bs rows m h w):Bp m w:=⟨fun z=>by have:=x.ml;have:=x.d.h1;rw[z]at *;simp at *;omega,x.d.w1,fun r hr=>(x.ok r hr).1⟩
theorem TT.of (x:Wj H p l bs rows m)(ml:m.length=h)(ok:Xz m w)(h1:1≤h)(h16:h≤16)(w1:1≤w)(w8:w≤8):TT H p l bs rows m h w:=
 ⟨⟨x.ob,x.lp,x.np,x.ls,(Paired.length x.vt).trans ml,h1,h16,w1,w8,fun r hr=>by
  obtain⟨j,hj⟩:=List.getElem?_of_mem hr
  obtain⟨mr,hmr,pv⟩:=Ar x.vt hj
  rw[Paired.length pv];exact(ok mr (List.mem_of_getElem? hmr)).1⟩,x.vt,ml,ok⟩
theorem TT.at (x:TT H p l bs rows m h w)(j k:Nat):∃ b r,bs[j%h]?=some b∧H b=some (.lst r)∧r.length=w∧r[k%w]?=some (cy .non rows j k)∧BD H (cy .non rows j k) (cy .none m j k):=by
 have h1:=x.d.h1
 have w1:=x.d.w1
 have hj:j%h<h:=Nat.mod_lt _ (by omega)
 have bl:bs.length=h:=(Paired.length x.d.ls).trans x.d.len
 have hb:bs[j%h]?=some bs[j%h]:=List.getElem?_eq_getElem (by omega)
 obtain⟨r,hr,hbr⟩:=Ar x.d.ls hb
 have lr:=x.d.row r (List.mem_of_getElem? hr)
 have hk:k%w<r.length:=by rw[lr];exact Nat.mod_lt _ (by omega)
 refine⟨_,r,hb,hbr,lr,?_,Dr x.vt x.rect j k⟩
 have wm:(rows.headD []).length=w:=(BE x.vt x.rect).wd
 rw[List.getElem?_eq_getElem hk]
 unfold cy
 rw[wm,x.d.len,List.getD_eq_getElem?_getD (l:=rows),hr,Option.getD_some,List.getD_eq_getElem?_getD,List.getElem?_eq_getElem hk,Option.getD_some]
end
theorem XR:Nd 0 1:=⟨by decide,by decide⟩
theorem Yv:Ap (.num 0 1):=⟨XR,by decide,by decide⟩
structure Dm (m:List (List Vl))(h w:Nat):Prop where
 rc:Bp m w
 len:m.length=h
 ok:∀ r∈m,∀ v∈r,Ap v
section
variable {m n:List (List Vl)}{h w h1 w1 h2 w2:Nat}{v:Vl}{hm:Hm}{s z:Str}
theorem Dm.g3 (x:Dm m h w)(h3:h≤3)(w3:w≤3):G3 m:=⟨w,x.rc,w3,by rw[x.len];exact h3,x.ok⟩
theorem Dm.wd (x:Dm m h w):wd m=w:=x.rc.wd
theorem Dm.hp (x:Dm m h w):1≤h:=by have:=x.rc.len;rw[x.len]at this;exact this
theorem Dm.hd (x:Dm m h w):Ap (hd0 m):=Jt x.rc x.ok
theorem Gn (h:Ap v):Dm [[v]] 1 1:=⟨TJ v,rfl,by simpa using h⟩
theorem Lw {f:Nat→Nat→Vl}(h1:1≤h)(w1:1≤w)(ok:∀ j k,j<h→k<w→Ap (f j k)):Dm (CC f h w) h w:=by
 refine⟨GN h1 w1,Cu,fun r hr v hv=>?_⟩
 unfold CC at hr
 obtain⟨j,hj,rfl⟩:=List.mem_map.mp hr
 obtain⟨k,hk,rfl⟩:=List.mem_map.mp hv
 exact ok j k (List.mem_range.mp hj) (List.mem_range.mp hk)
theorem TX (a:Dm m h1 w1)(b:Dm n h2 w2)(c:max h1 h2=h)(d:max w1 w2=w)(ho:EX hm):Dm (Sb s m n hm) h w:=by
 have g1:=a.hp;have g2:=a.rc.w1
 unfold Sb
 rw[a.len,b.len,a.wd,b.wd,c,d]
 exact Lw (by omega) (by omega) fun j k _ _=>Ls (HQ a.rc a.ok j k) (HQ b.rc b.ok j k) ho
theorem Uw {a b:Vl}(hv:Ap v)(ha:Ap a)(hb:Ap b)(ho:EX hm):Ap (XD v a b hm):=by
 cases v with
 | flt w z r c=>exact hv
 | none=>exact hb
 | tru t=>cases t with
  | true=>exact ha
  | false=>exact hb
 | num t b=>exact Gm (by nofun) ho
 | txt z=>exact Gm (by nofun) ho
theorem XT (hv:Ap v)(a:Dm m h1 w1)(b:Dm n h2 w2)(c:max h1 h2=h)(d:max w1 w2=w)(ho:EX hm):Dm (TQ v m n hm) h w:=by
 have g1:=a.hp;have g2:=a.rc.w1
 unfold TQ
 rw[a.len,b.len,a.wd,b.wd,c,d]
 exact Lw (by omega) (by omega) fun j k _ _=>Uw hv (HQ a.rc a.ok j k) (HQ b.rc b.ok j k) ho
theorem Ux (a:Dm m h w):Dm (Sl .none m (Fs.wd m)) w h:=by
 unfold Sl
 rw[a.len,a.wd]
 exact Lw a.rc.w1 a.hp fun j k _ _=>HQ a.rc a.ok k j
theorem Uy (a:Dm m h1 w)(b:Dm n h2 w):Dm (m++n) (h1+h2) w:=by
 refine⟨⟨fun z=>a.rc.ne (List.append_eq_nil_iff.mp z).1,a.rc.w1,fun r hr=>(List.mem_append.mp hr).elim (a.rc.row r) (b.rc.row r)⟩,by rw[List.length_append,a.len,b.len],fun r hr=>(List.mem_append.mp hr).elim (a.ok r) (b.ok r)⟩
theorem Uz {a b:Vl}(h1:1≤h)(h3:h≤3)(w1:1≤w)(w3:w≤3)(ha:Ap a)(hb:Ap b)(ho:EX hm):Dm (VS h w a b hm) h w:=by
 unfold VS
 refine Lw h1 w1 fun j k hj hk=>?_
 have:w*j≤3*3:=Nat.mul_le_mul w3 (by omega)
 exact Ls ha (Ls hb (Gk (by have:=SY;omega)) ho) ho
theorem Om {ns:List (Int×Int)}(hn:∀ n∈ns,0<n.2)(ho:EX hm):Ap (Sf ns hm):=by
 have:=HV hn
 exact OT (DL (by omega)) ho.1 ho.2.1 ho.2.2.1 ho.2.2.2.1 ho.2.2.2.2
theorem M0 {ms:List Vl}(ok:∀ v∈ms,Ap v):∀ n∈A8 ms,0<n.2:=fun n hn=>by
 have:=(ok _ (HZ hn)).1.pos
 omega
theorem On {b:Bool}:∀(ns:List (Int×Int)) (o:Option (Int×Int)) (n:Int×Int),ns.foldl (HY b) o=some n→o=some n∨n∈ns
 | [],o,n,h=>.inl h
 | x::t,o,n,h=>by
  rw[List.foldl_cons]at h
  rcases On t _ n h with e | e
  ·cases o with
   | none=>exact .inr (by cases e;exact List.mem_cons_self)
   | some y=>
    by_cases c:(if b=true then Ee y x else Ee x y)=true
    ·rw[Si c]at e;cases e;exact .inr List.mem_cons_self
    ·rw[Sj c]at e;exact .inl e
  ·exact .inr (List.mem_cons_of_mem _ e)
theorem Oo {ms:List Vl}(ok:∀ v∈ms,Ap v)(hv:Ap v):Ap (KU ms v):=by
 unfold KU
 split
 ·rename_i e;exact ok _ (List.mem_of_find?_eq_some e)
 ·exact hv
theorem U0 {ms:List Vl}(ok:∀ v∈ms,Ap v)(hl:ms.length≤9)(ho:EX hm):Ap (Ro z ms hm):=by
 unfold Ro
 refine Oo ok ?_
 split
 ·exact Om (M0 ok) ho
 ·split
  ·have h1:(A8 ms).length≤ms.length:=List.length_filterMap_le _ _
   exact Gk (by have:=SY;omega)
  ·cases e:GT (decide (z=Str.ofString "most")) (A8 ms)with
   | none=>trivial
   | some n=>
    rcases On _ _ _ e with q | q
    ·cases q
    ·exact ok _ (HZ q)
theorem U1 {k:Vl}(hk:Ap k)(b:∀ r∈n,∀ v∈r,Ap v)(ho:EX hm):Ap (TR s m k n hm):=by
 unfold TR
 split
 ·exact hk
 ·rw[RU]
  have ok:∀ v∈chz s k hm (m.flatten.zip n.flatten),Ap v:=fun v hv=>GM b v (Of hv)
  exact Oo ok (Om (M0 ok) ho)
theorem Op {k:Vl}{j:Nat}{x:Vl}:∀{m:List (List Vl)},IC k j m=some x→∃ r∈m,x=r.getD j .none
 | [],h=>by cases h
 | r::m,h=>by
  rw[IC]at h
  split at h
  ·cases h;exact⟨r,List.mem_cons_self,rfl⟩
  ·obtain⟨r',h1,h2⟩:=Op h
   exact⟨r',List.mem_cons_of_mem _ h1,h2⟩
theorem U2 {k a:Vl}(hk:Ap k)(ha:Ap a)(b:∀ r∈m,∀ v∈r,Ap v)(ho:EX hm):Ap (NE k m a hm):=by
 unfold NE
 split
 ·exact hk
 ·split
  ·exact ha
  ·split
   ·exact Gm (by nofun) ho
   ·cases e:IC k (Jn a) m with
    | none=>exact Gm (by nofun) ho
    | some x=>
     obtain⟨r,hr,rfl⟩:=Op e
     show Ap (r.getD (Jn a) .none)
     rw[List.getD_eq_getElem?_getD]
     cases e2:r[Jn a]? with
     | none=>trivial
     | some y=>exact b r hr y (List.mem_of_getElem? e2)
theorem Sn {fo:Vl→Vl}(h:Ap v)(hf:∀ v,Ap v→Ap (fo v)):Ap (TU fo v):=by
 unfold TU
 split
 ·exact h
 ·exact hf v h
end
def Fg (dom:Str→Int→Int→Prop)(l:Lf)(h w:Nat):Prop:=(h=1∧w=1∧((∃ v,l=.val v∧Ap v∧Y8 v)∨∃ z,l=.flt z∧z∈Ct))∨∃ z c d,Fy dom l z c d∧(d.r-c.r+1).toNat=h∧(d.c-c.c+1).toNat=w
inductive Ty (dom:Str→Int→Int→Prop):Nat→Fm→Nat→Nat→Prop
 | lf {n l h w}:Fg dom l h w→1≤h→h≤3→1≤w→w≤3→Ty dom (n+1) (.lf l) h w
 | op {n s a b h w h1 w1 h2 w2}:s∈Xw→Ty dom n a h1 w1→Ty dom n b h2 w2→(h1=h∧w1=w∧h2=h∧w2=w)∨(h1=h∧w1=w∧h2=1∧w2=1)∨(h1=1∧w1=1∧h2=h∧w2=w)→Ty dom (n+1) (.nd (.op s) [a,b]) h w
 | neg {n a h w}:Ty dom n a h w→Ty dom (n+1) (.nd .neg [a]) h w
 | cond {n a b c h w}:Ty dom n a 1 1→Ty dom n b h w→Ty dom n c 1 1→Ty dom (n+1) (.nd (.wd (zS "if")) [a,b,c]) h w
 | turn {n a h w}:Ty dom n a w h→Ty dom (n+1) (.nd (.wd (zS "turn")) [a]) h w
 | stack {n a b h1 h2 w}:Ty dom n a h1 w→Ty dom n b h2 w→h1+h2≤3→Ty dom (n+1) (.nd (.wd (zS "stack")) [a,b]) (h1+h2) w
 | grid {n a b} {h w:Nat}:1≤h→h≤3→1≤w→w≤3→Ty dom n a 1 1→Ty dom n b 1 1→Ty dom (n+1) (.nd (.grid h w) [a,b]) h w
 | w4 {n z a h w}:z∈W4→Ty dom n a h w→Ty dom (n+1) (.nd (.wd z) [a]) 1 1
 | outer {n a}:Ty dom n a 1 1→Ty dom (n+1) (.nd (.wd (zS "outer")) [a]) 1 1
 | sumif {n s a b c h w}:(s=Str.ofString "="∨s=Str.ofString "<")→Ty dom n a h w→Ty dom n b 1 1→Ty dom n c h w→Ty dom (n+1) (.nd (.sumif s) [a,b,c]) 1 1
 | find {n a b c h w}:Ty dom n a 1 1→Ty dom n b h w→Ty dom n c 1 1→Ty dom (n+1) (.nd (.wd (zS "find")) [a,b,c]) 1 1
theorem Fg.mono {dom dom':Str→Int→Int→Prop}{l:Lf}{h w:Nat}(x:Fg dom l h w)(s:∀ z r c,dom z r c→dom' z r c):Fg dom' l h w:=by
 rcases x with x | ⟨z,c,d,g,e1,e2⟩
 ·exact .inl x
 ·exact .inr ⟨z,c,d,⟨g.b,g.nm,g.r0,g.r1,g.r16,g.c0,g.c1,g.c8,fun i j a b c d=>s _ _ _ (g.dm i j a b c d)⟩,e1,e2⟩
theorem Ty.mono {dom dom':Str→Int→Int→Prop}{n:Nat}{f:Fm}{h w:Nat}(x:Ty dom n f h w)(s:∀ z r c,dom z r c→dom' z r c):Ty dom' n f h w:=by
 induction x with
 | lf a b c d e=>exact .lf (a.mono s) b c d e
 | op a _ _ d i1 i2=>exact .op a i1 i2 d
 | neg _ i=>exact .neg i
 | cond _ _ _ i1 i2 i3=>exact .cond i1 i2 i3
 | turn _ i=>exact .turn i
 | stack _ _ c i1 i2=>exact .stack i1 i2 c
 | grid a b c d _ _ i1 i2=>exact .grid a b c d i1 i2
 | w4 a _ i=>exact .w4 a i
 | outer _ i=>exact .outer i
 | sumif a _ _ _ i1 i2 i3=>exact .sumif a i1 i2 i3
 | find _ _ _ i1 i2 i3=>exact .find i1 i2 i3
theorem Ty.bd {dom:Str→Int→Int→Prop}{n:Nat}{f:Fm}{h w:Nat}(x:Ty dom n f h w):1≤h∧h≤3∧1≤w∧w≤3:=by
 induction x with
 | lf a b c d e=>exact⟨b,c,d,e⟩
 | op a _ _ d i1 i2=>omega
 | neg _ i=>exact i
 | cond _ _ _ i1 i2 i3=>exact i2
 | turn _ i=>omega
 | stack _ _ c i1 i2=>omega
 | grid a b c d _ _ i1 i2=>exact⟨a,b,c,d⟩
 | w4 a _ i=>omega
 | outer _ i=>omega
 | sumif a _ _ _ i1 i2 i3=>omega
 | find _ _ _ i1 i2 i3=>omega
theorem Rb {P:Fm→Prop}{a:Fm}(x:P a):∀ f∈[a],P f:=List.forall_mem_cons.mpr ⟨x,List.forall_mem_nil _⟩
theorem So {P:Fm→Prop}{a b:Fm}(x:P a)(y:P b):∀ f∈[a,b],P f:=List.forall_mem_cons.mpr ⟨x,Rb y⟩
theorem U3 {P:Fm→Prop}{a b c:Fm}(x:P a)(y:P b)(z:P c):∀ f∈[a,b,c],P f:=List.forall_mem_cons.mpr ⟨x,So y z⟩
theorem Ty.fO {dom:Str→Int→Int→Prop}{n:Nat}{f:Fm}{h w:Nat}(x:Ty dom n f h w):FO 0 n f:=by
 induction x with
 | lf a b c d e=>
  rcases a with⟨_,_,⟨v,rfl,h1,h2⟩ | ⟨z,rfl,hz⟩⟩ | ⟨z,c,d,g,_⟩
  ·exact .lf ⟨h1,h2⟩
  ·exact .lf hz
  ·exact .lf (W2 g)
 | op a _ _ d i1 i2=>exact .nd ⟨a,rfl⟩ (So i1 i2)
 | neg _ i=>exact .nd (k:=.neg) rfl (Rb i)
 | cond _ _ _ i1 i2 i3=>exact .nd (show(zS "if",3)∈Pb by nofun) (U3 i1 i2 i3)
 | turn _ i=>exact .nd (show(zS "turn",1)∈Pb by nofun) (Rb i)
 | stack _ _ c i1 i2=>exact .nd (show(zS "stack",2)∈Pb by nofun) (So i1 i2)
 | grid a b c d _ _ i1 i2=>exact .nd (k:=.grid _ _) ⟨by omega,by omega,by omega,by omega,rfl⟩ (So i1 i2)
 | w4 a _ i=>exact .nd (show(_,1)∈Pb by rcases Nr a with rfl | rfl | rfl | rfl <;> nofun) (Rb i)
 | outer _ i=>exact .nd (show(zS "outer",1)∈Pb by nofun) (Rb i)
 | sumif a _ _ _ i1 i2 i3=>exact .nd ⟨a,rfl⟩ (U3 i1 i2 i3)
 | find _ _ _ i1 i2 i3=>exact .nd (show(zS "find",3)∈Pb by nofun) (U3 i1 i2 i3)
section
variable {dom:Str→Int→Int→Prop}{g:Str→Int→Int→Vl}{fo:Vl→Vl}{hm:Hm}{n:Nat}{f:Fm}{h w:Nat}
theorem Fg.dm {l:Lf}(x:Fg dom l h w)(hg:∀ z r c,dom z r c→Ap (g z r c))(ho:EX hm):Dm (RW g hm l) h w∧Ut dom g l:=by
 rcases x with⟨rfl,rfl,⟨v,rfl,h1,h2⟩ | ⟨z,rfl,hz⟩⟩ | ⟨z,c,d,lg,rfl,rfl⟩
 ·exact⟨Gn h1,.inl ⟨v,rfl⟩⟩
 ·exact⟨Gn ⟨hz,ho⟩,.inr (.inl ⟨z,rfl⟩)⟩
 ·have g1:=lg.r1;have g2:=lg.c1
  refine⟨?_,.inr (.inr ⟨z,c,d,lg⟩)⟩
  rw[IW lg]
  unfold Rl
  rw[lg.b]
  refine⟨Mo (by omega) (by omega),Lj,fun r hr v hv=>?_⟩
  unfold Pc at hr
  obtain⟨i,hi,rfl⟩:=List.mem_map.mp hr
  obtain⟨j,hj,rfl⟩:=List.mem_map.mp hv
  have:=List.mem_range.mp hi
  have:=List.mem_range.mp hj
  exact hg _ _ _ (lg.dm _ _ (by omega) (by omega) (by omega) (by omega))
theorem XU {m:List (List Vl)}(x:Dm m h w)(h3:h≤3)(w3:w≤3):m.flatten.length≤9:=by
 have:m.length*w≤3*3:=Nat.mul_le_mul (by rw[x.len];exact h3) w3
 rw[CL x.rc.row];omega
theorem Ty.dm (x:Ty dom n f h w)(hg:∀ z r c,dom z r c→Ap (g z r c))(ho:EX hm)(hf:∀ v,Ap v→Ap (fo v)):Dm (Au fo g hm f) h w:=by
 induction x with
 | lf a b c d e=>rw[BV];exact(a.dm hg ho).1
 | op a t1 t2 d i1 i2=>
  have b1:=t1.bd;have b2:=t2.bd
  rw[Oh]
  exact TX i1 i2 (by omega) (by omega) ho
 | neg t i=>
  have b1:=t.bd
  rw[Lv]
  exact TX (Gn Yv) i (by omega) (by omega) ho
 | cond _ t2 _ i1 i2 i3=>
  have b1:=t2.bd
  rw[Oj]
  exact XT i1.hd i2 i3 (by omega) (by omega) ho
 | turn _ i=>rw[JJ];exact Ux i
 | stack _ _ c i1 i2=>rw[Hc];exact Uy i1 i2
 | grid a b c d _ _ i1 i2=>rw[JI];exact Uz a b c d i1.hd i2.hd ho
 | w4 a t i=>
  obtain⟨_,h3,_,w3⟩:=t.bd
  rw[Oi a]
  exact Gn (U0 (GM i.ok) (XU i h3 w3) ho)
 | outer _ i=>rw[Hb];exact Gn (Sn i.hd hf)
 | sumif a _ _ _ i1 i2 i3=>rw[Ha];exact Gn (U1 i2.hd i3.ok ho)
 | find _ _ _ i1 i2 i3=>rw[JK];exact Gn (U2 i1.hd i3.hd i2.ok ho)
theorem Ty.g3 (x:Ty dom n f h w)(hg:∀ z r c,dom z r c→Ap (g z r c))(ho:EX hm)(hf:∀ v,Ap v→Ap (fo v)):G3 (Au fo g hm f):=(x.dm hg ho hf).g3 x.bd.2.1 x.bd.2.2.2
theorem Ty.okN (x:Ty dom n f h w)(hg:∀ z r c,dom z r c→Ap (g z r c))(ho:EX hm)(hf:∀ v,Ap v→Ap (fo v)):okN dom g fo hm f:=by
 cases x with
 | lf a b c d e=>exact .inl ⟨_,rfl,(a.dm (hm:=hm) hg ho).2⟩
 | op a t1 t2 d=>
  have d1:=t1.dm (fo:=fo) hg ho hf;have d2:=t2.dm (fo:=fo) hg ho hf
  refine .inr (.inl ⟨_,_,_,rfl,t1.g3 hg ho hf,t2.g3 hg ho hf,?_⟩)
  unfold RL
  rw[d1.len,d1.wd,d2.len,d2.wd]
  omega
 | neg t=>exact .inr (.inr (.inl ⟨_,rfl,t.g3 hg ho hf⟩))
 | cond t1 t2 t3=>
  have d3:=t3.dm (fo:=fo) hg ho hf
  exact .inr (.inr (.inr (.inl ⟨_,_,_,rfl,t1.g3 hg ho hf,t2.g3 hg ho hf,t3.g3 hg ho hf,.inr (.inl ⟨d3.len,d3.wd⟩)⟩)))
 | turn t=>exact .inr (.inr (.inr (.inr (.inl ⟨_,rfl,t.g3 hg ho hf⟩))))
 | stack t1 t2 c=>exact .inr (.inr (.inr (.inr (.inr (.inl ⟨_,_,rfl,t1.g3 hg ho hf,t2.g3 hg ho hf⟩)))))
 | grid a b c d t1 t2=>exact .inr (.inr (.inr (.inr (.inr (.inr (.inl ⟨_,_,_,_,rfl,a,b,c,d,t1.g3 hg ho hf,t2.g3 hg ho hf⟩))))))
 | w4 a t=>exact .inr (.inr (.inr (.inr (.inr (.inr (.inr (.inl ⟨_,_,rfl,a,t.g3 hg ho hf⟩)))))))
 | outer t=>exact .inr (.inr (.inr (.inr (.inr (.inr (.inr (.inr (.inl ⟨_,rfl,t.g3 hg ho hf⟩))))))))
 | sumif a t1 t2 t3=>
  have d1:=t1.dm (fo:=fo) hg ho hf;have d3:=t3.dm (fo:=fo) hg ho hf
  exact .inr (.inr (.inr (.inr (.inr (.inr (.inr (.inr (.inr (.inl ⟨_,_,_,_,rfl,t1.g3 hg ho hf,t2.g3 hg ho hf,t3.g3 hg ho hf,by rw[d1.len,d3.len],by rw[d1.wd,d3.wd]⟩)))))))))
 | find t1 t2 t3=>exact .inr (.inr (.inr (.inr (.inr (.inr (.inr (.inr (.inr (.inr ⟨_,_,_,rfl,t1.g3 hg ho hf,t2.g3 hg ho hf,t3.g3 hg ho hf⟩)))))))))
theorem X1 {P:Fm→Prop}{k:Kd}{a:Fm}(i:∀ x∈Dy a,P x)(o:P (.nd k [a])):∀ x∈Dy (.nd k [a]),P x:=fun x hx=>by
 have hx':x∈Dy a∨x=.nd k [a]:=by simpa [Dy,FZ]using hx
 rcases hx' with h | rfl
 ·exact i x h
 ·exact o
theorem Yw {P:Fm→Prop}{k:Kd}{a b:Fm}(i:∀ x∈Dy a,P x)(j:∀ x∈Dy b,P x)(o:P (.nd k [a,b])):∀ x∈Dy (.nd k [a,b]),P x:=fun x hx=>by
 have hx':x∈Dy a∨x∈Dy b∨x=.nd k [a,b]:=by simpa [Dy,FZ]using hx
 rcases hx' with h | h | rfl
 ·exact i x h
 ·exact j x h
 ·exact o
theorem Yx {P:Fm→Prop}{k:Kd}{a b c:Fm}(i:∀ x∈Dy a,P x)(j:∀ x∈Dy b,P x)(l:∀ x∈Dy c,P x)(o:P (.nd k [a,b,c])):∀ x∈Dy (.nd k [a,b,c]),P x:=fun x hx=>by
 have hx':x∈Dy a∨x∈Dy b∨x∈Dy c∨x=.nd k [a,b,c]:=by simpa [Dy,FZ]using hx
 rcases hx' with h | h | h | rfl
 ·exact i x h
 ·exact j x h
 ·exact l x h
 ·exact o
theorem Ty.al (x:Ty dom n f h w)(hg:∀ z r c,dom z r c→Ap (g z r c))(ho:EX hm)(hf:∀ v,Ap v→Ap (fo v)):∀ y∈Dy f,Fs.okN dom g fo hm y:=by
 have k:=x.okN hg ho hf
 induction x with
 | lf a b c d e=>intro y hy;rw[show y=_ by simpa [Dy]using hy];exact k
 | op a t1 t2 d i1 i2=>exact Yw (i1 (t1.okN hg ho hf)) (i2 (t2.okN hg ho hf)) k
 | neg t i=>exact X1 (i (t.okN hg ho hf)) k
 | cond t1 t2 t3 i1 i2 i3=>exact Yx (i1 (t1.okN hg ho hf)) (i2 (t2.okN hg ho hf)) (i3 (t3.okN hg ho hf)) k
 | turn t i=>exact X1 (i (t.okN hg ho hf)) k
 | stack t1 t2 c i1 i2=>exact Yw (i1 (t1.okN hg ho hf)) (i2 (t2.okN hg ho hf)) k
 | grid a b c d t1 t2 i1 i2=>exact Yw (i1 (t1.okN hg ho hf)) (i2 (t2.okN hg ho hf)) k
 | w4 a t i=>exact X1 (i (t.okN hg ho hf)) k
 | outer t i=>exact X1 (i (t.okN hg ho hf)) k
 | sumif a t1 t2 t3 i1 i2 i3=>exact Yx (i1 (t1.okN hg ho hf)) (i2 (t2.okN hg ho hf)) (i3 (t3.okN hg ho hf)) k
 | find t1 t2 t3 i1 i2 i3=>exact Yx (i1 (t1.okN hg ho hf)) (i2 (t2.okN hg ho hf)) (i3 (t3.okN hg ho hf)) k
end
def M3 (t b:Int):Bool:=decide ((99:Int)<(if b>(if t<0 then -t else t)then b else(if t<0 then -t else t)))
def IX:Vl→Vl
 | .num t b=>if M3 t b=true then .num 5 2 else .num t b
 | v=>v
def XV:Sp:=fun vs H Q _=>∃(u:V) (v:Vl),vs=[u]∧BD H u v∧∀ x H',BD H' x (IX v)→AI H H'→Q x H'
theorem LK {t b:Int}(c:M3 t b=true):IX (.num t b)=.num 5 2:=by
 show(if M3 t b=true then Vl.num 5 2 else .num t b)=_
 rw[if_pos c]
theorem LL {t b:Int}(c:¬ M3 t b=true):IX (.num t b)=.num t b:=by
 show(if M3 t b=true then Vl.num 5 2 else .num t b)=_
 rw[if_neg c]
theorem Rc {v:Vl}(h:Ap v):Ap (IX v)∧∀ n,Ur (IX v)=some n→n.1.natAbs≤2 ^ 7∧n.2.natAbs≤2 ^ 7:=by
 cases v with
 | num t b=>
  obtain⟨lo,h1,h2⟩:=h
  have bp:=lo.pos
  by_cases c:M3 t b=true
  ·rw[LK c]
   exact⟨⟨⟨by decide,by decide⟩,by decide,by decide⟩,fun n hn=>by cases hn;decide⟩
  ·rw[LL c]
   refine⟨⟨lo,h1,h2⟩,fun n hn=>?_⟩
   cases hn
   unfold M3 at c
   rw[decide_eq_true_eq]at c
   have h3:t.natAbs≤99∧b.natAbs≤99:=by
    split at c <;> split at c <;> omega
   exact⟨by show t.natAbs≤2 ^ 7;omega,by show b.natAbs≤2 ^ 7;omega⟩
 | none=>exact⟨h,fun n hn=>by cases hn⟩
 | txt z=>exact⟨h,fun n hn=>by cases hn⟩
 | tru b=>exact⟨h,fun n hn=>by cases hn⟩
 | flt w z r c=>exact⟨h,fun n hn=>by cases hn⟩
theorem TT.rd {K:PySem.W.Frag}{S:Addr×List Int}{H0 H:Hp}{p l:Addr}{n h w:Nat}{bs:List Addr}{rows:List (List V)}{f:Nat→Nat→Vl}(x:RD H0 H l bs rows (CC f h w))(pen:Bd K S H0 p n)(h1:1≤h)(h16:h≤16)(w1:1≤w)(w8:w≤8)(ok:∀ j k,Ap (f j k)):TT H p l bs rows (CC f h w) h w:=by
 obtain⟨_,eo⟩:=pen.ob
 have rc:Bp (CC f h w) w:=GN h1 w1
 refine⟨⟨x.b.ob,fun z=>?_,fun z=>?_,x.b.ls,x.b.len.trans Cu,h1,h16,w1,w8,fun r hr=>?_⟩,x.b.vt,Cu,fun r hr=>⟨rc.row r hr,fun v hv=>?_⟩⟩
 ·have:=x.fl;rw[z,eo]at this;cases this
 ·have:=x.fb _ z;rw[eo]at this;cases this
 ·obtain⟨j,hj⟩:=List.getElem?_of_mem hr
  obtain⟨mr,hmr,pv⟩:=Ar x.b.vt hj
  rw[Paired.length pv];exact rc.row mr (List.mem_of_getElem? hmr)
 ·unfold CC at hr
  obtain⟨j,_,rfl⟩:=List.mem_map.mp hr
  obtain⟨k,_,rfl⟩:=List.mem_map.mp hv
  exact ok j k
theorem KW {X:Cx}{scope:Scope}{cl:List (Str×Addr)}{C:Addr}{N:List Str}{s₀:Shared}{H₀:Hp}{ex:List Addr}{pn:List (Addr×Obj)}:Dw (A4 X scope cl C N s₀ H₀ ex pn) (.builtin "len") (fun xs H Q=>∃ p ys,xs=[.ref p]∧(Ax X.K H p ys∨Af X.K H p ys)∧Q (.int ys.length) H):=Ab
theorem Re {X:Cx}{scope:Scope}{cl:List (Str×Addr)}{C:Addr}{N:List Str}{s₀:Shared}{H₀:Hp}{ex:List Addr}{pn:List (Addr×Obj)}{tg l:Expr}{tl:TE}(hl:PE (A4 X scope cl C N s₀ H₀ ex pn) l tl):PI (A4 X scope cl C N s₀ H₀ ex pn) tg l (Sv X.K tl):=Dl hl
def Oq (kvs kvs':List (List BC×V))(rows:List (List V)):Prop:=∀ key,(∀ v,CA kvs' key=some v→CA kvs key=some v∨∃ row∈rows,v∈row)∧(CA kvs key≠none→CA kvs' key≠none)
theorem Oq.refl (kvs:List (List BC×V))(rows:List (List V)):Oq kvs kvs rows:=fun _=>⟨fun _ h=>.inl h,fun h=>h⟩
theorem Oq.put {kvs kvs':List (List BC×V)}{rows:List (List V)}{k:List BC}{v:V}{row:List V}{i j:Nat}(h:Oq kvs kvs' rows)(hr:rows[i]?=some row)(hv:row[j]?=some v):Oq kvs (FB kvs' k v) rows:=fun key=>by
 rw[Jd]
 by_cases e:key=k
 ·rw[if_pos e]
  exact⟨fun u hu=>.inr ⟨row,List.mem_of_getElem? hr,by cases hu;exact List.mem_of_getElem? hv⟩,fun _ z=>by cases z⟩
 ·rw[if_neg e]
  exact h key
def U4 (K:PySem.W.Frag):Sp:=fun vs H Q _=>∃(kn l:Addr) (z:Str) (hi wi:Int) (kvs:List (List BC×V)) (us:List V) (rows:List (List V)) (h w:Nat),vs=[.ref kn,.str z,.ref l,.int hi,.int wi]∧H kn=some (.dT kvs)∧kvs.length≤800∧((H l=some (.lst us)∧Paired (fun u row=>∃ c,u=.ref c∧H c=some (.lst row)) us rows)∨(H l=some (.tup us)∧Paired (fun u row=>∃ c,u=.ref c∧H c=some (.tup row)) us rows))∧rows.length=h∧1≤h∧h≤16∧1≤w∧w≤8∧(∀ r∈rows,r.length=w)∧
 ∀(a:Addr) (lf:Lf) (c d:Mn) (kvs':List (List BC×V)) (H':Hp),H' kn=some (.dT kvs')→kvs'.length≤kvs.length+h*w→Ff kvs' z hi wi rows h 0→Ii kvs kvs' z→Oq kvs kvs' rows→FD H' a lf→SV lf=some (z,c,d)→c.r=hi+1→c.c=wi+1→d.r=hi+h→d.c=wi+w→Aw kn H H'→Q (.ref a) H'
def U5 (K:PySem.W.Frag):Sp:=fun vs H Q _=>∃(p kn l:Addr) (z:Str) (kvs:List (List BC×V)) (bs:List Addr) (rows:List (List V)) (h w n:Nat) (S:Addr×List Int),vs=[.ref p,.ref kn,.str z,.ref l]∧Bd K S H p n∧n≤9000000∧H kn=some (.dT kvs)∧kvs.length≤800∧H l=some (.lst (bs.map V.ref))∧l≠p∧p∉bs∧Mp H bs rows∧rows.length=h∧1≤h∧h≤16∧1≤w∧w≤8∧(∀ r∈rows,r.length=w)∧
 ∀(a:Addr) (lf:Lf) (c d:Mn) (hi wi:Int) (kvs':List (List BC×V)) (H':Hp),H' kn=some (.dT kvs')→kvs'.length≤kvs.length+h*w→Ff kvs' z hi wi rows h 0→Oq kvs kvs' rows→FD H' a lf→SV lf=some (z,c,d)→c.r=hi+1→c.c=wi+1→d.r=hi+h→d.c=wi+w→0≤hi→hi+h≤16→0≤wi→wi+w≤8→
  Bd K S H' p (n+2)→(∀ b o,b≠p→b≠kn→H b=some o→H' b=some o)→Q (.ref a) H'
theorem TY {H:Hp}:∀{bs:List Addr} {rows:List (List V)},Mp H bs rows→Paired (fun u row=>∃ c,u=V.ref c∧H c=some (.lst row)) (bs.map V.ref) rows
 | _,_,.nil=>.nil
 | _,_,.cons h t=>.cons ⟨_,rfl,h⟩ (TY t)
def Go (kvs:List (List BC×V))(z:Str)(r c:Int):Prop:=CA kvs (cK z r c)≠none
structure Fh (H:Hp)(kn:Addr)(kvs:List (List BC×V)):Prop where
 ob:H kn=some (.dT kvs)
 ok:∀ key v,CA kvs key=some v→∃ x,BD H v x∧Ap x
theorem Fh.kp {H H':Hp}{kn:Addr}{kvs:List (List BC×V)}(h:Fh H kn kvs)(e:H' kn=some (.dT kvs))(s:Kp H H'):Fh H' kn kvs:=⟨e,fun key v z=>let ⟨x,h1,h2⟩:=h.ok key v z;⟨x,h1.kp s,h2⟩⟩
theorem Fh.same {H H':Hp}{kn:Addr}{kvs:List (List BC×V)}(h:Fh H kn kvs)(s:AI H H'):Fh H' kn kvs:=h.kp (s _ _ h.ob) (Kp.same s)
structure Bz (K:PySem.W.Frag)(S:Addr×List Int)(H H':Hp)(p kn:Addr)(c:Nat)(kvs kvs':List (List BC×V))(k:Nat):Prop where
 pen:Bd K S H' p c
 kd:Fh H' kn kvs'
 len:kvs'.length≤kvs.length+k
 dm:∀ z r c,Go kvs z r c→Go kvs' z r c
 kp:E4 p kn H H'
section
variable {K:PySem.W.Frag}{S:Addr×List Int}{H H' H2:Hp}{p kn:Addr}{c c' k k':Nat}{kvs kvs' kvs2:List (List BC×V)}
theorem Bz.refl (pen:Bd K S H p c)(x:Fh H kn kvs):Bz K S H H p kn c kvs kvs 0:=⟨pen,x,by omega,fun _ _ _ h=>h,fun _ _ _ _ e=>e⟩
theorem Bz.trans (x:Bz K S H H' p kn c kvs kvs' k)(y:Bz K S H' H2 p kn c' kvs' kvs2 k'):Bz K S H H2 p kn c' kvs kvs2 (k+k'):=
 ⟨y.pen,y.kd,by have:=x.len;have:=y.len;omega,fun z r c h=>y.dm _ _ _ (x.dm _ _ _ h),x.kp.trans y.kp⟩
theorem Bz.mono (x:Bz K S H H' p kn c kvs kvs' k)(h1:c≤c')(h2:k≤k'):Bz K S H H' p kn c' kvs kvs' k':=⟨x.pen.mono h1,x.kd,by have:=x.len;omega,x.dm,x.kp⟩
theorem Bz.same (x:Bz K S H H' p kn c kvs kvs' k)(s:AI H' H2):Bz K S H H2 p kn c kvs kvs' k:=⟨x.pen.same s,x.kd.same s,x.len,x.dm,x.kp.trans (E4.of s)⟩
theorem Fh.ne (h:Fh H kn kvs)(pen:Bd K S H p c):kn≠p:=by obtain⟨_,eo⟩:=pen.ob;exact BJ h.ob eo (by intro z;cases z)
theorem Bz.kx (x:Bz K S H H' p kn c kvs kvs' k)(pen:Bd K S H2 p c')(kp:Aw p H' H2):Bz K S H H2 p kn c' kvs kvs' k:=
 ⟨pen,x.kd.kp (kp _ _ (x.kd.ne x.pen) x.kd.ob) (x.pen.kp kp),x.len,x.dm,fun b o h1 h2 e=>kp _ _ h1 (x.kp _ _ h1 h2 e)⟩
theorem Bz.kk (x:Bz K S H H' p kn c kvs kvs' k)(pen:Bd K S H p c')(h:Fh H kn kvs):Kp H H':=by obtain⟨_,eo⟩:=pen.ob;exact E4.kp x.kp eo h.ob
end
def U6 (K:PySem.W.Frag):Sp:=fun vs H Q _=>∃(p kn:Addr) (h w n:Nat) (S:Addr×List Int) (kvs:List (List BC×V)),vs=[.ref p,.ref kn,.int h,.int w]∧1≤h∧h≤3∧1≤w∧w≤3∧Bd K S H p n∧n≤4000000∧Fh H kn kvs∧kvs.length≤700∧
 ∀(u:V) (l:Lf) (kvs':List (List BC×V)) (H':Hp),A7 H' u (.lf l)→Fg (Go kvs') l h w→Bz K S H H' p kn (n+410) kvs kvs' 9→Q u H'
def pT:Nat→Nat
 | 0=>600
 | n+1=>3*pT n+600
def kT:Nat→Nat
 | 0=>9
 | n+1=>3*kT n+9
def Rf (K:PySem.W.Frag)(n:Nat):Sp:=fun vs H Q _=>∃(p kn:Addr) (h w c:Nat) (S:Addr×List Int) (kvs:List (List BC×V)),vs=[.ref p,.ref kn,.int h,.int w,.int n]∧1≤h∧h≤3∧1≤w∧w≤3∧Bd K S H p c∧c+pT n≤3000000∧Fh H kn kvs∧kvs.length+kT n≤700∧
 ∀(u:V) (f:Fm) (kvs':List (List BC×V)) (H':Hp),A7 H' u f→Ty (Go kvs') (n+1) f h w→Bz K S H H' p kn (c+pT n) kvs kvs' (kT n)→Q u H'
def U7 (K:PySem.W.Frag)(n:Nat):Sp:=fun vs H Q _=>∃(p kn:Addr) (c:Nat) (S:Addr×List Int) (kvs:List (List BC×V)),vs=[.ref p,.ref kn,.int ((n+1:Nat):Int)]∧Bd K S H p c∧c+3*pT n+20≤3000000∧Fh H kn kvs∧kvs.length+3*kT n≤700∧
 ∀(u:V) (f:Fm) (kvs':List (List BC×V)) (H':Hp),A7 H' u f→Ty (Go kvs') (n+2) f 1 1→Bz K S H H' p kn (c+3*pT n+20) kvs kvs' (3*kT n)→Q u H'
def Pt (t:Int):Int:=if t<0 then -t else t
def Nv (t b:Int):Bool:=decide ((if b>Pt t then b else Pt t)<(10:Int) ^ (20:Int).toNat)
def DD:Vl→Vl
 | .num t b=>if Nv t b=true then .num (CP (t+b) b) (CB (t+b) b)else .num 7 2
 | _=>.num 7 2
theorem XW:Ap (.num 7 2):=⟨⟨by decide,by decide⟩,by decide,by decide⟩
theorem Os {t b:Int}(h:Nv t b=true):t.natAbs<10 ^ 20∧b<10 ^ 20:=by
 have h':(if b>Pt t then b else Pt t)<(10:Int) ^ 20:=of_decide_eq_true h
 have ea:Pt t=(t.natAbs:Int):=by
  unfold Pt
  by_cases c:t<0
  ·rw[if_pos c];omega
  ·rw[if_neg c];omega
 rw[ea]at h'
 by_cases c:b>(t.natAbs:Int)
 ·rw[if_pos c]at h';omega
 ·rw[if_neg c]at h';omega
theorem FI {v:Vl}(h:Ap v):Ap (DD v):=by
 cases v with
 | num t b=>
  show Ap (if Nv t b=true then .num (CP (t+b) b) (CB (t+b) b)else .num 7 2)
  by_cases c:Nv t b=true
  ·rw[if_pos c]
   obtain⟨g1,g2⟩:=Os c
   have hb:=h.1.pos
   exact Lm (by omega) (by omega) (by omega)
  ·rw[if_neg c];exact XW
 | _=>exact XW
def XX:Sp:=fun vs H Q _=>∃(u:V) (v:Vl),vs=[u]∧BD H u v∧Ap v∧∀ x H',BD H' x (DD v)→AI H H'→Q x H'
theorem XY:∀ r∈[(0:Int),1,2,3,4,5,6,7],((Gh (Str.ofString "abcdefgh").cps.toList r).any fun c=>decide (97≤c)&&decide (c≤122))=true:=by nofun
theorem XZ {r:Int}(h0:0≤r)(h1:r<8):∃ c,Gh (Str.ofString "abcdefgh").cps.toList r=some c∧97≤c∧c≤122:=by
 have h:=XY r (by
  have:r=0∨r=1∨r=2∨r=3∨r=4∨r=5∨r=6∨r=7:=by omega
  rcases this with rfl | rfl | rfl | rfl | rfl | rfl | rfl | rfl <;> simp)
 cases e:Gh (Str.ofString "abcdefgh").cps.toList r with
 | none=>rw[e]at h;cases h
 | some c=>
  rw[e]at h
  have h':(decide (97≤c)&&decide (c≤122))=true:=h
  rw[Bool.and_eq_true,decide_eq_true_eq,decide_eq_true_eq]at h'
  exact⟨c,rfl,h'⟩
theorem Sq {a b:Nat}(ha:97≤a∧a≤122)(hb:97≤b∧b≤122):Nm (Str.ofString "s"++⟨#[a]⟩++⟨#[b]⟩):=by
 have e:(Str.ofString "s"++(⟨#[a]⟩:Str)++⟨#[b]⟩).cps.toList=[115,a,b]:=by
  rw[Dq,Dq]
  rfl
 have l:(Str.ofString "s"++(⟨#[a]⟩:Str)++⟨#[b]⟩).length=3:=by
  show(Str.ofString "s"++(⟨#[a]⟩:Str)++⟨#[b]⟩).cps.size=3
  rw[← Array.length_toList,e];rfl
 refine⟨by omega,by omega,fun c hc=>?_⟩
 rw[e]at hc
 have hc':c=115∨c=a∨c=b:=by simpa using hc
 omega
theorem Rg {kvs:List (List BC×V)}{z:Str}{hi wi:Int}{rows:List (List V)}{h w:Nat}(x:Ff kvs z hi wi rows h 0)(hl:rows.length=h)(hw:∀ r∈rows,r.length=w){i j:Int}(q1:hi+1≤i)(q2:i≤hi+h)(q3:wi+1≤j)(q4:j≤wi+w):Go kvs z i j:=by
 obtain⟨a,rfl⟩:∃ a:Nat,i=hi+a+1:=⟨(i-hi-1).toNat,by omega⟩
 obtain⟨b,rfl⟩:∃ b:Nat,j=wi+b+1:=⟨(j-wi-1).toNat,by omega⟩
 have ha:a<rows.length:=by omega
 have hb:b<rows[a].length:=by rw[hw _ (List.getElem_mem ha)];omega
 have:=x a b _ _ (List.getElem?_eq_getElem ha) (List.getElem?_eq_getElem hb) (.inl (by omega))
 unfold Go
 rw[this]
 intro z
 cases z
theorem U8 {H H':Hp}{kn:Addr}{kvs kvs':List (List BC×V)}{rows:List (List V)}{m:List (List Vl)}(x:Fh H kn kvs)(g:Oq kvs kvs' rows)(vt:By H' rows m)(ok:∀ r∈m,∀ v∈r,Ap v)(s:Kp H H')(e:H' kn=some (.dT kvs')):Fh H' kn kvs':=by
 refine⟨e,fun key v hv=>?_⟩
 rcases(g key).1 v hv with h | ⟨row,hr,hm⟩
 ·obtain⟨y,h1,h2⟩:=x.ok key v h
  exact⟨y,h1.kp s,h2⟩
 ·obtain⟨i,hi⟩:=List.getElem?_of_mem hr
  obtain⟨mr,hmr,pv⟩:=Ar vt hi
  obtain⟨j,hj⟩:=List.getElem?_of_mem hm
  obtain⟨y,hy,vy⟩:=Ar pv hj
  exact⟨y,vy,ok mr (List.mem_of_getElem? hmr) y (List.mem_of_getElem? hy)⟩
theorem U9 {a:Nat}:(Str.ofString "s").length+(⟨#[a]⟩:Str).length≤sizeLine:=by
 rw[show(Str.ofString "s").length=1 by nofun]
 show 1+1≤sizeLine
 decide
theorem VA {a b:Nat}:(Str.ofString "s"++(⟨#[a]⟩:Str)).length+(⟨#[b]⟩:Str).length≤sizeLine:=by
 have e:(Str.ofString "s"++(⟨#[a]⟩:Str)).length=2:=by
  show(Str.ofString "s"++(⟨#[a]⟩:Str)).cps.size=2
  rw[← Array.length_toList,Dq];rfl
 rw[e]
 show 2+1≤sizeLine
 decide
theorem Lx {t u:TS}{D:Dj}{σ:St}{H:Hp}(J:St→Hp→Prop)(a:∀ N:St→Hp→Prop,(∀ σ' H',J σ' H'→N σ' H')→t { D with nx:=N } σ H)(Bv:∀ σ' H',J σ' H'→u D σ' H'):Ie t u D σ H:=a _ Bv
theorem tv {p kn:Addr}{a b c:Int}{h w n:Nat}(e1:a=(h:Int))(e2:b=(w:Int))(e3:c=(n:Int)):[V.ref p,.ref kn,.int a,.int b,.int c]=[.ref p,.ref kn,.int h,.int w,.int n]:=by rw[e1,e2,e3]
theorem Yy {r:Int}(h0:0≤r)(h1:r<4):∃ z:Str,Gh [vS "sum",vS "count",vS "least",vS "most"] r=some (.str z)∧z∈W4:=by
 have:r=0∨r=1∨r=2∨r=3:=by omega
 rcases this with rfl | rfl | rfl | rfl
 ·exact⟨_,rfl,by nofun⟩
 ·exact⟨_,rfl,by nofun⟩
 ·exact⟨_,rfl,by nofun⟩
 ·exact⟨_,rfl,by nofun⟩
theorem Xa:∀ r∈[(0:Int),1],((Gh (Str.ofString "=<").cps.toList r).any fun c=>decide ((⟨#[c]⟩:Str)=Str.ofString "=")||decide ((⟨#[c]⟩:Str)=Str.ofString "<"))=true:=by nofun
theorem Yz {r:Int}(h0:0≤r)(h1:r<2):∃ c,Gh (Str.ofString "=<").cps.toList r=some c∧((⟨#[c]⟩:Str)=Str.ofString "="∨(⟨#[c]⟩:Str)=Str.ofString "<"):=by
 have h:=Xa r (by
  have:r=0∨r=1:=by omega
  rcases this with rfl | rfl <;> simp)
 cases e:Gh (Str.ofString "=<").cps.toList r with
 | none=>rw[e]at h;cases h
 | some c=>
  rw[e]at h
  have h':(decide ((⟨#[c]⟩:Str)=Str.ofString "=")||decide ((⟨#[c]⟩:Str)=Str.ofString "<"))=true:=h
  rw[Bool.or_eq_true,decide_eq_true_eq,decide_eq_true_eq]at h'
  exact⟨c,rfl,h'⟩
theorem TZ {c:Bool}{h w:Nat}:∃ h' w':Nat,Gh [V.int h,V.int 1] (if c=true then 1 else 0)=some (.int h')∧Gh [V.int w,V.int 1] (if c=true then 1 else 0)=some (.int w')∧((c=false∧h'=h∧w'=w)∨(c=true∧h'=1∧w'=1)):=by
 cases c with
 | false=>exact⟨h,w,rfl,rfl,.inl ⟨rfl,rfl,rfl⟩⟩
 | true=>exact⟨1,1,rfl,rfl,.inr ⟨rfl,rfl,rfl⟩⟩
theorem Y0:∀ r∈[(0:Int),1,2,3,4,5,6],((Gh (Str.ofString "+-*/&=<").cps.toList r).any fun c=>decide ((⟨#[c]⟩:Str)∈Xw))=true:=by nofun
theorem Za {r:Int}(h0:0≤r)(h1:r<7):∃ c,Gh (Str.ofString "+-*/&=<").cps.toList r=some c∧(⟨#[c]⟩:Str)∈Xw:=by
 have h:=Y0 r (by
  have:r=0∨r=1∨r=2∨r=3∨r=4∨r=5∨r=6:=by omega
  rcases this with rfl | rfl | rfl | rfl | rfl | rfl | rfl <;> simp)
 cases e:Gh (Str.ofString "+-*/&=<").cps.toList r with
 | none=>rw[e]at h;cases h
 | some c=>
  rw[e]at h
  exact⟨c,rfl,of_decide_eq_true h⟩
def qP:Str:=Str.ofString "_law_by_parts"++Str.ofString ".<locals>."++Str.ofString "<lambda>"
theorem ZH:(qR==qP)=false:=by nofun
def Ta (PR PB:Addr)(dom:Str→Int→Int→Prop)(g:Str→Int→Int→Vl)(n:Nat):Sp:=fun vs H Q _=>∃(v y:V) (kn:Addr) (f:Fm) (h w:Nat) (hm:Hm),vs=[v,y,.ref kn]∧A7 H v f∧Ty dom n f h w∧DP H y hm∧EX hm∧IV kn dom g H∧BN H PR qR∧BN H PB qP∧
 ∀ x H',Bm H' x (Au DD g hm f)→(∀ b o,b≠PR→b≠PB→H b=some o→H' b=some o)→BN H' PR qR→BN H' PB qP→Q x H'
theorem Xb {l:List V}{n:Nat}(h:l.length=n+1):∃ a t,l=a::t∧t.length=n:=by
 cases l with
 | nil=>simp at h
 | cons a t=>exact⟨a,t,rfl,by simpa using h⟩
theorem Zb {l:List V}(h:l.length=0):l=[]:=by
 cases l with
 | nil=>rfl
 | cons a t=>simp at h
theorem Xc {l:List V}(h:l.length=1):∃ a0,l=[a0]:=by
 obtain⟨a0,t,rfl,h'⟩:=Xb h
 obtain rfl:=Zb h'
 exact⟨_,rfl⟩
theorem Tb {l:List V}(h:l.length=2):∃ a0 a1,l=[a0,a1]:=by
 obtain⟨a0,t,rfl,h'⟩:=Xb h
 obtain⟨a1,rfl⟩:=Xc h'
 exact⟨_,_,rfl⟩
theorem Xd {l:List V}(h:l.length=3):∃ a0 a1 a2,l=[a0,a1,a2]:=by
 obtain⟨a0,t,rfl,h'⟩:=Xb h
 obtain⟨a1,a2,rfl⟩:=Tb h'
 exact⟨_,_,_,rfl⟩
theorem X2 {l:List V}(h:l.length=4):∃ a0 a1 a2 a3,l=[a0,a1,a2,a3]:=by
 obtain⟨a0,t,rfl,h'⟩:=Xb h
 obtain⟨a1,a2,a3,rfl⟩:=Xd h'
 exact⟨_,_,_,_,rfl⟩
theorem ZI {l:List V}(h:l.length=5):∃ a0 a1 a2 a3 a4,l=[a0,a1,a2,a3,a4]:=by
 obtain⟨a0,t,rfl,h'⟩:=Xb h
 obtain⟨a1,a2,a3,a4,rfl⟩:=X2 h'
 exact⟨_,_,_,_,_,rfl⟩
def Ot (j:Nat):Str:=Str.ofString "part"++⟨#[97+j]⟩
theorem Ou:∀ j:Nat,j<5→Gh (Str.ofString "abcde").cps.toList (j:Int)=some (97+j)∧(Ot j).cps.toList=[112,97,114,116,97+j]:=by nofun
theorem IG {j:Nat}(h:j<5):Nm (Ot j):=by
 have e:=(Ou j h).2
 have l:(Ot j).length=5:=by
  show(Ot j).cps.size=5
  rw[← Array.length_toList,e];rfl
 refine⟨by omega,by omega,fun c hc=>?_⟩
 rw[e]at hc
 have hc':c=112∨c=97∨c=114∨c=116∨c=97+j:=by simpa using hc
 omega
theorem Sr {i j:Nat}(e:Ot i=Ot j):i=j:=by
 have h:=congrArg (fun z:Str=>z.cps.toList) e
 simp only[Ot,Dq]at h
 have h':=List.append_cancel_left h
 have h2:(97+i)=(97+j):=by simpa using h'
 omega
theorem Jv {i j:Nat}(h:i≠j):¬ Ot i=Ot j:=fun e=>h (Sr e)
def VB (H:Hp)(kvs:List (List BC×V))(g:Str→Int→Int→Vl)(hm:Hm)(j:Nat)(f:Fm)(h w:Nat)(y:V):Prop:=∃ rows,HR H kvs (Ot j) rows h w y∧By H rows (Au DD g hm f)
theorem GO {dom:Str→Int→Int→Prop}{g:Str→Int→Int→Vl}{l:Lf}{z:Str}{c d:Mn}{m:List (List Vl)}{h w:Nat}(x:Fy dom l z c d)(e:Rl g l=m)(dm:Dm m h w):Fg dom l h w:=by
 have g1:=x.r1;have g2:=x.c1
 have e':Rl g l=Pc g z c.r c.c (d.r-c.r+1).toNat (d.c-c.c+1).toNat:=by unfold Rl;rw[x.b]
 rw[e]at e'
 refine .inr ⟨z,c,d,x,?_,?_⟩
 ·rw[← Lj (g:=g) (z:=z) (r:=c.r) (c:=c.c) (h:=(d.r-c.r+1).toNat) (w:=(d.c-c.c+1).toNat),← e'];exact dm.len
 ·have rb:Bp m (d.c-c.c+1).toNat:=by rw[e'];exact Mo (by omega) (by omega)
  exact rb.wd.symm.trans dm.rc.wd
theorem Xe {hi wi r c:Int}{m:List (List Vl)}(ok:∀ r∈m,∀ v∈r,Ap v):Ap (pl hi wi m r c):=by
 unfold pl
 rw[List.getD_eq_getElem?_getD,List.getD_eq_getElem?_getD]
 cases e1:m[(r-hi-1).toNat]? with
 | none=>exact trivial
 | some row=>
  show Ap ((row[(c-wi-1).toNat]?).getD .none)
  cases e2:row[(c-wi-1).toNat]? with
  | none=>exact trivial
  | some v=>exact ok row (List.mem_of_getElem? e1) v (List.mem_of_getElem? e2)
theorem Rh {T:List NF}(nd:(T.map fun s=>s.z).Nodup)(ok:∀ s∈T,∀ r∈s.m,∀ v∈r,Ap v):∀ z r c,Ps T z r c→Ap (gS T z r c):=fun z r c ⟨s,hs,e,_⟩=>by
 rw[← e,Ra nd hs]
 exact Xe (ok s hs)
theorem Ss {H:Hp}{kvs:List (List BC×V)}{ld:Addr}{hm:Hm}{g:Str→Int→Int→Vl}{j1:Nat}{f1:Fm}{h1 w1:Nat}{y1:V}(hk:H ld=some (.dT kvs))(x1:VB H kvs g hm j1 f1 h1 w1 y1)(d1:Dm (Au DD g hm f1) h1 w1)(b1:j1<5):∃(dom':Str→Int→Int→Prop) (g':Str→Int→Int→Vl) (l1:Lf),A7 H y1 (.lf l1)∧Fg dom' l1 h1 w1∧RW g' hm l1=Au DD g hm f1∧IV ld dom' g' H∧∀ z r c,dom' z r c→Ap (g' z r c):=by
 obtain⟨rows1,la1,vt1⟩:=x1
 obtain⟨a1,lf1,s1,rfl,q1,z1,e1,ld1,use1⟩:=IF la1 (IG b1) vt1 d1.len d1.rc.row d1.hp d1.rc.w1
 have nd:(([s1]:List NF).map fun s=>s.z).Nodup:=by show [s1.z].Nodup;rw[z1];simp
 obtain⟨⟨c1,p1,r1,lg1⟩,t1⟩:=use1 [s1] nd (by simp)
 refine⟨Ps [s1],gS [s1],lf1,.lf q1,GO lg1 t1 d1,(IW lg1).trans t1,Uv hk nd (List.forall_mem_cons.mpr ⟨ld1,List.forall_mem_nil _⟩),Rh nd (List.forall_mem_cons.mpr ⟨by rw[e1];exact d1.ok,List.forall_mem_nil _⟩)⟩
theorem VC {H:Hp}{kvs:List (List BC×V)}{ld:Addr}{hm:Hm}{g:Str→Int→Int→Vl}{j1 j2:Nat}{f1 f2:Fm}{h1 w1 h2 w2:Nat}{y1 y2:V}(hk:H ld=some (.dT kvs))(x1:VB H kvs g hm j1 f1 h1 w1 y1)(d1:Dm (Au DD g hm f1) h1 w1)(b1:j1<5)(x2:VB H kvs g hm j2 f2 h2 w2 y2)(d2:Dm (Au DD g hm f2) h2 w2)(b2:j2<5)(n12:j1≠j2):∃(dom':Str→Int→Int→Prop) (g':Str→Int→Int→Vl) (l1 l2:Lf),A7 H y1 (.lf l1)∧Fg dom' l1 h1 w1∧RW g' hm l1=Au DD g hm f1∧A7 H y2 (.lf l2)∧Fg dom' l2 h2 w2∧RW g' hm l2=Au DD g hm f2∧IV ld dom' g' H∧∀ z r c,dom' z r c→Ap (g' z r c):=by
 obtain⟨rows1,la1,vt1⟩:=x1
 obtain⟨a1,lf1,s1,rfl,q1,z1,e1,ld1,use1⟩:=IF la1 (IG b1) vt1 d1.len d1.rc.row d1.hp d1.rc.w1
 obtain⟨rows2,la2,vt2⟩:=x2
 obtain⟨a2,lf2,s2,rfl,q2,z2,e2,ld2,use2⟩:=IF la2 (IG b2) vt2 d2.len d2.rc.row d2.hp d2.rc.w1
 have nd:(([s1,s2]:List NF).map fun s=>s.z).Nodup:=by show [s1.z,s2.z].Nodup;rw[z1,z2];simp[Jv n12]
 obtain⟨⟨c1,p1,r1,lg1⟩,t1⟩:=use1 [s1,s2] nd (by simp)
 obtain⟨⟨c2,p2,r2,lg2⟩,t2⟩:=use2 [s1,s2] nd (by simp)
 refine⟨Ps [s1,s2],gS [s1,s2],lf1,lf2,.lf q1,GO lg1 t1 d1,(IW lg1).trans t1,.lf q2,GO lg2 t2 d2,(IW lg2).trans t2,Uv hk nd (List.forall_mem_cons.mpr ⟨ld1,List.forall_mem_cons.mpr ⟨ld2,List.forall_mem_nil _⟩⟩),Rh nd (List.forall_mem_cons.mpr ⟨by rw[e1];exact d1.ok,List.forall_mem_cons.mpr ⟨by rw[e2];exact d2.ok,List.forall_mem_nil _⟩⟩)⟩
theorem VD {H:Hp}{kvs:List (List BC×V)}{ld:Addr}{hm:Hm}{g:Str→Int→Int→Vl}{j1 j2 j3:Nat}{f1 f2 f3:Fm}{h1 w1 h2 w2 h3 w3:Nat}{y1 y2 y3:V}(hk:H ld=some (.dT kvs))(x1:VB H kvs g hm j1 f1 h1 w1 y1)(d1:Dm (Au DD g hm f1) h1 w1)(b1:j1<5)(x2:VB H kvs g hm j2 f2 h2 w2 y2)(d2:Dm (Au DD g hm f2) h2 w2)(b2:j2<5)(x3:VB H kvs g hm j3 f3 h3 w3 y3)(d3:Dm (Au DD g hm f3) h3 w3)(b3:j3<5)(n12:j1≠j2)(n13:j1≠j3)(n23:j2≠j3):∃(dom':Str→Int→Int→Prop) (g':Str→Int→Int→Vl) (l1 l2 l3:Lf),A7 H y1 (.lf l1)∧Fg dom' l1 h1 w1∧RW g' hm l1=Au DD g hm f1∧A7 H y2 (.lf l2)∧Fg dom' l2 h2 w2∧RW g' hm l2=Au DD g hm f2∧A7 H y3 (.lf l3)∧Fg dom' l3 h3 w3∧RW g' hm l3=Au DD g hm f3∧IV ld dom' g' H∧∀ z r c,dom' z r c→Ap (g' z r c):=by
 obtain⟨rows1,la1,vt1⟩:=x1
 obtain⟨a1,lf1,s1,rfl,q1,z1,e1,ld1,use1⟩:=IF la1 (IG b1) vt1 d1.len d1.rc.row d1.hp d1.rc.w1
 obtain⟨rows2,la2,vt2⟩:=x2
 obtain⟨a2,lf2,s2,rfl,q2,z2,e2,ld2,use2⟩:=IF la2 (IG b2) vt2 d2.len d2.rc.row d2.hp d2.rc.w1
 obtain⟨rows3,la3,vt3⟩:=x3
 obtain⟨a3,KI,s3,rfl,q3,z3,e3,ld3,use3⟩:=IF la3 (IG b3) vt3 d3.len d3.rc.row d3.hp d3.rc.w1
 have nd:(([s1,s2,s3]:List NF).map fun s=>s.z).Nodup:=by show [s1.z,s2.z,s3.z].Nodup;rw[z1,z2,z3];simp[Jv n12,Jv n13,Jv n23]
 obtain⟨⟨c1,p1,r1,lg1⟩,t1⟩:=use1 [s1,s2,s3] nd (by simp)
 obtain⟨⟨c2,p2,r2,lg2⟩,t2⟩:=use2 [s1,s2,s3] nd (by simp)
 obtain⟨⟨c3,p3,r3,lg3⟩,t3⟩:=use3 [s1,s2,s3] nd (by simp)
 refine⟨Ps [s1,s2,s3],gS [s1,s2,s3],lf1,lf2,KI,.lf q1,GO lg1 t1 d1,(IW lg1).trans t1,.lf q2,GO lg2 t2 d2,(IW lg2).trans t2,.lf q3,GO lg3 t3 d3,(IW lg3).trans t3,Uv hk nd (List.forall_mem_cons.mpr ⟨ld1,List.forall_mem_cons.mpr ⟨ld2,List.forall_mem_cons.mpr ⟨ld3,List.forall_mem_nil _⟩⟩⟩),Rh nd (List.forall_mem_cons.mpr ⟨by rw[e1];exact d1.ok,List.forall_mem_cons.mpr ⟨by rw[e2];exact d2.ok,List.forall_mem_cons.mpr ⟨by rw[e3];exact d3.ok,List.forall_mem_nil _⟩⟩⟩)⟩
def Zc (H:Hp)(dom:Str→Int→Int→Prop)(n:Nat)(x:V):Option (Fm×Nat×Nat)→Prop
 | none=>(∃ z,x=.str z)∨∃ i,x=.int i
 | some (f,h,w)=>A7 H x f∧Ty dom n f h w
def Xf (H:Hp)(kvs:List (List BC×V))(g:Str→Int→Int→Vl)(hm:Hm)(j:Nat)(x:V)(y:V):Option (Fm×Nat×Nat)→Prop
 | none=>y=x
 | some (f,h,w)=>VB H kvs g hm j f h w y
def Pu (H:Hp)(kvs:List (List BC×V))(g:Str→Int→Int→Vl)(hm:Hm)(XS:List V)(its:List (Option (Fm×Nat×Nat)))(ys:List V)(i:Nat):Prop:=
 ys.length=i∧∀ j x it,j<i→XS[j]?=some x→its[j]?=some it→∃ y,ys[j]?=some y∧Xf H kvs g hm j x y it
def Pw:List Str:=["value","cell","range","fault"].map Str.ofString
theorem KI {dom:Str→Int→Int→Prop}{l:Lf}{h w n:Nat}(x:Fg dom l h w)(b:1≤h∧h≤3∧1≤w∧w≤3):Ty dom (n+1) (.lf l) h w:=.lf x b.1 b.2.1 b.2.2.1 b.2.2.2
theorem Xg {H:Hp}{v:V}{f:Fm}{dom:Str→Int→Int→Prop}{g:Str→Int→Int→Vl}{hm:Hm}{n h w:Nat}(hv:A7 H v f)(ty:Ty dom (n+1) f h w)(hg:∀ z r c,dom z r c→Ap (g z r c))(ho:EX hm):
 (∃ l,f=.lf l∧Fg dom l h w)∨∃(a:Addr) (tg:Str) (XS:List V) (its:List (Option (Fm×Nat×Nat))),v=.ref a∧H a=some (.tup (.str tg::XS))∧tg∉Pw∧XS.length≤4∧Paired (Zc H dom n) (.str tg::XS) its∧
  ∀(H6:Hp) (q ld:Addr) (ys:List V) (kvs:List (List BC×V)),H6 q=some (.tup ys)→H6 ld=some (.dT kvs)→Pu H6 kvs g hm (.str tg::XS) its ys (XS.length+1)→∃(F:Fm) (dom':Str→Int→Int→Prop) (g':Str→Int→Int→Vl),A7 H6 (.ref q) F∧Ty dom' 2 F h w∧IV ld dom' g' H6∧(∀ z r c,dom' z r c→Ap (g' z r c))∧Au DD g' hm F=Au DD g hm f:=by
 have dm:∀{f':Fm} {n' h' w':Nat},Ty dom n' f' h' w'→Dm (Au DD g hm f') h' w':=fun t=>t.dm hg ho fun _ h=>FI h
 cases ty with
 | lf a b c d e=>exact .inl ⟨_,rfl,a⟩
 | @op _ s a' b' _ _ h1 w1 h2 w2 hs t1 t2 d=>
  refine .inr ?_
  cases hv with
  | @nd a t _ us _ ha ht hl' hh=>
   obtain⟨u0,u1,rfl⟩:=Tb (show us.length=2 from hl')
   refine⟨a,Str.ofString "op",[.str s,u0,u1],[none,none,some (a',h1,w1),some (b',h2,w2)],rfl,ha,by nofun,by show 3≤4;decide,.cons (.inl ⟨_,rfl⟩) (.cons (.inl ⟨_,rfl⟩) (.cons (⟨hh 0 _ _ rfl rfl,t1⟩) (.cons (⟨hh 1 _ _ rfl rfl,t2⟩) (.nil)))),fun H6 q ld ys kvs hq hk rel=>?_⟩
   obtain⟨yl,rel⟩:=rel
   obtain⟨y0,y1,y2,y3,rfl⟩:=X2 yl
   obtain⟨_,e0,l0⟩:=rel 0 _ _ (by show 0<4;decide) rfl rfl
   cases e0
   obtain⟨_,e1,l1⟩:=rel 1 _ _ (by show 1<4;decide) rfl rfl
   cases e1
   obtain⟨_,e2,l2⟩:=rel 2 _ _ (by show 2<4;decide) rfl rfl
   cases e2
   obtain⟨_,e3,l3⟩:=rel 3 _ _ (by show 3<4;decide) rfl rfl
   cases e3
   cases (show y0=_ from l0)
   cases (show y1=_ from l1)
   obtain⟨dom',g',m0,m1,fm0,lt0,sm0,fm1,lt1,sm1,dp,hg'⟩:=VC hk (f1:=a') l2 (dm t1) (by decide) (f2:=b') l3 (dm t2) (by decide) (by decide)
   refine⟨.nd (.op s) [.lf m0,.lf m1],dom',g',VP (t:=q) hq rfl fm0 fm1,.op hs (KI lt0 t1.bd) (KI lt1 t2.bd) d,dp,hg',?_⟩
   rw[Oh,Oh,BV,BV,sm0,sm1]
 | @neg _ a' _ _ t1=>
  refine .inr ?_
  cases hv with
  | @nd a t _ us _ ha ht hl' hh=>
   obtain⟨u0,rfl⟩:=Xc (show us.length=1 from hl')
   refine⟨a,Str.ofString "neg",[u0],[none,some (a',h,w)],rfl,ha,by nofun,by show 1≤4;decide,.cons (.inl ⟨_,rfl⟩) (.cons (⟨hh 0 _ _ rfl rfl,t1⟩) (.nil)),fun H6 q ld ys kvs hq hk rel=>?_⟩
   obtain⟨yl,rel⟩:=rel
   obtain⟨y0,y1,rfl⟩:=Tb yl
   obtain⟨_,e0,l0⟩:=rel 0 _ _ (by show 0<2;decide) rfl rfl
   cases e0
   obtain⟨_,e1,l1⟩:=rel 1 _ _ (by show 1<2;decide) rfl rfl
   cases e1
   cases (show y0=_ from l0)
   obtain⟨dom',g',m0,fm0,lt0,sm0,dp,hg'⟩:=Ss hk (f1:=a') l1 (dm t1) (by decide)
   refine⟨.nd .neg [.lf m0],dom',g',TK (t:=q) hq rfl fm0,.neg (KI lt0 t1.bd),dp,hg',?_⟩
   rw[Lv,Lv,BV,sm0]
 | @cond _ a' b' c' _ _ t1 t2 t3=>
  refine .inr ?_
  cases hv with
  | @nd a t _ us _ ha ht hl' hh=>
   obtain⟨u0,u1,u2,rfl⟩:=Xd (show us.length=3 from hl')
   refine⟨a,Str.ofString "if",[u0,u1,u2],[none,some (a',1,1),some (b',h,w),some (c',1,1)],rfl,ha,by nofun,by show 3≤4;decide,.cons (.inl ⟨_,rfl⟩) (.cons (⟨hh 0 _ _ rfl rfl,t1⟩) (.cons (⟨hh 1 _ _ rfl rfl,t2⟩) (.cons (⟨hh 2 _ _ rfl rfl,t3⟩) (.nil)))),fun H6 q ld ys kvs hq hk rel=>?_⟩
   obtain⟨yl,rel⟩:=rel
   obtain⟨y0,y1,y2,y3,rfl⟩:=X2 yl
   obtain⟨_,e0,l0⟩:=rel 0 _ _ (by show 0<4;decide) rfl rfl
   cases e0
   obtain⟨_,e1,l1⟩:=rel 1 _ _ (by show 1<4;decide) rfl rfl
   cases e1
   obtain⟨_,e2,l2⟩:=rel 2 _ _ (by show 2<4;decide) rfl rfl
   cases e2
   obtain⟨_,e3,l3⟩:=rel 3 _ _ (by show 3<4;decide) rfl rfl
   cases e3
   cases (show y0=_ from l0)
   obtain⟨dom',g',m0,m1,m2,fm0,lt0,sm0,fm1,lt1,sm1,fm2,lt2,sm2,dp,hg'⟩:=VD hk (f1:=a') l1 (dm t1) (by decide) (f2:=b') l2 (dm t2) (by decide) (f3:=c') l3 (dm t3) (by decide) (by decide) (by decide) (by decide)
   refine⟨.nd (.wd (zS "if")) [.lf m0,.lf m1,.lf m2],dom',g',VQ (t:=q) hq rfl fm0 fm1 fm2,.cond (KI lt0 t1.bd) (KI lt1 t2.bd) (KI lt2 t3.bd),dp,hg',?_⟩
   rw[Oj,Oj,BV,BV,BV,sm0,sm1,sm2]
 | @turn _ a' _ _ t1=>
  refine .inr ?_
  cases hv with
  | @nd a t _ us _ ha ht hl' hh=>
   obtain⟨u0,rfl⟩:=Xc (show us.length=1 from hl')
   refine⟨a,Str.ofString "turn",[u0],[none,some (a',w,h)],rfl,ha,by nofun,by show 1≤4;decide,.cons (.inl ⟨_,rfl⟩) (.cons (⟨hh 0 _ _ rfl rfl,t1⟩) (.nil)),fun H6 q ld ys kvs hq hk rel=>?_⟩
   obtain⟨yl,rel⟩:=rel
   obtain⟨y0,y1,rfl⟩:=Tb yl
   obtain⟨_,e0,l0⟩:=rel 0 _ _ (by show 0<2;decide) rfl rfl
   cases e0
   obtain⟨_,e1,l1⟩:=rel 1 _ _ (by show 1<2;decide) rfl rfl
   cases e1
   cases (show y0=_ from l0)
   obtain⟨dom',g',m0,fm0,lt0,sm0,dp,hg'⟩:=Ss hk (f1:=a') l1 (dm t1) (by decide)
   refine⟨.nd (.wd (zS "turn")) [.lf m0],dom',g',TK (t:=q) hq rfl fm0,.turn (KI lt0 t1.bd),dp,hg',?_⟩
   rw[JJ,JJ,BV,sm0]
 | @stack _ a' b' h1 h2 _ t1 t2 hs=>
  refine .inr ?_
  cases hv with
  | @nd a t _ us _ ha ht hl' hh=>
   obtain⟨u0,u1,rfl⟩:=Tb (show us.length=2 from hl')
   refine⟨a,Str.ofString "stack",[u0,u1],[none,some (a',h1,w),some (b',h2,w)],rfl,ha,by nofun,by show 2≤4;decide,.cons (.inl ⟨_,rfl⟩) (.cons (⟨hh 0 _ _ rfl rfl,t1⟩) (.cons (⟨hh 1 _ _ rfl rfl,t2⟩) (.nil))),fun H6 q ld ys kvs hq hk rel=>?_⟩
   obtain⟨yl,rel⟩:=rel
   obtain⟨y0,y1,y2,rfl⟩:=Xd yl
   obtain⟨_,e0,l0⟩:=rel 0 _ _ (by show 0<3;decide) rfl rfl
   cases e0
   obtain⟨_,e1,l1⟩:=rel 1 _ _ (by show 1<3;decide) rfl rfl
   cases e1
   obtain⟨_,e2,l2⟩:=rel 2 _ _ (by show 2<3;decide) rfl rfl
   cases e2
   cases (show y0=_ from l0)
   obtain⟨dom',g',m0,m1,fm0,lt0,sm0,fm1,lt1,sm1,dp,hg'⟩:=VC hk (f1:=a') l1 (dm t1) (by decide) (f2:=b') l2 (dm t2) (by decide) (by decide)
   refine⟨.nd (.wd (zS "stack")) [.lf m0,.lf m1],dom',g',VP (t:=q) hq rfl fm0 fm1,.stack (KI lt0 t1.bd) (KI lt1 t2.bd) hs,dp,hg',?_⟩
   rw[Hc,Hc,BV,BV,sm0,sm1]
 | @grid _ a' b' _ _ g1 g2 g3 g4 t1 t2=>
  refine .inr ?_
  cases hv with
  | @nd a t _ us _ ha ht hl' hh=>
   obtain⟨u0,u1,rfl⟩:=Tb (show us.length=2 from hl')
   refine⟨a,Str.ofString "grid",[.int h,.int w,u0,u1],[none,none,none,some (a',1,1),some (b',1,1)],rfl,ha,by nofun,by show 4≤4;decide,.cons (.inl ⟨_,rfl⟩) (.cons (.inr ⟨_,rfl⟩) (.cons (.inr ⟨_,rfl⟩) (.cons (⟨hh 0 _ _ rfl rfl,t1⟩) (.cons (⟨hh 1 _ _ rfl rfl,t2⟩) (.nil))))),fun H6 q ld ys kvs hq hk rel=>?_⟩
   obtain⟨yl,rel⟩:=rel
   obtain⟨y0,y1,y2,y3,y4,rfl⟩:=ZI yl
   obtain⟨_,e0,l0⟩:=rel 0 _ _ (by show 0<5;decide) rfl rfl
   cases e0
   obtain⟨_,e1,l1⟩:=rel 1 _ _ (by show 1<5;decide) rfl rfl
   cases e1
   obtain⟨_,e2,l2⟩:=rel 2 _ _ (by show 2<5;decide) rfl rfl
   cases e2
   obtain⟨_,e3,l3⟩:=rel 3 _ _ (by show 3<5;decide) rfl rfl
   cases e3
   obtain⟨_,e4,l4⟩:=rel 4 _ _ (by show 4<5;decide) rfl rfl
   cases e4
   cases (show y0=_ from l0)
   cases (show y1=_ from l1)
   cases (show y2=_ from l2)
   obtain⟨dom',g',m0,m1,fm0,lt0,sm0,fm1,lt1,sm1,dp,hg'⟩:=VC hk (f1:=a') l3 (dm t1) (by decide) (f2:=b') l4 (dm t2) (by decide) (by decide)
   refine⟨.nd (.grid h w) [.lf m0,.lf m1],dom',g',VP (t:=q) hq rfl fm0 fm1,.grid g1 g2 g3 g4 (KI lt0 t1.bd) (KI lt1 t2.bd),dp,hg',?_⟩
   rw[JI,JI,BV,BV,sm0,sm1]
 | @w4 _ z a' h1 w1 hz4 t1=>
  refine .inr ?_
  cases hv with
  | @nd a t _ us _ ha ht hl' hh=>
   obtain⟨u0,rfl⟩:=Xc (show us.length=1 from hl')
   refine⟨a,z,[u0],[none,some (a',h1,w1)],rfl,ha,by rcases Nr hz4 with rfl | rfl | rfl | rfl <;> nofun,by show 1≤4;decide,.cons (.inl ⟨_,rfl⟩) (.cons (⟨hh 0 _ _ rfl rfl,t1⟩) (.nil)),fun H6 q ld ys kvs hq hk rel=>?_⟩
   obtain⟨yl,rel⟩:=rel
   obtain⟨y0,y1,rfl⟩:=Tb yl
   obtain⟨_,e0,l0⟩:=rel 0 _ _ (by show 0<2;decide) rfl rfl
   cases e0
   obtain⟨_,e1,l1⟩:=rel 1 _ _ (by show 1<2;decide) rfl rfl
   cases e1
   cases (show y0=_ from l0)
   obtain⟨dom',g',m0,fm0,lt0,sm0,dp,hg'⟩:=Ss hk (f1:=a') l1 (dm t1) (by decide)
   refine⟨.nd (.wd z) [.lf m0],dom',g',TK (t:=q) hq rfl fm0,.w4 hz4 (KI lt0 t1.bd),dp,hg',?_⟩
   rw[Oi hz4,Oi hz4,BV,sm0]
 | @outer _ a' t1=>
  refine .inr ?_
  cases hv with
  | @nd a t _ us _ ha ht hl' hh=>
   obtain⟨u0,rfl⟩:=Xc (show us.length=1 from hl')
   refine⟨a,Str.ofString "outer",[u0],[none,some (a',1,1)],rfl,ha,by nofun,by show 1≤4;decide,.cons (.inl ⟨_,rfl⟩) (.cons (⟨hh 0 _ _ rfl rfl,t1⟩) (.nil)),fun H6 q ld ys kvs hq hk rel=>?_⟩
   obtain⟨yl,rel⟩:=rel
   obtain⟨y0,y1,rfl⟩:=Tb yl
   obtain⟨_,e0,l0⟩:=rel 0 _ _ (by show 0<2;decide) rfl rfl
   cases e0
   obtain⟨_,e1,l1⟩:=rel 1 _ _ (by show 1<2;decide) rfl rfl
   cases e1
   cases (show y0=_ from l0)
   obtain⟨dom',g',m0,fm0,lt0,sm0,dp,hg'⟩:=Ss hk (f1:=a') l1 (dm t1) (by decide)
   refine⟨.nd (.wd (zS "outer")) [.lf m0],dom',g',TK (t:=q) hq rfl fm0,.outer (KI lt0 t1.bd),dp,hg',?_⟩
   rw[Hb,Hb,BV,sm0]
 | @sumif _ s a' b' c' h1 w1 hs t1 t2 t3=>
  refine .inr ?_
  cases hv with
  | @nd a t _ us _ ha ht hl' hh=>
   obtain⟨u0,u1,u2,rfl⟩:=Xd (show us.length=3 from hl')
   refine⟨a,Str.ofString "sumif",[u0,.str s,u1,u2],[none,some (a',h1,w1),none,some (b',1,1),some (c',h1,w1)],rfl,ha,by nofun,by show 4≤4;decide,.cons (.inl ⟨_,rfl⟩) (.cons (⟨hh 0 _ _ rfl rfl,t1⟩) (.cons (.inl ⟨_,rfl⟩) (.cons (⟨hh 1 _ _ rfl rfl,t2⟩) (.cons (⟨hh 2 _ _ rfl rfl,t3⟩) (.nil))))),fun H6 q ld ys kvs hq hk rel=>?_⟩
   obtain⟨yl,rel⟩:=rel
   obtain⟨y0,y1,y2,y3,y4,rfl⟩:=ZI yl
   obtain⟨_,e0,l0⟩:=rel 0 _ _ (by show 0<5;decide) rfl rfl
   cases e0
   obtain⟨_,e1,l1⟩:=rel 1 _ _ (by show 1<5;decide) rfl rfl
   cases e1
   obtain⟨_,e2,l2⟩:=rel 2 _ _ (by show 2<5;decide) rfl rfl
   cases e2
   obtain⟨_,e3,l3⟩:=rel 3 _ _ (by show 3<5;decide) rfl rfl
   cases e3
   obtain⟨_,e4,l4⟩:=rel 4 _ _ (by show 4<5;decide) rfl rfl
   cases e4
   cases (show y0=_ from l0)
   cases (show y2=_ from l2)
   obtain⟨dom',g',m0,m1,m2,fm0,lt0,sm0,fm1,lt1,sm1,fm2,lt2,sm2,dp,hg'⟩:=VD hk (f1:=a') l1 (dm t1) (by decide) (f2:=b') l3 (dm t2) (by decide) (f3:=c') l4 (dm t3) (by decide) (by decide) (by decide) (by decide)
   refine⟨.nd (.sumif s) [.lf m0,.lf m1,.lf m2],dom',g',VQ (t:=q) hq rfl fm0 fm1 fm2,.sumif hs (KI lt0 t1.bd) (KI lt1 t2.bd) (KI lt2 t3.bd),dp,hg',?_⟩
   rw[Ha,Ha,BV,BV,BV,sm0,sm1,sm2]
 | @find _ a' b' c' h1 w1 t1 t2 t3=>
  refine .inr ?_
  cases hv with
  | @nd a t _ us _ ha ht hl' hh=>
   obtain⟨u0,u1,u2,rfl⟩:=Xd (show us.length=3 from hl')
   refine⟨a,Str.ofString "find",[u0,u1,u2],[none,some (a',1,1),some (b',h1,w1),some (c',1,1)],rfl,ha,by nofun,by show 3≤4;decide,.cons (.inl ⟨_,rfl⟩) (.cons (⟨hh 0 _ _ rfl rfl,t1⟩) (.cons (⟨hh 1 _ _ rfl rfl,t2⟩) (.cons (⟨hh 2 _ _ rfl rfl,t3⟩) (.nil)))),fun H6 q ld ys kvs hq hk rel=>?_⟩
   obtain⟨yl,rel⟩:=rel
   obtain⟨y0,y1,y2,y3,rfl⟩:=X2 yl
   obtain⟨_,e0,l0⟩:=rel 0 _ _ (by show 0<4;decide) rfl rfl
   cases e0
   obtain⟨_,e1,l1⟩:=rel 1 _ _ (by show 1<4;decide) rfl rfl
   cases e1
   obtain⟨_,e2,l2⟩:=rel 2 _ _ (by show 2<4;decide) rfl rfl
   cases e2
   obtain⟨_,e3,l3⟩:=rel 3 _ _ (by show 3<4;decide) rfl rfl
   cases e3
   cases (show y0=_ from l0)
   obtain⟨dom',g',m0,m1,m2,fm0,lt0,sm0,fm1,lt1,sm1,fm2,lt2,sm2,dp,hg'⟩:=VD hk (f1:=a') l1 (dm t1) (by decide) (f2:=b') l2 (dm t2) (by decide) (f3:=c') l3 (dm t3) (by decide) (by decide) (by decide) (by decide)
   refine⟨.nd (.wd (zS "find")) [.lf m0,.lf m1,.lf m2],dom',g',VQ (t:=q) hq rfl fm0 fm1 fm2,.find (KI lt0 t1.bd) (KI lt1 t2.bd) (KI lt2 t3.bd),dp,hg',?_⟩
   rw[JK,JK,BV,BV,BV,sm0,sm1,sm2]
theorem Y1 {z:Str}(h:z∈Pw):S0 (.str z) [vS "value",vS "cell",vS "range",vS "fault"]=true:=by
 have h':z=Str.ofString "value"∨z=Str.ofString "cell"∨z=Str.ofString "range"∨z=Str.ofString "fault":=by simpa [Pw]using h
 rcases h' with rfl | rfl | rfl | rfl <;> nofun
theorem Y2 {z:Str}(h:z∉Pw):S0 (.str z) [vS "value",vS "cell",vS "range",vS "fault"]=false:=by
 refine Bool.eq_false_iff.mpr fun e=>h ?_
 have e':S0 (.str z) (Pw.map V.str)=true:=e
 unfold S0 at e'
 rw[List.any_map,List.any_eq_true]at e'
 obtain⟨x,hx,e2⟩:=e'
 have e3:JU (.str x) (.str z)=true:=e2
 have:x=z:=by simpa [JU]using e3
 rw[← this];exact hx
theorem Fg.tag {H:Hp}{a:Addr}{dom:Str→Int→Int→Prop}{l:Lf}{h w:Nat}(x:Fg dom l h w)(y:FD H a l):∃ z r,H a=some (.tup (.str z::r))∧z∈Pw:=by
 rcases x with⟨_,_,⟨v,rfl,_⟩ | ⟨z,rfl,_⟩⟩ | ⟨z,c,d,g,_⟩
 ·obtain⟨q,h1,_⟩:=y
  exact⟨_,_,h1,by nofun⟩
 ·exact⟨_,_,y,by nofun⟩
 ·obtain⟨w_,q,u,r,h1,hw,_⟩:=Ng y g.b
  exact⟨_,_,h1,by rcases hw with rfl | rfl <;> nofun⟩
theorem Xf.step {H H':Hp}{kv kv':List (List BC×V)}{g:Str→Int→Int→Vl}{hm:Hm}{i j:Nat}{x y:V}{it:Option (Fm×Nat×Nat)}(r:Xf H kv g hm j x y it)(s:Kp H H')(el:Ii kv kv' (Ot i))(ne:j≠i):Xf H' kv' g hm j x y it:=by
 cases it with
 | none=>exact r
 | some t=>
  obtain⟨rows,la,vt⟩:=r
  exact⟨rows,la.step s el (Jv ne),By.kp vt s⟩
theorem Pu.push {H H':Hp}{kv kv':List (List BC×V)}{g:Str→Int→Int→Vl}{hm:Hm}{XS:List V}{its:List (Option (Fm×Nat×Nat))}{ys:List V}{i:Nat}{x y:V}{it:Option (Fm×Nat×Nat)}(r:Pu H kv g hm XS its ys i)(s:Kp H H')(el:Ii kv kv' (Ot i))(hx:XS[i]?=some x)(hi:its[i]?=some it)(new:Xf H' kv' g hm i x y it):Pu H' kv' g hm XS its (ys++[y]) (i+1):=by
 obtain⟨l,r⟩:=r
 refine⟨by rw[List.length_append,l];rfl,fun j x' it' hj e1 e2=>?_⟩
 by_cases c:j=i
 ·subst c
  rw[hx]at e1;rw[hi]at e2
  cases e1;cases e2
  exact⟨y,by rw[List.getElem?_append_right (by omega),l,Nat.sub_self];rfl,new⟩
 ·obtain⟨y',h1,h2⟩:=r j x' it' (by omega) e1 e2
  exact⟨y',by rw[List.getElem?_append_left (by omega)];exact h1,h2.step s el c⟩
theorem Xh {a:Nat}:(Str.ofString "part").length+(⟨#[a]⟩:Str).length≤sizeLine:=by
 rw[show(Str.ofString "part").length=4 by nofun]
 show 4+1≤sizeLine
 decide
theorem Su {z:Str}(h:Ap (.txt z)):Nl z=true:=by
 unfold Nl
 rw[Bool.and_eq_true]
 refine⟨by have:=h.1;simp;omega,List.all_eq_true.mpr fun b hb=>?_⟩
 obtain⟨c,hc,rfl⟩:=List.mem_map.mp hb
 exact decide_eq_true (h.2 c hc)
theorem Av.ex {ι:Type}{P:Program}{w:World}{K:PySem.W.Frag}{mg:Str→Option Value}{base:Heap}{CX:O2}{k:Nat}{f:Addr}{fd:FuncData}{ps:List Str}{sp:ι→Sp}(h:∀ i,Av P w K mg base CX k f fd ps (sp i)):Av P w K mg base CX k f fd ps (fun vs H Q E=>∃ i,sp i vs H Q E):=
 ⟨fun vs H Q E x=>x.elim fun i x=>(h i).len vs H Q E x,fun A outer s H args us vs Q E hr e b v x=>x.elim fun i x=>(h i).run A outer s H args us vs Q E hr e b v x⟩
abbrev DG:Type:={ dg:(Str→Int→Int→Prop)×(Str→Int→Int→Vl) // ∀ z r c,dg.1 z r c→Ap (dg.2 z r c) }
def VE (PR PB:Addr)(n:Nat):Sp:=fun vs H Q E=>∃ dg:DG,Ta PR PB dg.1.1 dg.1.2 n vs H Q E
theorem Y3 {H:Hp}{n:Nat}{tr:Tr}{u v:V}(h1:EW H u tr n)(h2:EW H v tr n):MV H n u v:=by
 induction h1 generalizing v with
 | bl b n=>cases h2;exact .fl rfl
 | int i n=>cases h2;exact .fl rfl
 | str z n=>cases h2;exact .fl rfl
 | @tup a us ts n e hl hn hh ih=>
  cases h2 with
  | @tup b vs _ _ e2 hl2 hn2 hh2=>
   refine .tp e e2 (hn.trans hn2.symm) fun j x y hx hy=>?_
   have hj:j<ts.length:=by have:=(List.getElem?_eq_some_iff.mp hx).1;omega
   exact ih j x _ hx (List.getElem?_eq_getElem hj) (hh2 j y _ hy (List.getElem?_eq_getElem hj))
theorem gK {H:Hp}{kn:Addr}{kvs:List (List BC×V)}(h:Fh H kn kvs):∃ g:Str→Int→Int→Vl,IV kn (Go kvs) g H∧∀ z r c,Go kvs z r c→Ap (g z r c):=by
 have key:∀ z r c,∃ x:Vl,Go kvs z r c→(∃ v,CA kvs (cK z r c)=some v∧BD H v x)∧Ap x:=fun z r c=>by
  cases e:CA kvs (cK z r c)with
  | none=>exact⟨.none,fun d=>absurd e d⟩
  | some v=>
   obtain⟨x,h1,h2⟩:=h.ok _ v e
   exact⟨x,fun _=>⟨⟨v,rfl,h1⟩,h2⟩⟩
 refine⟨fun z r c=>Classical.choose (key z r c),⟨kvs,h.ob,fun z r c d=>?_⟩,fun z r c d=>(Classical.choose_spec (key z r c) d).2⟩
 obtain⟨⟨v,e,x⟩,_⟩:=Classical.choose_spec (key z r c) d
 exact⟨v,e,x⟩
theorem EW.top {H:Hp}{u:V}{m:List (List Vl)}(h:EW H u (trT m) 4):∃ a us,u=.ref a∧H a=some (.tup us)∧us.length=m.length∧∀(j:Nat) (x:V),us[j]?=some x→∃ t,(m.map fun r=>Tr.tup (r.map VN))[j]?=some t∧EW H x t 3:=by
 unfold trT at h
 cases h with
 | @tup a us ts _ e hl hn hh=>
  refine⟨a,us,rfl,e,by rw[hn,List.length_map],fun j x hx=>?_⟩
  have hj:j<(m.map fun r=>Tr.tup (r.map VN)).length:=by have:=(List.getElem?_eq_some_iff.mp hx).1;omega
  exact⟨_,List.getElem?_eq_getElem hj,hh j x _ hx (List.getElem?_eq_getElem hj)⟩
structure E7 (K:PySem.W.Frag)(S:Addr×List Int)(PR PB PL:Addr)(H:Hp)(p:Addr)(n:Nat):Prop where
 pen:Bd K S H p n
 tR:BN H PR qR
 tB:BN H PB qP
 tL:BN H PL qL
theorem Xi:(qR==qL)=false:=by nofun
theorem VF {α:Type}{x:α}:∀ n:Nat,(List.replicate n [x]).flatten=List.replicate n x
 | 0=>rfl
 | n+1=>by rw[List.replicate_succ,List.flatten_cons,VF n,List.replicate_succ];rfl
theorem M4 {n:Nat}{i:Int}:(List.replicate n (V.int i)).all Bl=true:=by
 rw[List.all_eq_true]
 intro x hx
 rw[List.eq_of_mem_replicate hx]
 rfl
theorem Ri {n:Nat}{i:Int}:E9 (List.replicate n (V.int i)) (List.replicate n (V.int i))=true:=by
 induction n with
 | zero=>rfl
 | succ n ih=>rw[List.replicate_succ];simp[E9,JU,ih]
end Fs
open PySem L2 Mx Fs
namespace Fs
def top (i:Nat):Stmt:=PySem.Challenge.pw_freshsheet_k37_whole_reckoned_part_by_pa.main.body.getD i (.Pass ⟨0,0,0,0⟩)
abbrev Gp:Stmt:=top 4
abbrev Cf:Stmt:=top 5
abbrev F0:Stmt:=top 6
abbrev F1:Stmt:=top 7
abbrev Jw:Stmt:=top 8
abbrev DT:Stmt:=top 9
abbrev FJ:Stmt:=top 10
abbrev Em:Stmt:=top 11
abbrev IH:Stmt:=top 12
abbrev Cv:Stmt:=top 29
abbrev Cw:Stmt:=top 30
abbrev F2:Stmt:=top 38
abbrev EA:Stmt:=top 39
abbrev Cg:Stmt:=top 40
abbrev F3:Stmt:=top 22
abbrev II:Stmt:=top 31
abbrev En:Stmt:=top 34
abbrev FK:Stmt:=top 35
abbrev Gq:Stmt:=top 41
abbrev EB:Stmt:=top 42
abbrev Jx:Stmt:=top 43
abbrev Eo:Stmt:=top 45
abbrev EC:Stmt:=top 72
abbrev ED:Stmt:=top 46
abbrev EE:Stmt:=top 48
abbrev F4:Stmt:=top 49
abbrev Ep:Stmt:=top 53
abbrev DU:Stmt:=top 54
abbrev FL:Stmt:=top 55
abbrev F5:Stmt:=top 56
abbrev F6:Stmt:=top 57
abbrev FM:Stmt:=top 58
abbrev IJ:Stmt:=top 59
abbrev F7:Stmt:=top 60
abbrev EF:Stmt:=top 61
abbrev Gr:Stmt:=top 62
abbrev EG:Stmt:=top 77
abbrev DV:Stmt:=top 50
abbrev EH:Stmt:=top 51
abbrev EI:Stmt:=top 76
abbrev FN:Stmt:=top 78
abbrev Gs:Stmt:=top 23
abbrev EJ:Stmt:=top 47
abbrev Gu:Stmt:=top 65
abbrev EK:Stmt:=top 66
abbrev F8:Stmt:=top 67
abbrev DW:Stmt:=top 68
abbrev Er:Stmt:=top 71
abbrev Es:Stmt:=top 74
abbrev FP:Stmt:=top 75
abbrev Et:Stmt:=top 79
abbrev EL:Stmt:=top 80
abbrev DH:Stmt:=top 81
abbrev Gv:Stmt:=top 82
abbrev Eu:Stmt:=top 87
abbrev EM:Stmt:=top 84
abbrev Gw:Stmt:=top 85
abbrev F9:Stmt:=top 86
abbrev Cy:Stmt:=top 88
abbrev Ch:Stmt:=top 89
abbrev Ci:Stmt:=top 90
abbrev Cj:Stmt:=top 91
abbrev GA:Stmt:=top 92
abbrev DX:Stmt:=top 93
abbrev Cl:Stmt:=top 94
abbrev DY:Stmt:=top 19
abbrev GB:Stmt:=top 20
abbrev IK:Stmt:=top 21
abbrev DZ:Stmt:=top 32
abbrev Gx:Stmt:=top 33
abbrev Da:Stmt:=top 97
abbrev GC:Stmt:=top 96
abbrev Ev:Stmt:=top 98
abbrev GD:Stmt:=top 99
abbrev EN:Stmt:=top 100
abbrev Db:Stmt:=top 101
abbrev Rj:Stmt:=top 102
theorem IY {α:Type}{us:List α}(h:us.length=1):∃ a0,us=[a0]:=match us,h with | [a0],_=>⟨a0,rfl⟩
theorem Xj {α:Type}{us:List α}(h:us.length=2):∃ a0 a1,us=[a0,a1]:=match us,h with | [a0,a1],_=>⟨a0,a1,rfl⟩
theorem Xk {α:Type}{us:List α}(h:us.length=3):∃ a0 a1 a2,us=[a0,a1,a2]:=match us,h with | [a0,a1,a2],_=>⟨a0,a1,a2,rfl⟩
set_option genInjectivity false in
set_option genSizeOf false in
structure Ad where
 aa:Addr
 ab:FuncData
 ac:Addr
 ad:FuncData
 ae:Addr
 af:FuncData
 ag:Addr
 ah:FuncData
 ai:Addr
 aj:FuncData
 ak:Addr
 al:FuncData
 am:Addr
 an:FuncData
 ao:Addr
 ap:FuncData
 aq:Addr
 ar:FuncData
 au:Addr
 av:FuncData
 aw:Addr
 ax:FuncData
 ay:Addr
 az:FuncData
 a0:Addr
 a1:FuncData
 a2:Addr
 a3:FuncData
 a4:Addr
 a5:FuncData
 a6:Addr
 a7:FuncData
 a8:Addr
 a9:FuncData
 ba:Addr
 bb:FuncData
 bc:Addr
 bd:FuncData
 be:Addr
 bf:FuncData
 bg:Addr
 bh:FuncData
 bi:Addr
 bj:FuncData
 bk:Addr
 bl:FuncData
 bm:Addr
 bn:FuncData
 bo:Addr
 bp:FuncData
 bq:Addr
 br:FuncData
 bs:Addr
 bt:FuncData
 bu:Addr
 bv:FuncData
 bw:Addr
 bx:FuncData
 bz:Addr
 b0:FuncData
 b1:Addr
 b2:FuncData
 b3:Addr
 b4:FuncData
 b5:Addr
 b6:FuncData
 b7:Addr
 b8:FuncData
 b9:Addr
 ca:FuncData
 cb:Addr
 cc:FuncData
 cd:Addr
 ce:FuncData
 cf:Addr
 cg:FuncData
 ch:Addr
 ci:FuncData
 cj:Addr
 ck:FuncData
 cl:Addr
 cm:FuncData
 cn:Addr
 co:FuncData
 cp:Addr
 cq:FuncData
 cr:Addr
 cs:FuncData
 ct:Addr
 cu:FuncData
 cv:Addr
 cw:FuncData
 cx:Addr
 cy:FuncData
 cz:Addr
 c0:FuncData
 c1:Addr
 c2:FuncData
 c3:Addr
 c4:FuncData
 c5:Addr
 c6:FuncData
 c7:Addr
 c8:FuncData
 c9:Addr
 da:FuncData
 db:Addr
 dc:FuncData
 dd:Addr
 de:FuncData
 df:Addr
 dg:FuncData
 dh:Addr
 di:FuncData
 dj:Addr
 dk:FuncData
 dl:Addr
 dm:FuncData
 dn:Addr
 dp:FuncData
 dq:Addr
 dr:FuncData
 ds:Addr
 dt:FuncData
 du:Addr
 dv:FuncData
 dw:Addr
 dx:FuncData
 dy:Addr
 dz:FuncData
 d0:Addr
 d1:FuncData
 d2:Addr
 d3:FuncData
 d4:Addr
 d5:FuncData
 d6:Addr
 d7:FuncData
 d8:Addr
 d9:FuncData
 ea:Addr
 eb:FuncData
 ec:Addr
 ed:FuncData
 ee:Addr
 ef:FuncData
 eg:Addr
 eh:FuncData
 ei:Addr
 ej:FuncData
 ek:Addr
 el:FuncData
 em:Addr
 en:FuncData
 gb:Addr
 ep:Addr
 gx:Addr
 er:Addr
 gy:Addr
 et:Addr
structure Txt (w:World)(K:PySem.W.Frag)(mg:Str→Option Value)(t:Ad):Prop where
 eu:Df K mg "is_whole" Gp ["thing"] t.aa t.ab
 ev:Df K mg "greatest_divisor" Cf ["one","other"] t.ac t.ad
 ew:Df K mg "is_number" F0 ["top","bottom"] t.ae t.af
 ex:Df K mg "number_of" F1 ["top","bottom"] t.ag t.ah
 ey:Df K mg "sum_of" Jw ["a","b"] t.ai t.aj
 ez:Df K mg "difference_of" DT ["a","b"] t.ak t.al
 e0:Df K mg "product_of" FJ ["a","b"] t.am t.an
 e1:Df K mg "quotient_of" Em ["a","b"] t.ao t.ap
 e2:Df K mg "is_less" IH ["a","b"] t.aq t.ar
 e3:Df K mg "has_few_figures" Cv ["thing"] t.au t.av
 e4:Df K mg "is_short_number" Cw ["top","bottom"] t.aw t.ax
 e5:Df K mg "number_in" F2 ["value"] t.ay t.az
 e6:Df K mg "number_value" EA ["number","cell"] t.a0 t.a1
 e7:Df K mg "reckoned_numbers" Cg ["sign","a","b","cell"] t.a2 t.a3
 e8:Df K mg "cell_text" F3 ["cell"] t.a4 t.a5
 e9:Df K mg "is_text" II ["thing"] t.a6 t.a7
 fa:Df K mg "number_text" En ["top","bottom"] t.a8 t.a9
 fb:Df K mg "value_text" FK ["value"] t.ba t.bb
 fc:Df K mg "signs_in" Gq ["value"] t.bc t.bd
 fd:Df K mg "joined_texts" EB ["one","other","cell"] t.be t.bf
 fe:Df K mg "signed" Jx ["sign","one","other","cell"] t.bg t.bh
 ff:Df K mg "table_shape" Eo ["table"] t.bi t.bj
 fg:Df K mg "fitted_shape" EC ["one","other"] t.bk t.bl
 fh:Df K mg "filled_table" ED ["shape","value"] t.bm t.bn
 fi:Df K mg "spread_table" EE ["table","shape"] t.bo t.bp
 fj:Df K mg "values_in" F4 ["table"] t.bq t.br
 fk:Df K mg "first_fault" Ep ["values"] t.bs t.bt
 fl:Df K mg "numbers_among" DU ["values"] t.bu t.bv
 fm:Df K mg "sum_of_all" FL ["numbers"] t.bw t.bx
 fn:Df K mg "sum_among" F5 ["values","cell"] t.bz t.b0
 fo:Df K mg "summed_up" F6 ["table","cell"] t.b1 t.b2
 fp:Df K mg "counted_up" FM ["table"] t.b3 t.b4
 fq:Df K mg "ends_of" IJ ["table","most"] t.b5 t.b6
 fr:Df K mg "summed_if" F7 ["one","sign","value","other","cell"] t.b7 t.b8
 fs:Df K mg "is_column_of" EF ["value","table"] t.b9 t.ca
 ft:Df K mg "found_at" Gr ["key","table","at","cell"] t.cb t.cc
 fu:Df K mg "chosen_table" EG ["condition","one","other","cell"] t.cd t.ce
 fv:Df K mg "table_in_rows" DV ["values","wide"] t.cf t.cg
 fw:Df K mg "turned_table" EH ["table"] t.ch t.ci
 fx:Df K mg "signed_table" EI ["sign","one","other","cell"] t.cj t.ck
 fy:Df K mg "grid_table" FN ["high","wide","first","step","cell"] t.cl t.cm
 fz:Df K mg "cells_of" Gs ["block"] t.cn t.co
 f0:Df K mg "table_of_one" EJ ["value"] t.cp t.cq
 f1:Df K mg "parts_of" Gu ["formula"] t.cr t.cs
 f2:Df K mg "block_led_to" EK ["reference"] t.ct t.cu
 f3:Df K mg "all_parts" F8 ["formula"] t.cv t.cw
 f4:Df K mg "told_by_parts" DW ["row","tell_one"] t.cx t.cy
 f5:Df K mg "block_shape" Er ["block"] t.cz t.c0
 f6:Df K mg "shown_table" Es ["block","shows"] t.c1 t.c2
 f7:Df K mg "leaf_table" FP ["leaf","cell","shows"] t.c3 t.c4
 f8:Df K mg "outer_value" Et ["value","outer"] t.c5 t.c6
 f9:Df K mg "single_value" EL ["formula","tables","cell","outer"] t.c7 t.c8
 ga:Df K mg "table_by_parts" DH ["formula","tables","cell","shows","outer"] t.c9 t.da
 gb:Df K mg "reckoned" Gv ["opened","cell","shows","outer"] t.db t.dc
 gc:Df K mg "_law_lowest" Eu ["_law_top","_law_bottom"] t.dd t.de
 gd:Df K mg "_law_cell_at" EM ["_law_script","_law_k"] t.df t.dg
 ge:Df K mg "_law_pen" Gw ["_law_script"] t.dh t.di
 gf:Df K mg "_law_take" F9 ["_law_pen_here","_law_most"] t.dj t.dk
 gg:Df K mg "_law_drawn_cell" Cy ["_law_pen_here"] t.dl t.dm
 gh:Df K mg "_law_great_value" Ch ["_law_pen_here"] t.dn t.dp
 gi:Df K mg "_law_drawn_value" Ci ["_law_pen_here"] t.dq t.dr
 gj:Df K mg "_law_drawn_table" Cj ["_law_pen_here","_law_high","_law_wide"] t.ds t.dt
 gk:Df K mg "_law_laid" GA ["_law_known","_law_sheet","_law_table","_law_high","_law_wide"] t.du t.dv
 gl:Df K mg "_law_put_down" DX ["_law_pen_here","_law_known","_law_sheet","_law_table"] t.dw t.dx
 gm:Df K mg "_law_typed_alike" Cl ["_law_told","_law_due"] t.dy t.dz
 gn:Df K mg "is_sheet_name" DY ["thing"] t.d0 t.d1
 go:Df K mg "is_within" GB ["thing","last"] t.d2 t.d3
 gp:Df K mg "is_cell" IK ["thing"] t.d4 t.d5
 gq:Df K mg "is_fault_word" DZ ["thing"] t.d6 t.d7
 gr:Df K mg "is_value" Gx ["thing"] t.d8 t.d9
 gs:Df K mg "_law_lessened" Da ["_law_one"] t.ea t.eb
 gt:Df K mg "_law_leaf" GC ["_law_pen_here","_law_known","_law_high","_law_wide"] t.ec t.ed
 gu:Df K mg "_law_single" Ev ["_law_pen_here","_law_known","_law_deep"] t.ee t.ef
 gv:Df K mg "_law_tree" GD ["_law_pen_here","_law_known","_law_high","_law_wide","_law_deep"] t.eg t.eh
 gw:Df K mg "_law_outside" EN ["_law_one"] t.ei t.ej
 gx:Df K mg "_law_by_parts" Db ["_law_formula","_law_home","_law_known"] t.ek t.el
 gy:Df K mg "law" Rj ["_law_script"] t.em t.en
 gz:mg "len"=none
 g0:mg "range"=none
 g1:mg "isinstance"=none
 g2:mg "int"=none
 g3:mg "bool"=none
 g4:mg "str"=none
 g5:mg "tuple"=none
 g6:mg "list"=none
 g7:mg "reversed"=none
 g8:mg "min"=none
 g9:mg "all"=none
 ha:mg "abs"=none
 hb:mg "enumerate"=none
 hc:mg "zip"=none
 hd:mg "max"=none
 he:Vy w K mg "PART_PLACES" Yo
 hf:SQ K mg "ONE_PLACE" [V.int 1,V.int 1]
 hg:PU mg "GREATEST_WHOLE" 999999999999999999999999999999
 hh:SN mg "SIGNS" (Str.ofString "abcdefghijklmnopqrstuvwxyz0123456789 ")
 hi:PU mg "MOST_SIGNS" 20
 hj:SN mg "COLUMN_LETTERS" (Str.ofString "ABCDEFGHIJKLMNOPQRSTUVWXYZ")
 hk:SQ K mg "NOUGHT" [V.str (Str.ofString "number"),V.int 0,V.int 1]
 hl:SN mg "LETTERS" (Str.ofString "abcdefghijklmnopqrstuvwxyz")
 hm:PU mg "LONGEST_NAME" 6
 hn:PU mg "LAST_ROW" 16
 ho:PU mg "LAST_COLUMN" 8
 hp:SQ K mg "FAULTS" (Ct.map V.str)
 hq:PySem.W.kitOne K (.type "str") (.type "tuple")=some false
 hr:PySem.W.kitOne K (.type "int") (.type "tuple")=some false
 hs:PySem.W.kitOne K (.type "int") (.type "bool")=some false
 ht:PySem.W.kitOne K (.type "bool") (.type "tuple")=some false
 hu:PySem.W.kitOne K (.type "str") (.type "bool")=some false
 hv:PySem.W.kitOne K (.type "str") (.type "int")=some false
 hw:t.dc.code=.ref t.gb
 hx:t.el.code=.ref t.gx
 hy:t.en.code=.ref t.gy
 hz:t.ep≠t.er
 h0:t.ep≠t.et
 h1:t.er≠t.et
seal PE PT PW PA PS MB PI PG VY PF PO PJ GL Dw VJ Xo
section
variable {P:Program}{w:World}{K:PySem.W.Frag}{mg:Str→Option Value}{base:Heap}{t:Ad}
theorem Nw:AW ["thing"] ["thing"] (AL Gp):=A9
theorem IZ (T:Txt w K mg t):Av P w K mg base Bj 1 t.aa t.ab ["thing"] SM:=by
 have D:=T.eu
 refine D.fn.okX Nw ?_ (fun cdv A outer s H vs Q E hr h Z hZ=>?_)
 ·rintro _ _ _ _ ⟨i,rfl,_⟩
  rfl
 ·obtain⟨i,rfl,k⟩:=h
  refine hZ ⟨_,((AF (AJ (BX (AT Am (by rfl) T.g1 Aa (AA (AH 0) (AA (BP T.g2 CV) AB))) (B9 (Tg (AT Am (by rfl) T.g1 Aa (AA (AH 0) (AA (BP T.g3 B8) AB))))))))),?_⟩
  try dsimp only[A6,An]
  refine⟨_,rfl,_,_,_,_,true,rfl,.int _,rfl,(fun _=>.inr trivial),BK _ _,true,rfl,Az ?_⟩
  exact⟨_,rfl,_,_,_,_,false,rfl,.int _,rfl,(fun _=>.inr trivial),T.hs,false,rfl,k⟩
theorem BS:AW ["one","other","greater","lesser","rest"] ["one","other"] (AL Cf):=A9
theorem Di (T:Txt w K mg t):Av P w K mg base Bj 1 t.ac t.ad ["one","other"] Yg:=by
 have D:=T.ev
 refine D.fn.okX BS ?_ (fun cdv A outer s H vs Q E hr h Z hZ=>?_)
 ·rintro _ _ _ _ ⟨a,b,rfl,_⟩
  rfl
 ·obtain⟨a,b,rfl,k⟩:=h
  refine hZ ⟨_,((AD (Ac (i:=2) BS.nd rfl (Or.inl rfl) (AT Ex (by rfl) T.ha E1 (AA (AH 0) AB)))
   (AD (Ac (i:=3) BS.nd rfl (Or.inl rfl) (AT Ex (by rfl) T.ha E1 (AA (AH 1) AB)))
   (AD (JO PassesOwn.never (AQ MG (AH 3) AC (AN _)) (AD (Ac (i:=4) BS.nd rfl (Or.inl rfl) (AY Cd (AH 2) (AH 3)))
   (AD (Ac (i:=2) BS.nd rfl (Or.inl rfl) (AH 3))
   (AF (Ac (i:=3) BS.nd rfl (Or.inl rfl) (AH 4))))))
   (AF (AJ (AH 2))))))),?_⟩
  try dsimp only[A6,An]
  refine⟨_,rfl,a,rfl,_,rfl,b,rfl,?_⟩
  refine ME (fun σ H'=>H'=H∧∃(m n:Nat) (r:Option V),σ=[some (.int a),some (.int b),some (.int m),some (.int n),r]∧Nat.gcd m n=Nat.gcd a.natAbs b.natAbs)
   (fun σ _=>S5 σ) ⟨rfl,a.natAbs,b.natAbs,none,by rw[← Lb a,← Lb b];rfl,rfl⟩ ?_ (fun σ H Q Q' hq ⟨v,e,z,c,e2,q⟩=>⟨v,e,z,c,e2,hq _ _ q⟩)
  rintro σ H' ⟨rfl,m,n,r,rfl,hg⟩
  refine⟨_,rfl,rfl,_,rfl,?_⟩
  refine Ba (fun hc=>?_) (fun hc=>?_)
  ·have hn:n≠0:=by intro z;subst z;simp at hc
   refine⟨_,rfl,_,rfl,_,_,rfl,rfl,(by show(0:Int)<(n:Int);omega),_,rfl,_,rfl,?_⟩
   refine⟨⟨rfl,n,m%n,some (.int ((m:Int)%(n:Int))),?_,by rw[Mi];exact hg⟩,?_⟩
   ·rw[Int.natCast_emod];rfl
   ·show((m:Int)%(n:Int)).toNat<((n:Int)).toNat
    have h1:=Int.emod_lt_of_pos (m:Int) (show(0:Int)<n by omega)
    have h2:=Int.emod_nonneg (m:Int) (show(n:Int)≠0 by omega)
    omega
  ·have hn:n=0:=by
    rcases Nat.eq_zero_or_pos n with z | z
    ·exact z
    ·exfalso;apply hc;simp;omega
   subst hn
   rw[Nat.gcd_zero_right]at hg
   rw[← hg]at k
   exact⟨_,rfl,k⟩
theorem M5:AW ["top","bottom"] ["top","bottom"] (AL F0):=A9
theorem Ly (T:Txt w K mg t):Av P w K mg base Bj 2 t.ae t.af ["top","bottom"] WK:=by
 have D:=T.ew
 refine D.fn.okX M5 ?_ (fun cdv A outer s H vs Q E hr h Z hZ=>?_)
 ·rintro _ _ _ _ ⟨t,b,rfl,_⟩
  rfl
 ·obtain⟨t,b,rfl,lo,k⟩:=h
  refine hZ ⟨_,((AF (AJ (BX (A3 Vg (AH 1) AC (AN _)) (B9 (A3 Aj (AR T.ev (Di T) (BB hr) (AA (AH 0) (AA (AH 1) AB))) AC (AN _))))))),?_⟩
  try dsimp only[A6,An]
  have hp:=lo.pos
  refine⟨_,rfl,_,_,rfl,rfl,true,(by simp;omega),Az ?_⟩
  exact⟨_,rfl,_,rfl,t,b,rfl,rfl,Qt (VM (by rw[lo.cop];rfl)) k⟩
theorem GE:AW ["top","bottom","divisor"] ["top","bottom"] (AL F1):=A9
theorem Cz (T:Txt w K mg t):Av P w K mg base Bj 2 t.ag t.ah ["top","bottom"] WA:=by
 have D:=T.ex
 refine D.fn.okX GE ?_ (fun cdv A outer s H vs Q E hr h Z hZ=>?_)
 ·rintro _ _ _ _ ⟨t,b,rfl,_⟩
  rfl
 ·obtain⟨t,b,rfl,hb,hz,k⟩:=h
  refine hZ ⟨_,((AD (Ak (AQ Aj (AH 1) AC (AN _)) (AF Co) AU)
   (AD (Ac (i:=2) GE.nd rfl (Or.inl rfl) (AR T.ev (Di T) (BB hr) (AA (AH 0) (AA (AH 1) AB))))
   (AD (Ak (AQ FS (AH 1) AC (AN _)) (AF (Ac (i:=2) GE.nd rfl (Or.inl rfl) (P6 NK (AH 2)))) AU)
   (AF (AJ (Al (AV (AY Fn (AH 0) (AH 2)) (AV (AY Fn (AH 1) (AH 2)) AB))))))))),?_⟩
  try dsimp only[A6,An]
  refine⟨_,rfl,rfl,_,rfl,?_⟩
  refine Ba (fun hc=>absurd (by simpa using hc) hb) (fun _=>?_)
  refine⟨_,rfl,_,rfl,t,b,rfl,?_⟩
  refine⟨_,rfl,_,_,rfl,rfl,_,rfl,?_⟩
  have h0:=LC (t:=t) hb
  have h1:=S6 (t:=t) hb hz
  unfold CP CB at k
  refine Ba (fun hc=>?_) (fun hc=>?_)
  ·have hc':b<0:=by simpa using hc
   have e:dv t b = -((Nat.gcd t.natAbs b.natAbs:Nat):Int):=if_pos hc'
   rw[e]at k h0 h1
   exact⟨_,rfl,_,rfl,_,rfl,_,rfl,_,_,rfl,rfl,⟨h0,h1⟩,_,rfl,_,rfl,_,_,rfl,rfl,⟨h0,h1⟩,BG,k⟩
  ·have hc':¬ b<0:=by simpa using hc
   have e:dv t b=((Nat.gcd t.natAbs b.natAbs:Nat):Int):=if_neg hc'
   rw[e]at k h0 h1
   exact⟨_,rfl,_,rfl,_,_,rfl,rfl,⟨h0,h1⟩,_,rfl,_,rfl,_,_,rfl,rfl,⟨h0,h1⟩,BG,k⟩
theorem Rk:AW ["a","b"] ["a","b"] (AL Jw):=A9
theorem Px (T:Txt w K mg t):Av P w K mg base Bj 3 t.ai t.aj ["a","b"] WB:=by
 have D:=T.ey
 refine D.fn.okX Rk ?_ (fun cdv A outer s H vs Q E hr h Z hZ=>?_)
 ·rintro _ _ _ _ ⟨p,q,a,b,c,d,m,n,rfl,_⟩
  rfl
 ·obtain⟨p,q,a,b,c,d,m,n,rfl,hp,hq,hmn,hC,k⟩:=h
  have hne:=Xq hp.ne0 hq.ne0
  refine hZ ⟨_,((AF (AJ (AR T.ex (Cz T) (BB hr) (AV (AY A0 (AY BQ (AK AO (AH 0) AC (fun _ _=>rfl)) (AK AO (AH 1) AC (fun _ _=>rfl))) (AY BQ (AK AO (AH 1) AC (fun _ _=>rfl)) (AK AO (AH 0) AC (fun _ _=>rfl)))) (AV (AY BQ (AK AO (AH 0) AC (fun _ _=>rfl)) (AK AO (AH 1) AC (fun _ _=>rfl))) AB)))))),?_⟩
  try dsimp only[A6,An]
  refine⟨_,rfl,p,_,_,_,rfl,rfl,Af.of hp.ob,rfl,_,rfl,q,_,_,_,rfl,rfl,Af.of hq.ob,rfl,_,_,rfl,rfl,⟨hp.sx.mono (by omega),hq.sy.mono (by omega)⟩,_,rfl,q,_,_,_,rfl,rfl,Af.of hq.ob,rfl,_,rfl,p,_,_,_,rfl,rfl,Af.of hp.ob,rfl,_,_,rfl,rfl,⟨hq.sx.mono (by omega),hp.sy.mono (by omega)⟩,_,_,rfl,rfl,_,rfl,p,_,_,_,rfl,rfl,Af.of hp.ob,rfl,_,rfl,q,_,_,_,rfl,rfl,Af.of hq.ob,rfl,_,_,rfl,rfl,⟨hp.sy.mono (by omega),hq.sy.mono (by omega)⟩,_,_,rfl,hne,(hp.sy.mul hq.sy).mono (by omega),fun r hr'=>?_⟩
  exact k r _ (AI.new hr') ⟨AE,DL hne,JA hne (((hp.sx.mul hq.sy).add ((hq.sx.mul hp.sy).mono (Nat.le_of_eq (Nat.add_comm _ _))))),JB hne ((hp.sy.mul hq.sy).mono (Nat.le_succ _))⟩
theorem Ij:AW ["a","b"] ["a","b"] (AL DT):=A9
theorem IL (T:Txt w K mg t):Av P w K mg base Bj 3 t.ak t.al ["a","b"] WC:=by
 have D:=T.ez
 refine D.fn.okX Ij ?_ (fun cdv A outer s H vs Q E hr h Z hZ=>?_)
 ·rintro _ _ _ _ ⟨p,q,a,b,c,d,m,n,rfl,_⟩
  rfl
 ·obtain⟨p,q,a,b,c,d,m,n,rfl,hp,hq,hmn,hC,k⟩:=h
  have hne:=Xq hp.ne0 hq.ne0
  refine hZ ⟨_,((AF (AJ (AR T.ex (Cz T) (BB hr) (AV (AY BH (AY BQ (AK AO (AH 0) AC (fun _ _=>rfl)) (AK AO (AH 1) AC (fun _ _=>rfl))) (AY BQ (AK AO (AH 1) AC (fun _ _=>rfl)) (AK AO (AH 0) AC (fun _ _=>rfl)))) (AV (AY BQ (AK AO (AH 0) AC (fun _ _=>rfl)) (AK AO (AH 1) AC (fun _ _=>rfl))) AB)))))),?_⟩
  try dsimp only[A6,An]
  refine⟨_,rfl,p,_,_,_,rfl,rfl,Af.of hp.ob,rfl,_,rfl,q,_,_,_,rfl,rfl,Af.of hq.ob,rfl,_,_,rfl,rfl,⟨hp.sx.mono (by omega),hq.sy.mono (by omega)⟩,_,rfl,q,_,_,_,rfl,rfl,Af.of hq.ob,rfl,_,rfl,p,_,_,_,rfl,rfl,Af.of hp.ob,rfl,_,_,rfl,rfl,⟨hq.sx.mono (by omega),hp.sy.mono (by omega)⟩,_,_,rfl,rfl,_,rfl,p,_,_,_,rfl,rfl,Af.of hp.ob,rfl,_,rfl,q,_,_,_,rfl,rfl,Af.of hq.ob,rfl,_,_,rfl,rfl,⟨hp.sy.mono (by omega),hq.sy.mono (by omega)⟩,_,_,rfl,hne,(hp.sy.mul hq.sy).mono (by omega),fun r hr'=>?_⟩
  exact k r _ (AI.new hr') ⟨AE,DL hne,JA hne (((hp.sx.mul hq.sy).sub ((hq.sx.mul hp.sy).mono (Nat.le_of_eq (Nat.add_comm _ _))))),JB hne ((hp.sy.mul hq.sy).mono (Nat.le_succ _))⟩
theorem Lz:AW ["a","b"] ["a","b"] (AL FJ):=A9
theorem KY (T:Txt w K mg t):Av P w K mg base Bj 3 t.am t.an ["a","b"] WD:=by
 have D:=T.e0
 refine D.fn.okX Lz ?_ (fun cdv A outer s H vs Q E hr h Z hZ=>?_)
 ·rintro _ _ _ _ ⟨p,q,a,b,c,d,m,n,rfl,_⟩
  rfl
 ·obtain⟨p,q,a,b,c,d,m,n,rfl,hp,hq,hmn,hC,k⟩:=h
  have hne:=Xq hp.ne0 hq.ne0
  refine hZ ⟨_,((AF (AJ (AR T.ex (Cz T) (BB hr) (AV (AY BQ (AK AO (AH 0) AC (fun _ _=>rfl)) (AK AO (AH 1) AC (fun _ _=>rfl))) (AV (AY BQ (AK AO (AH 0) AC (fun _ _=>rfl)) (AK AO (AH 1) AC (fun _ _=>rfl))) AB)))))),?_⟩
  try dsimp only[A6,An]
  refine⟨_,rfl,p,_,_,_,rfl,rfl,Af.of hp.ob,rfl,_,rfl,q,_,_,_,rfl,rfl,Af.of hq.ob,rfl,_,_,rfl,rfl,⟨hp.sx.mono (by omega),hq.sx.mono (by omega)⟩,_,rfl,p,_,_,_,rfl,rfl,Af.of hp.ob,rfl,_,rfl,q,_,_,_,rfl,rfl,Af.of hq.ob,rfl,_,_,rfl,rfl,⟨hp.sy.mono (by omega),hq.sy.mono (by omega)⟩,_,_,rfl,hne,(hp.sy.mul hq.sy).mono (by omega),fun r hr'=>?_⟩
  exact k r _ (AI.new hr') ⟨AE,DL hne,JA hne ((hp.sx.mul hq.sx).mono (Nat.le_succ _)),JB hne ((hp.sy.mul hq.sy).mono (Nat.le_succ _))⟩
theorem KZ:AW ["a","b"] ["a","b"] (AL Em):=A9
theorem Jy (T:Txt w K mg t):Av P w K mg base Bj 3 t.ao t.ap ["a","b"] WE:=by
 have D:=T.e1
 refine D.fn.okX KZ ?_ (fun cdv A outer s H vs Q E hr h Z hZ=>?_)
 ·rintro _ _ _ _ ⟨p,q,a,b,c,d,m,n,rfl,_⟩
  rfl
 ·obtain⟨p,q,a,b,c,d,m,n,rfl,hp,hq,hmn,hC,k⟩:=h
  have hne:=Xq hp.ne0 hC
  refine hZ ⟨_,((AF (AJ (AR T.ex (Cz T) (BB hr) (AV (AY BQ (AK AO (AH 0) AC (fun _ _=>rfl)) (AK AO (AH 1) AC (fun _ _=>rfl))) (AV (AY BQ (AK AO (AH 0) AC (fun _ _=>rfl)) (AK AO (AH 1) AC (fun _ _=>rfl))) AB)))))),?_⟩
  try dsimp only[A6,An]
  refine⟨_,rfl,p,_,_,_,rfl,rfl,Af.of hp.ob,rfl,_,rfl,q,_,_,_,rfl,rfl,Af.of hq.ob,rfl,_,_,rfl,rfl,⟨hp.sx.mono (by omega),hq.sy.mono (by omega)⟩,_,rfl,p,_,_,_,rfl,rfl,Af.of hp.ob,rfl,_,rfl,q,_,_,_,rfl,rfl,Af.of hq.ob,rfl,_,_,rfl,rfl,⟨hp.sy.mono (by omega),hq.sx.mono (by omega)⟩,_,_,rfl,hne,(hp.sy.mul hq.sx).mono (by omega),fun r hr'=>?_⟩
  exact k r _ (AI.new hr') ⟨AE,DL hne,JA hne ((hp.sx.mul hq.sy).mono (Nat.le_succ _)),JB hne ((hp.sy.mul hq.sx).mono (Nat.le_succ _))⟩
theorem Py:AW ["a","b"] ["a","b"] (AL IH):=A9
theorem Gy (T:Txt w K mg t):Av P w K mg base Bj 1 t.aq t.ar ["a","b"] UO:=by
 have D:=T.e2
 refine D.fn.okX Py ?_ (fun cdv A outer s H vs Q E hr h Z hZ=>?_)
 ·rintro _ _ _ _ ⟨p,q,a,b,c,d,m,n,rfl,_⟩
  rfl
 ·obtain⟨p,q,a,b,c,d,m,n,rfl,hp,hq,hmn,k⟩:=h
  refine hZ ⟨_,((AF (AJ (A3 FS (AY BQ (AK AO (AH 0) AC (fun _ _=>rfl)) (AK AO (AH 1) AC (fun _ _=>rfl))) (AY BQ (AK AO (AH 1) AC (fun _ _=>rfl)) (AK AO (AH 0) AC (fun _ _=>rfl))) (AN _))))),?_⟩
  try dsimp only[A6,An]
  exact⟨_,rfl,p,_,_,_,rfl,rfl,Af.of hp.ob,rfl,_,rfl,q,_,_,_,rfl,rfl,Af.of hq.ob,rfl,_,_,rfl,rfl,⟨hp.sx.mono (by omega),hq.sy.mono (by omega)⟩,_,rfl,q,_,_,_,rfl,rfl,Af.of hq.ob,rfl,_,rfl,p,_,_,_,rfl,rfl,Af.of hp.ob,rfl,_,_,rfl,rfl,⟨hq.sx.mono (by omega),hp.sy.mono (by omega)⟩,_,_,rfl,rfl,k⟩
theorem Hd:AW ["thing"] ["thing"] (AL Cv):=A9
theorem EO (T:Txt w K mg t):Av P w K mg base Bj 2 t.au t.av ["thing"] Uj:=by
 have D:=T.e3
 refine D.fn.okX Hd ?_ (fun cdv A outer s H vs Q E hr h Z hZ=>?_)
 ·rintro _ _ _ _ ⟨i,rfl,_⟩
  rfl
 ·obtain⟨i,rfl,k⟩:=h
  refine hZ ⟨_,((AF (AJ (BX (AR T.eu (IZ T) (BB hr) (AA (AH 0) AB)) (B9 (A3 MH (AT Ex (by rfl) T.ha E1 (AA (AH 0) AB)) (HL T.hg) (AN _))))))),?_⟩
  try dsimp only[A6,An]
  refine⟨_,rfl,i,rfl,true,rfl,Az ?_⟩
  exact⟨_,rfl,i,rfl,_,_,rfl,rfl,k⟩
theorem He:AW ["top","bottom"] ["top","bottom"] (AL Cw):=A9
theorem EQ (T:Txt w K mg t):Av P w K mg base Bj 3 t.aw t.ax ["top","bottom"] Wn:=by
 have D:=T.e4
 refine D.fn.okX He ?_ (fun cdv A outer s H vs Q E hr h Z hZ=>?_)
 ·rintro _ _ _ _ ⟨t_,b,rfl,_⟩
  rfl
 ·obtain⟨t_,b,rfl,low,k⟩:=h
  refine hZ ⟨_,((AF (AJ (BX (AR T.e3 (EO T) (BB hr) (AA (AH 0) AB)) (BX (AR T.e3 (EO T) (BB hr) (AA (AH 1) AB)) (B9 (AR T.ew (Ly T) (BB hr) (AA (AH 0) (AA (AH 1) AB))))))))),?_⟩
  try dsimp only[A6,An]
  refine⟨_,rfl,t_,rfl,few t_,rfl,?_⟩
  cases e1:few t_ with
  | false=>rw[e1]at k;exact Ah k
  | true=>
   rw[e1]at k
   refine Az ⟨_,rfl,b,rfl,few b,rfl,?_⟩
   cases e2:few b with
   | false=>rw[e2]at k;exact Ah k
   | true=>
    rw[e2]at k
    exact Az ⟨_,rfl,_,rfl,t_,b,rfl,low,k⟩
theorem M6:AW ["value"] ["value"] (AL F2):=A9
theorem Hf (T:Txt w K mg t):Av P w K mg base Bj 1 t.ay t.az ["value"] (Wo K):=by
 have D:=T.e5
 refine D.fn.okX M6 ?_ (fun cdv A outer s H vs Q E hr h Z hZ=>?_)
 ·rintro _ _ _ _ ⟨u,v,rfl,_⟩
  rfl
 ·obtain⟨u,v,rfl,hin,k⟩:=h
  refine hZ ⟨_,((AD (Ak (AQ Aj (AK AO (AH 0) AC (fun _ _=>rfl)) AM (AN _)) (AF (AJ (Al (AG AC (AG AC AB))))) AU)
   (AF (AJ (B3 (AQ Aj (AK AO (AH 0) AC (fun _ _=>rfl)) AM (AN _)) (Al (AS (AK AO (AH 0) AC (fun _ _=>rfl)) (AS (AK AO (AH 0) AC (fun _ _=>rfl)) AB))) DS))))),?_⟩
  try dsimp only[A6,An]
  rcases hin with⟨p,rfl,hv⟩ | ⟨rfl,q0,rfl,hc⟩
  case inr=>
   refine⟨_,rfl,q0,_,_,_,rfl,rfl,hc _,rfl,rfl,false,(by nofun),Ah ?_⟩
   refine⟨_,rfl,q0,_,_,_,rfl,rfl,hc _,rfl,rfl,true,(by nofun),Az ?_⟩
   exact⟨_,rfl,q0,_,_,_,rfl,rfl,hc _,rfl,_,rfl,q0,_,_,_,rfl,rfl,hc _,rfl,BG,fun q hq=>k _ _ ⟨q,rfl,AE⟩ (AI.new hq)⟩
  obtain⟨xs,hp,_⟩:=hv.itm
  refine⟨_,rfl,p,_,_,_,rfl,rfl,Af.of hp,Ag,rfl,_,rfl,Ba (fun c1=>?_) (fun c1=>?_)⟩
  ·have e:v=.none:=by
    cases v with
    | none=>rfl
    | num t b=>exact absurd c1 (by show ¬ decide (V.str (Str.ofString "number")=vS "none")=true;nofun)
    | txt z=>exact absurd c1 (by show ¬ decide (V.str (Str.ofString "text")=vS "none")=true;nofun)
    | tru b=>exact absurd c1 (by show ¬ decide (V.str (Str.ofString "truth")=vS "none")=true;nofun)
    | flt w z r c=>exact absurd c1 (by show ¬ decide (V.str (Str.ofString "fault")=vS "none")=true;nofun)
   subst e
   exact⟨BG,fun q hq=>k _ _ ⟨q,rfl,AE⟩ (AI.new hq)⟩
  ·refine⟨_,rfl,p,_,_,_,rfl,rfl,Af.of hp,Ag,rfl,_,rfl,Ba (fun c2=>?_) (fun c2=>?_)⟩
   ·obtain⟨t_,b_,rfl⟩:=hv.num_of c2
    have hp':H p=some (.tup [vS "number",.int t_,.int b_]):=hv
    exact⟨_,rfl,p,_,_,_,rfl,rfl,Af.of hp',rfl,_,rfl,p,_,_,_,rfl,rfl,Af.of hp',rfl,BG,fun q hq=>k _ _ ⟨q,rfl,AE⟩ (AI.new hq)⟩
   ·have e:Ec v=none:=by
     cases v with
     | none=>exact absurd (by show decide (V.str (Str.ofString "none")=vS "none")=true;nofun) c1
     | num t b=>exact absurd (by show decide (V.str (Str.ofString "number")=vS "number")=true;nofun) c2
     | txt z=>rfl
     | tru b=>rfl
     | flt w z r c=>rfl
    rw[e]at k
    exact k _ _ rfl (AI.refl _)
theorem Jz:AW ["number","cell"] ["number","cell"] (AL EA):=A9
theorem B6 (T:Txt w K mg t):Av P w K mg base Bj 4 t.a0 t.a1 ["number","cell"] Wp:=by
 have D:=T.e6
 refine D.fn.okX Jz ?_ (fun cdv A outer s H vs Q E hr h Z hZ=>?_)
 ·rintro _ _ _ _ ⟨p,t_,b,y,hm,rfl,_⟩
  rfl
 ·obtain⟨p,t_,b,y,hm,rfl,hp,low,hy,k⟩:=h
  refine hZ ⟨_,((AD (Ak (BR (AR T.e4 (EQ T) (BB hr) (AS (AK AO (AH 0) AC (fun _ _=>rfl)) (AS (AK AO (AH 0) AC (fun _ _=>rfl)) AB)))) (AF (AJ (Al (AG AM (AS (AK AO (AH 0) AC (fun _ _=>rfl)) (AS (AK AO (AH 0) AC (fun _ _=>rfl)) AB)))))) AU)
   (AF (AJ (Al (AG AM (AG AM (AA (AH 1) AB)))))))),?_⟩
  try dsimp only[A6,An]
  refine⟨_,rfl,p,_,_,_,rfl,rfl,Af.of hp,rfl,_,rfl,p,_,_,_,rfl,rfl,Af.of hp,rfl,t_,b,rfl,low,few t_&&few b,rfl,?_⟩
  unfold KS at k
  cases e:(few t_&&few b)with
  | true=>
   rw[if_pos e]at k
   exact Az ⟨_,rfl,p,_,_,_,rfl,rfl,Af.of hp,rfl,_,rfl,p,_,_,_,rfl,rfl,Af.of hp,rfl,As,fun q hq=>k _ _ ⟨q,rfl,AE⟩ (AI.new hq)⟩
  | false=>
   rw[if_neg (by rw[e];exact Bool.false_ne_true)]at k
   exact Ah ⟨_,rfl,As,fun q hq=>k _ _ (hy.flt hq) (AI.new hq)⟩
theorem Gz:AW ["sign","a","b","cell"] ["sign","a","b","cell"] (AL Cg):=A9
theorem GU (T:Txt w K mg t):Av P w K mg base Bj 5 t.a2 t.a3 ["sign","a","b","cell"] Wr:=by
 have D:=T.e7
 refine D.fn.okX Gz ?_ (fun cdv A outer s H vs Q E hr h Z hZ=>?_)
 ·rintro _ _ _ _ ⟨sg,p,q,a,b,y,hm,rfl,_⟩
  rfl
 ·obtain⟨sg,p,q,⟨a1,a2⟩,⟨b1,b2⟩,y,hm,rfl,hp,hq,hy,k⟩:=h
  refine hZ ⟨_,((AD (Ak (AQ Aj (AH 0) AM (AN _)) (AF (AJ (AR T.e6 (B6 T) (BB hr) (Ai (AR T.ey (Px T) (BB hr) (AA (AH 1) (AA (AH 2) AB))) (AA (AH 3) AB))))) AU)
   (AD (Ak (AQ Aj (AH 0) AM (AN _)) (AF (AJ (AR T.e6 (B6 T) (BB hr) (Ai (AR T.ez (IL T) (BB hr) (AA (AH 1) (AA (AH 2) AB))) (AA (AH 3) AB))))) AU)
   (AD (Ak (AQ Aj (AH 0) AM (AN _)) (AF (AJ (AR T.e6 (B6 T) (BB hr) (Ai (AR T.e0 (KY T) (BB hr) (AA (AH 1) (AA (AH 2) AB))) (AA (AH 3) AB))))) AU)
   (AD (Ak (AQ Aj (AH 0) AM (AN _)) (AF (AJ (B3 (AQ Aj (AK AO (AH 2) AC (fun _ _=>rfl)) AC (AN _)) (Al (AG AM (AG AM (AA (AH 3) AB)))) (AR T.e6 (B6 T) (BB hr) (Ai (AR T.e1 (Jy T) (BB hr) (AA (AH 1) (AA (AH 2) AB))) (AA (AH 3) AB)))))) AU)
   (AF (AJ (Al (AG AM (Ai (AR T.e2 (Gy T) (BB hr) (AA (AH 1) (AA (AH 2) AB))) AB)))))))))),?_⟩
  try dsimp only[A6,An]
  unfold Wq at k
  dsimp only at k hp hq
  refine⟨_,rfl,rfl,_,rfl,?_⟩
  rw[Nk]
  by_cases c1:sg=Str.ofString "+"
  ·rw[if_pos c1]at k
   rw[decide_eq_true c1]
   refine Az ?_
   refine⟨_,rfl,_,rfl,p,q,_,_,_,_,100,100,rfl,hp,hq,(by decide),trivial,fun r H1 s1 n1=>⟨_,rfl,r,_,_,y,hm,rfl,n1.ob,n1.low,hy.kp (Kp.same s1),fun x H2 hx s2=>k x H2 hx (s1.trans s2)⟩⟩
  rw[if_neg c1]at k
  rw[decide_eq_false c1]
  refine Ah ⟨_,rfl,rfl,_,rfl,?_⟩
  rw[Nk]
  by_cases c2:sg=Str.ofString "-"
  ·rw[if_pos c2]at k
   rw[decide_eq_true c2]
   refine Az ?_
   refine⟨_,rfl,_,rfl,p,q,_,_,_,_,100,100,rfl,hp,hq,(by decide),trivial,fun r H1 s1 n1=>⟨_,rfl,r,_,_,y,hm,rfl,n1.ob,n1.low,hy.kp (Kp.same s1),fun x H2 hx s2=>k x H2 hx (s1.trans s2)⟩⟩
  rw[if_neg c2]at k
  rw[decide_eq_false c2]
  refine Ah ⟨_,rfl,rfl,_,rfl,?_⟩
  rw[Nk]
  by_cases c3:sg=Str.ofString "*"
  ·rw[if_pos c3]at k
   rw[decide_eq_true c3]
   refine Az ?_
   refine⟨_,rfl,_,rfl,p,q,_,_,_,_,100,100,rfl,hp,hq,(by decide),trivial,fun r H1 s1 n1=>⟨_,rfl,r,_,_,y,hm,rfl,n1.ob,n1.low,hy.kp (Kp.same s1),fun x H2 hx s2=>k x H2 hx (s1.trans s2)⟩⟩
  rw[if_neg c3]at k
  rw[decide_eq_false c3]
  refine Ah ⟨_,rfl,rfl,_,rfl,?_⟩
  rw[Nk]
  by_cases c4:sg=Str.ofString "/"
  ·rw[if_pos c4]at k
   rw[decide_eq_true c4]
   refine Az ⟨_,rfl,q,_,_,_,rfl,rfl,Af.of hq.ob,rfl,rfl,_,rfl,?_⟩
   by_cases c5:b1=0
   ·rw[if_pos c5]at k
    rw[c5]
    exact Az ⟨_,rfl,As,fun q' hq'=>k _ _ (hy.flt hq') (AI.new hq')⟩
   ·rw[if_neg c5]at k
    rw[decide_eq_false (fun e=>c5 (by injection e))]
    refine Ah ?_
    refine⟨_,rfl,_,rfl,p,q,_,_,_,_,100,100,rfl,hp,hq,(by decide),c5,fun r H1 s1 n1=>⟨_,rfl,r,_,_,y,hm,rfl,n1.ob,n1.low,hy.kp (Kp.same s1),fun x H2 hx s2=>k x H2 hx (s1.trans s2)⟩⟩
  rw[if_neg c4]at k
  rw[decide_eq_false c4]
  refine Ah ?_
  exact⟨_,rfl,_,rfl,p,q,_,_,_,_,100,100,rfl,hp,hq,(by decide),BG,fun r hr'=>k _ _ ⟨r,rfl,AE⟩ (AI.new hr')⟩
theorem Ef:AW ["cell","sheet","row","letter"] ["cell"] (AL F3):=A9
theorem L0 (T:Txt w K mg t):Av P w K mg base Bj 1 t.a4 t.a5 ["cell"] Yh:=by
 have D:=T.e8
 refine D.fn.okX Ef ?_ (fun cdv A outer s H vs Q E hr h Z hZ=>?_)
 ·rintro _ _ _ _ ⟨p,z,r,c,rfl,_⟩
  rfl
 ·obtain⟨p,z,r,c,rfl,hp,k⟩:=h
  refine hZ ⟨_,((AD (Ac (i:=1) Ef.nd rfl (Or.inl rfl) (AK AO (AH 0) AC (fun _ _=>rfl)))
   (AD (Ac (i:=2) Ef.nd rfl (Or.inl rfl) (AK AO (AH 0) AC (fun _ _=>rfl)))
   (AD (Ac (i:=3) Ef.nd rfl (Or.inl rfl) (AK Hx (Lc T.hj) (AY BH (AK AO (AH 0) AC (fun _ _=>rfl)) AC) (fun _ _=>rfl)))
   (AF (AJ (K1 (Ja (AH 1) (QK (Ja (AH 3) (Ja (AH 2) QJ))))))))))),?_⟩
  try dsimp only[A6,An]
  have hz:z.length≤sizeLine:=Cn (Nat.le_trans hp.nm.hi (by decide))
  have hl:=Ml (c:=c) hp.nm hp.r0 hp.r1
  have h6:=hp.nm.hi
  obtain⟨a1,a2,a3⟩:=US hp.c0 hp.c1
  have e1:(Str.ofString "!").length=1:=by rw[UP];rfl
  have e2:(Qv c).length=1:=rfl
  have e3:=(Qw hp.r0 hp.r1).2
  refine⟨_,rfl,p,_,_,_,rfl,rfl,Af.of hp.ob,rfl,_,rfl,p,_,_,_,rfl,rfl,Af.of hp.ob,rfl,?_⟩
  refine⟨_,rfl,p,_,_,_,rfl,rfl,Af.of hp.ob,rfl,_,_,rfl,rfl,_,_,_,rfl,rfl,(by nofun),a1,?_⟩
  refine⟨_,rfl,z,⟨rfl,hz⟩,?_⟩
  rw[LE]
  refine⟨hz,Cn (by rw[BI];omega),_,rfl,Qv c,⟨rfl,(show(Qv c).length≤sizeLine from Cn (by rw[e2];decide))⟩,Cn (by rw[BI,BI];omega),_,rfl,num r,⟨rfl,?_⟩,Cn (Nat.le_trans hl (by decide)),Cn (Nat.le_trans hl (by decide)),k⟩
  have:=hp.r0;have:=hp.r1
  exact Nat.lt_of_le_of_lt (Nat.log2_le_self _) (by omega)
theorem Pz:AW ["thing"] ["thing"] (AL II):=A9
theorem J0 (T:Txt w K mg t):Av P w K mg base Bj 1 t.a6 t.a7 ["thing"] Uk:=by
 have D:=T.e9
 refine D.fn.okX Pz ?_ (fun cdv A outer s H vs Q E hr h Z hZ=>?_)
 ·rintro _ _ _ _ ⟨z,rfl,_⟩
  rfl
 ·obtain⟨z,rfl,hz,k⟩:=h
  refine hZ ⟨_,((AD (Ak (DO (Ej (BR (AT Am (by rfl) T.g1 Aa (AA (AH 0) (AA (BP T.g4 E2) AB))))) (Cc (AQ Kq (AT E6 (by rfl) T.gz PySem.boot_len (AA (AH 0) AB)) (HL T.hi) (AN _)))).pt (AF (AJ CS)) AU)
   (AF (AJ (AT (Fr rfl) (by rfl) T.g9 Ft (CJ (Bu (fv:=[]) (js:=[]) (cl:=[]) rfl (by with_unfolding_all rfl) ⟨rfl,by nofun,by nofun,rfl,by nofun,by nofun,(List.forall_mem_nil _),(List.forall_mem_nil _),.nil⟩ (QI (AH 0)) (fun _ _ _ _ _=>CI) (fun _ _ _ _ _=>(A3 Qu (AH 0) (Lc T.hh) rfl))) AB)))))),?_⟩
  try dsimp only[A6,An]
  have hzz:z.length≤sizeLine:=Cn hz
  refine⟨_,rfl,_,_,_,_,true,rfl,.str _,rfl,(fun _=>.inr trivial),BK _ _,true,rfl,Ah ?_⟩
  refine⟨_,rfl,z,rfl,hzz,_,_,rfl,rfl,_,rfl,?_⟩
  unfold Nl at k
  by_cases c0:(20:Int)<(z.length:Int)
  ·rw[decide_eq_true c0]at k ⊢
   exact Az (k _ (AI.refl _))
  rw[decide_eq_false c0]at k ⊢
  refine Ah ?_
  refine⟨_,rfl,z,rfl,fun D hD=>?_⟩
  obtain⟨W,w0,turn⟩:=Jk (z:=z) (Str.ofString "abcdefghijklmnopqrstuvwxyz0123456789 ") hz hD
  refine⟨W,w0,fun i m' H' w'=>?_⟩
  rcases turn i m' H' w' with⟨st,rfl⟩ | h
  case inr=>exact .inr ⟨h.1,fun x H2 y=>h.2 _ _ x H2 y⟩
  refine .inl ⟨st,?_⟩
  exact⟨D,_,rfl,Ax.of AE,k _ (AI.new hD)⟩
theorem Ka:AW ["top","bottom"] ["top","bottom"] (AL En):=A9
theorem J5 (T:Txt w K mg t):Av P w K mg base Bj 1 t.a8 t.a9 ["top","bottom"] Yk:=by
 have D:=T.fa
 refine D.fn.okX Ka ?_ (fun cdv A outer s H vs Q E hr h Z hZ=>?_)
 ·rintro _ _ _ _ ⟨t,b,rfl,_⟩
  rfl
 ·obtain⟨t,b,rfl,ht,hb,k⟩:=h
  refine hZ ⟨_,((AD (Ak (AQ Aj (AH 1) AC (AN _)) (AF (AJ (NO (AH 0)))) AU)
   (AF (AJ (K1 (Ja (AH 0) (QK (Ja (AH 1) QJ)))))))),?_⟩
  try dsimp only[A6,An]
  have l1:t.natAbs.log2<1920:=S8 ht
  have l2:b.natAbs.log2<1920:=S8 hb
  have n1:=HM ht
  have n2:=HM hb
  refine⟨_,rfl,rfl,_,rfl,?_⟩
  refine Ba (fun hc=>?_) (fun hc=>?_)
  ·have e:b=1:=by simpa using hc
   refine⟨_,rfl,num t,⟨rfl,l1⟩,?_⟩
   have e2:LF t b=num t:=if_pos e
   rw[e2]at k
   exact k
  ·have e:¬ b=1:=by simpa using hc
   have e2:LF t b=num t++Str.ofString "/"++num b:=if_neg e
   rw[e2]at k
   have es:(Str.ofString "/").length=1:=by rw[Q0];rfl
   refine⟨_,rfl,num t,⟨rfl,l1⟩,?_⟩
   rw[LE]
   exact⟨Cn (by omega),Cn (by rw[BI];omega),_,rfl,num b,⟨rfl,l2⟩,Cn (by rw[BI,BI];omega),Cn (by rw[BI,BI];omega),k⟩
theorem Hg:AW ["value","kind"] ["value"] (AL FK):=A9
theorem Kb (T:Txt w K mg t):Av P w K mg base Bj 2 t.ba t.bb ["value"] Yl:=by
 have D:=T.fb
 refine D.fn.okX Hg ?_ (fun cdv A outer s H vs Q E hr h Z hZ=>?_)
 ·rintro _ _ _ _ ⟨p,v,rfl,_⟩
  rfl
 ·obtain⟨p,v,rfl,ok,hp,k⟩:=h
  refine hZ ⟨_,((AD (Ac (i:=1) Hg.nd rfl (Or.inl rfl) (AK AO (AH 0) AC (fun _ _=>rfl)))
   (AD (Ak (AQ Aj (AH 1) AM (AN _)) (AF (AJ AM)) AU)
   (AD (Ak (AQ Aj (AH 1) AM (AN _)) (AF (AJ (AR T.fa (J5 T) (BB hr) (AS (AK AO (AH 0) AC (fun _ _=>rfl)) (AS (AK AO (AH 0) AC (fun _ _=>rfl)) AB))))) AU)
   (AD (Ak (AQ Aj (AH 1) AM (AN _)) (AF (AJ (AY CH AM (AK AO (AH 0) AC (fun _ _=>rfl))))) AU)
   (AD (Ak (AQ Aj (AH 1) AM (AN _)) (AF (AJ (B3 (BR (AK AO (AH 0) AC (fun _ _=>rfl))) AM AM))) AU)
   (AF (AJ (AY CH (AY CH (AY CH AM (AK AO (AH 0) AC (fun _ _=>rfl))) AM) (AR T.e8 (L0 T) (BB hr) (AS (AK AO (AH 0) AC (fun _ _=>rfl)) AB))))))))))),?_⟩
  try dsimp only[A6,An]
  have hl:=HN ok
  cases v with
  | none=>
   have ob:H p=some (.tup [.str (Str.ofString "none")]):=hp
   refine⟨_,rfl,p,_,_,_,rfl,rfl,Af.of ob,rfl,?_⟩
   exact⟨_,rfl,rfl,true,(by nofun),Az (k _ (AI.refl _))⟩
  | num t b=>
   have ob:H p=some (.tup [.str (Str.ofString "number"),.int t,.int b]):=hp
   refine⟨_,rfl,p,_,_,_,rfl,rfl,Af.of ob,rfl,?_⟩
   refine⟨_,rfl,rfl,false,(by nofun),Ah ?_⟩
   refine⟨_,rfl,rfl,true,(by nofun),Az ?_⟩
   exact⟨_,rfl,p,_,_,_,rfl,rfl,Af.of ob,rfl,_,rfl,p,_,_,_,rfl,rfl,Af.of ob,rfl,t,b,rfl,ok.2.1,ok.2.2,k _ (AI.refl _)⟩
  | txt z=>
   have ob:H p=some (.tup [.str (Str.ofString "text"),.str z]):=hp
   refine⟨_,rfl,p,_,_,_,rfl,rfl,Af.of ob,rfl,?_⟩
   refine⟨_,rfl,rfl,false,(by nofun),Ah ?_⟩
   refine⟨_,rfl,rfl,false,(by nofun),Ah ?_⟩
   refine⟨_,rfl,rfl,true,(by nofun),Az ?_⟩
   exact⟨_,rfl,p,_,_,_,rfl,rfl,Af.of ob,rfl,_,_,rfl,rfl,(by rw[← BI];exact Cn (Nat.le_trans hl (by decide))),k _ (AI.refl _)⟩
  | tru b=>
   have ob:H p=some (.tup [.str (Str.ofString "truth"),.bl b]):=hp
   refine⟨_,rfl,p,_,_,_,rfl,rfl,Af.of ob,rfl,?_⟩
   refine⟨_,rfl,rfl,false,(by nofun),Ah ?_⟩
   refine⟨_,rfl,rfl,false,(by nofun),Ah ?_⟩
   refine⟨_,rfl,rfl,false,(by nofun),Ah ?_⟩
   refine⟨_,rfl,rfl,true,(by nofun),Az ?_⟩
   refine⟨_,rfl,p,_,_,_,rfl,rfl,Af.of ob,rfl,b,rfl,?_⟩
   cases b with
   | true=>exact Az (k _ (AI.refl _))
   | false=>exact Ah (k _ (AI.refl _))
  | flt w z r c=>
   obtain⟨hw,nm,r0,r1,c0,c1⟩:=ok
   obtain⟨q,ob,oq⟩:=hp
   refine⟨_,rfl,p,_,_,_,rfl,rfl,Af.of ob,rfl,?_⟩
   refine⟨_,rfl,rfl,false,(by nofun),Ah ?_⟩
   refine⟨_,rfl,rfl,false,(by nofun),Ah ?_⟩
   refine⟨_,rfl,rfl,false,(by nofun),Ah ?_⟩
   refine⟨_,rfl,rfl,false,(by nofun),Ah ?_⟩
   have hl':(((Str.ofString "!"++w)++Str.ofString " ")++IB z r c).length≤64:=hl
   have hl2:=hl'
   rw[BI]at hl2
   have hl3:=hl2
   rw[BI]at hl3
   have hl4:=hl3
   rw[BI]at hl4
   refine⟨_,rfl,p,_,_,_,rfl,rfl,Af.of ob,rfl,_,_,rfl,rfl,Cn (by omega),_,_,rfl,rfl,Cn (by omega),?_⟩
   exact⟨_,rfl,p,_,_,_,rfl,rfl,Af.of ob,rfl,q,z,r,c,rfl,⟨oq,nm,r0,r1,c0,c1⟩,_,_,rfl,rfl,Cn (by omega),k _ (AI.refl _)⟩
theorem Nx:AW ["value"] ["value"] (AL Gq):=A9
theorem Ia (T:Txt w K mg t):Av P w K mg base Bj 4 t.bc t.bd ["value"] Ws:=by
 have D:=T.fc
 refine D.fn.okX Nx ?_ (fun cdv A outer s H vs Q E hr h Z hZ=>?_)
 ·rintro _ _ _ _ ⟨u,v,rfl,_⟩
  rfl
 ·obtain⟨u,v,rfl,⟨p,rfl,hv⟩,ok,k⟩:=h
  refine hZ ⟨_,((AF (AJ (B3 (AQ Aj (AK AO (AH 0) AC (fun _ _=>rfl)) AM (AN _)) (AK AO (AH 0) AC (fun _ _=>rfl)) (AR T.fb (Kb T) (BB hr) (AA (AH 0) AB)))))),?_⟩
  try dsimp only[A6,An]
  obtain⟨xs,hp,_⟩:=hv.itm
  refine⟨_,rfl,p,_,_,_,rfl,rfl,Af.of hp,Ag,rfl,_,rfl,Ba (fun c1=>?_) (fun c1=>?_)⟩
  ·have e:∃ z,v=.txt z:=by
    cases v with
    | txt z=>exact⟨z,rfl⟩
    | none=>exact absurd c1 (by show ¬ decide (V.str (Str.ofString "none")=vS "text")=true;nofun)
    | num t b=>exact absurd c1 (by show ¬ decide (V.str (Str.ofString "number")=vS "text")=true;nofun)
    | tru b=>exact absurd c1 (by show ¬ decide (V.str (Str.ofString "truth")=vS "text")=true;nofun)
    | flt w z r c=>exact absurd c1 (by show ¬ decide (V.str (Str.ofString "fault")=vS "text")=true;nofun)
   obtain⟨z,rfl⟩:=e
   have hp':H p=some (.tup [vS "text",.str z]):=hv
   exact⟨_,rfl,p,_,_,_,rfl,rfl,Af.of hp',rfl,k _ (AI.refl _)⟩
  ·have e:SZ v=OP v:=by
    cases v with
    | txt z=>exact absurd (by show decide (V.str (Str.ofString "text")=vS "text")=true;nofun) c1
    | none=>rfl
    | num t b=>rfl
    | tru b=>rfl
    | flt w z r c=>rfl
   rw[e]at k
   exact⟨_,rfl,p,v,rfl,ok,hv,fun H' s=>k H' s⟩
theorem GF:AW ["one","other","cell","signs"] ["one","other","cell"] (AL EB):=A9
theorem Ik (T:Txt w K mg t):Av P w K mg base Bj 5 t.be t.bf ["one","other","cell"] Wt:=by
 have D:=T.fd
 refine D.fn.okX GF ?_ (fun cdv A outer s H vs Q E hr h Z hZ=>?_)
 ·rintro _ _ _ _ ⟨u,v,y,a,b,hm,rfl,_⟩
  rfl
 ·obtain⟨u,v,y,a,b,hm,rfl,ha,hb,oa,ob,hy,k⟩:=h
  refine hZ ⟨_,((AD (Ac (i:=3) GF.nd rfl (Or.inl rfl) (AY CH (AR T.fc (Ia T) (BB hr) (AA (AH 0) AB)) (AR T.fc (Ia T) (BB hr) (AA (AH 1) AB))))
   (AF (AJ (B3 (BR (AR T.e9 (J0 T) (BB hr) (AA (AH 3) AB))) (Al (AG AM (AA (AH 3) AB))) (Al (AG AM (AG AM (AA (AH 2) AB))))))))),?_⟩
  try dsimp only[A6,An]
  have l1:=OV oa
  have l2:=OV ob
  refine⟨_,rfl,u,a,rfl,ha,oa,fun H1 s1=>⟨_,rfl,v,b,rfl,hb.kp (Kp.same s1),ob,fun H2 s2=>?_⟩⟩
  refine⟨_,_,rfl,rfl,(by rw[← BI];exact Cn (by rw[BI];omega)),?_⟩
  have s12:=s1.trans s2
  unfold OU at k
  refine⟨_,rfl,_,rfl,(by rw[BI];omega),fun H3 s3=>⟨_,rfl,?_⟩⟩
  have s13:=s12.trans s3
  by_cases c:Nl (SZ a++SZ b)=true
  ·rw[if_pos c]at k
   rw[c]
   exact Az ⟨_,rfl,BG,fun q hq=>k _ _ ⟨q,rfl,AE⟩ (s13.trans (AI.new hq))⟩
  ·rw[if_neg c]at k
   rw[Bool.eq_false_iff.mpr c]
   exact Ah ⟨_,rfl,As,fun q hq=>k _ _ ((hy.kp (Kp.same s13)).flt hq) (s13.trans (AI.new hq))⟩
theorem Hh:AW ["sign","one","other","cell","value","a","b"] ["sign","one","other","cell"] (AL Jx):=A9
theorem GP (T:Txt w K mg t):Av P w K mg base Bj 6 t.bg t.bh ["sign","one","other","cell"] (Wu K):=by
 have D:=T.fe
 refine D.fn.okX Hh ?_ (fun cdv A outer s H vs Q E hr h Z hZ=>?_)
 ·rintro _ _ _ _ ⟨sg,u,v,y,r,hm,rfl,_⟩
  rfl
 ·obtain⟨sg,u,v,y,r,hm,rfl,hin,hy,k⟩:=h
  have hu1:=FU hr
  refine hZ ⟨_,((AD (B0 PassesOwn.never rfl (Fj (Al (AA (AH 1) (AA (AH 2) AB)))) (BA (i:=4) Hh.nd rfl (Or.inl rfl))
   (AF (Ak (AQ Aj (AK AO (AH 4) AC (fun _ _=>rfl)) AM (AN _)) (AF (AJ (AH 4))) AU)))
   (AD (Ak (AQ Aj (AH 0) AM (AN _)) (AF (AJ (Al (AG AM (CU (A3 (NQ hu1) (AH 1) (AH 2) (AN _)) AB))))) AU)
   (AD (Ak (AQ Aj (AH 0) AM (AN _)) (AF (AJ (AR T.fd (Ik T) (BB hr) (AA (AH 1) (AA (AH 2) (AA (AH 3) AB)))))) AU)
   (AD (Ak (Dv (AQ Aj (AH 0) AM (AN _)) (Dv (AQ Aj (AK AO (AH 1) AC (fun _ _=>rfl)) AM (AN _)) (EY (AQ Aj (AK AO (AH 2) AC (fun _ _=>rfl)) AM (AN _))))).pt (AF (AJ (Al (AG AM (CU (A3 Oz (AK AO (AH 1) AC (fun _ _=>rfl)) (AK AO (AH 2) AC (fun _ _=>rfl)) (AN _)) AB))))) AU)
   (AD (Ac (i:=5) Hh.nd rfl (Or.inl rfl) (AR T.e5 (Hf T) (BB hr) (AA (AH 1) AB)))
   (AD (Ac (i:=6) Hh.nd rfl (Or.inl rfl) (AR T.e5 (Hf T) (BB hr) (AA (AH 2) AB)))
   (AD (Ak (DO (AQ Ht (AH 5) DS (AN _)) (Cc (AQ Ht (AH 6) DS (AN _)))).pt (AF (AJ (Al (AG AM (AG AM (AA (AH 3) AB)))))) AU)
   (AF (AJ (AR T.e7 (GU T) (BB hr) (AA (AH 0) (AA (AH 5) (AA (AH 6) (AA (AH 3) AB))))))))))))))),?_⟩
  try dsimp only[A6,An]
  refine LG fun X hX=>?_
  rcases hin with⟨a,b,ha,hb,oa,ob,rfl⟩ | ⟨rfl,⟨qc,rfl,hcn⟩,b,hb,ob,rfl⟩
  case inr=>
   obtain⟨qb,rfl,hqb⟩:=id hb
   refine hX ?_
   refine Bb fun N hN=>?_
   refine⟨_,rfl,_,rfl,BG,fun q hq=>?_⟩
   have s1:AI H (upd H q (.tup [.ref qc,.ref qb])):=AI.new hq
   have hq1:upd H q (.tup [.ref qc,.ref qb]) q=some (.tup [.ref qc,.ref qb]):=AE
   generalize upd H q (.tup [.ref qc,.ref qb])=H1 at *
   have hb1:=hb.kp (Kp.same s1)
   unfold Mq at k
   have ca:¬ Fe (.num 0 1)=true:=by nofun
   rw[if_neg ca]at k
   refine⟨q,rfl,⟨_,Af.of hq1⟩,?_⟩
   refine G7 (xs:=[.ref qc,.ref qb]) (fun i σ H5=>∃ x4,σ=[some (.str (Str.ofString "-")),some (.ref qc),some (.ref qb),some y,x4,none,none]∧H5=H1∧(2≤i→¬ Fe b=true)) ⟨none,rfl,rfl,fun z=>by omega⟩ ?_ ?_ ?_
   ·rintro i σ H5 _ ⟨x4,rfl,rfl,_⟩
    exact Af.of hq1
   ·rintro i x σ H5 hx ⟨x4,rfl,rfl,e2⟩
    have hi:i<2:=(List.getElem?_eq_some_iff.mp hx).1
    have hc:i=0∨i=1:=by omega
    rcases hc with rfl | rfl
    ·cases hx
     refine⟨_,rfl,qc,_,_,_,rfl,rfl,hcn _,rfl,rfl,false,(by nofun),Ah ?_⟩
     exact⟨_,rfl,rfl,fun z=>by omega⟩
    ·cases hx
     obtain⟨q',xs,ee,hq',_⟩:=hb1.hd
     cases ee
     refine⟨_,rfl,qb,_,_,_,rfl,rfl,Af.of hq',Ag,rfl,Fe b,rfl,?_⟩
     refine Ba (fun c1=>?_) (fun c1=>?_)
     ·exact⟨_,rfl,k _ _ (by rw[if_pos c1];exact hb1) s1⟩
     ·exact⟨_,rfl,rfl,fun _=>c1⟩
   ·rintro σ H5 ⟨x4,rfl,rfl,e2⟩
    refine hN _ _ ?_
    clear hN N
    have c2:=e2 (by simp)
    rw[if_neg c2,if_neg (by nofun),if_neg (by nofun),OW (by nofun)]at k
    refine Bg rfl ?_
    refine Bg rfl ?_
    refine⟨_,rfl,rfl,false,(by nofun),Ah (Ah ?_)⟩
    have kr:∀ x H',BD H' x (Gd (Str.ofString "-") (.num 0 1) b hm)→AI H H'→Q x H':=fun x H' hx s'=>k x H' hx s'
    refine⟨_,rfl,.ref qc,.num 0 1,rfl,.inr ⟨rfl,qc,rfl,hcn⟩,fun xa' H6 hx6 s6=>?_⟩
    refine⟨_,rfl,.ref qb,b,rfl,.inl (hb1.kp (Kp.same s6)),fun xb' H7 hx7 s7=>?_⟩
    have s17:=(s1.trans s6).trans s7
    unfold Gd at kr
    have en:Ec (.num 0 1)=some (0,1):=rfl
    rw[en]at hx6 kr
    obtain⟨p6,rfl,hp6⟩:=hx6
    refine⟨_,rfl,rfl,false,(by simp),Ah ?_⟩
    cases em:Ec b with
    | none=>
     rw[em]at hx7 kr
     obtain rfl:xb'=.non:=hx7
     exact⟨_,rfl,rfl,true,(by simp),Az ⟨_,rfl,As,fun q' hq'=>kr _ _ ((hy.kp (Kp.same s17)).flt hq') (s17.trans (AI.new hq'))⟩⟩
    | some nn=>
     rw[em]at hx7 kr
     obtain⟨p7,rfl,hp7⟩:=hx7
     refine⟨_,rfl,rfl,false,(by simp),Ah ?_⟩
     exact⟨_,rfl,_,rfl,_,rfl,_,rfl,_,p6,p7,(0,1),nn,y,hm,rfl,FF (v:=.num 0 1) ⟨Ld,by decide,by decide⟩ en (s7 _ _ hp6),FF ob em hp7,hy.kp (Kp.same s17),fun x H' hx s'=>kr x H' hx (s17.trans s')⟩
  obtain⟨qa,rfl,hqa⟩:=id ha
  obtain⟨qb,rfl,hqb⟩:=id hb
  refine hX ?_
  refine Bb fun N hN=>?_
  refine⟨_,rfl,_,rfl,BG,fun q hq=>?_⟩
  have s1:AI H (upd H q (.tup [.ref qa,.ref qb])):=AI.new hq
  have hq1:upd H q (.tup [.ref qa,.ref qb]) q=some (.tup [.ref qa,.ref qb]):=AE
  generalize upd H q (.tup [.ref qa,.ref qb])=H1 at *
  have ha1:=ha.kp (Kp.same s1)
  have hb1:=hb.kp (Kp.same s1)
  have hy1:=hy.kp (Kp.same s1)
  unfold Mq at k
  refine⟨q,rfl,⟨_,Af.of hq1⟩,?_⟩
  refine G7 (xs:=[.ref qa,.ref qb]) (fun i σ H5=>∃ x4,σ=[some (.str sg),some (.ref qa),some (.ref qb),some y,x4,none,none]∧H5=H1∧(1≤i→¬ Fe a=true)∧(2≤i→¬ Fe b=true)) ⟨none,rfl,rfl,fun z=>by omega,fun z=>by omega⟩ ?_ ?_ ?_
  ·rintro i σ H5 _ ⟨x4,rfl,rfl,_⟩
   exact Af.of hq1
  ·rintro i x σ H5 hx ⟨x4,rfl,rfl,e1,e2⟩
   have hi:i<2:=(List.getElem?_eq_some_iff.mp hx).1
   have hc:i=0∨i=1:=by omega
   rcases hc with rfl | rfl
   ·cases hx
    obtain⟨q',xs,ee,hq',_⟩:=ha1.hd
    cases ee
    refine⟨_,rfl,qa,_,_,_,rfl,rfl,Af.of hq',Ag,rfl,Fe a,rfl,?_⟩
    refine Ba (fun c1=>?_) (fun c1=>?_)
    ·exact⟨_,rfl,k _ _ (by rw[if_pos c1];exact ha1) s1⟩
    ·exact⟨_,rfl,rfl,fun _=>c1,fun z=>by omega⟩
   ·cases hx
    obtain⟨q',xs,ee,hq',_⟩:=hb1.hd
    cases ee
    refine⟨_,rfl,qb,_,_,_,rfl,rfl,Af.of hq',Ag,rfl,Fe b,rfl,?_⟩
    refine Ba (fun c1=>?_) (fun c1=>?_)
    ·exact⟨_,rfl,k _ _ (by rw[if_neg (e1 (by omega)),if_pos c1];exact hb1) s1⟩
    ·exact⟨_,rfl,rfl,fun _=>e1 (by omega),fun _=>c1⟩
  ·rintro σ H5 ⟨x4,rfl,rfl,e1,e2⟩
   refine hN _ _ ?_
   clear hN N
   have c1:=e1 (by simp)
   have c2:=e2 (by simp)
   rw[if_neg c1,if_neg c2]at k
   obtain⟨_,xa,ea,hxa,ia⟩:=ha1.hd
   cases ea
   obtain⟨_,xb,eb,hxb,ib⟩:=hb1.hd
   cases eb
   refine⟨_,rfl,rfl,_,rfl,?_⟩
   rw[Nk]
   by_cases d1:sg=Str.ofString "="
   ·rw[if_pos d1]at k
    rw[decide_eq_true d1]
    exact Az ⟨_,rfl,_,rfl,qa,qb,_,_,_,_,rfl,rfl,hxa,hxb,ia,ib,BG,fun q' hq'=>k _ _ ⟨q',rfl,AE⟩ (s1.trans (AI.new hq'))⟩
   rw[if_neg d1]at k
   rw[decide_eq_false d1]
   refine Ah ⟨_,rfl,rfl,_,rfl,?_⟩
   rw[Nk]
   by_cases d2:sg=Str.ofString "&"
   ·rw[if_pos d2]at k
    rw[decide_eq_true d2]
    exact Az ⟨_,rfl,_,rfl,_,rfl,_,_,_,a,b,hm,rfl,ha1,hb1,oa,ob,hy1,fun x H' hx s'=>k x H' hx (s1.trans s')⟩
   rw[if_neg d2]at k
   rw[decide_eq_false d2]
   refine Ah ?_
   refine⟨_,rfl,rfl,_,rfl,?_⟩
   rw[Nk]
   by_cases d3:sg=Str.ofString "<"
   ·rw[decide_eq_true d3]
    refine Az ⟨_,rfl,qa,_,_,_,rfl,rfl,Af.of hxa,Ag,rfl,_,rfl,Ba (fun t1=>?_) (fun t1=>Ah ?_)⟩
    ·refine⟨_,rfl,qb,_,_,_,rfl,rfl,Af.of hxb,Ag,rfl,_,rfl,Ba (fun t2=>?_) (fun t2=>?_)⟩
     ·obtain⟨z1,rfl⟩:=OX t1
      obtain⟨z2,rfl⟩:=OX t2
      have e1:H5 qa=some (.tup [vS "text",.str z1]):=by obtain⟨_,e,h⟩:=ha1;cases e;exact h
      have e2:H5 qb=some (.tup [vS "text",.str z2]):=by obtain⟨_,e,h⟩:=hb1;cases e;exact h
      have ek:Nn sg (.txt z1) (.txt z2)=some (decide (z1.cps.toList<z2.cps.toList)):=if_pos d3
      rw[ek]at k
      exact⟨_,rfl,qa,_,_,_,rfl,rfl,Af.of e1,rfl,_,rfl,qb,_,_,_,rfl,rfl,Af.of e2,rfl,_,_,rfl,rfl,BG,fun q' hq'=>k _ _ ⟨q',rfl,AE⟩ (s1.trans (AI.new hq'))⟩
     ·have kr:∀ x H',BD H' x (Gd sg a b hm)→AI H H'→Q x H':=fun x H' hx s'=>k x H' (by rw[Um t2];exact hx) s'
      refine⟨_,rfl,.ref qa,a,rfl,.inl ha1,fun xa' H6 hx6 s6=>?_⟩
      refine⟨_,rfl,.ref qb,b,rfl,.inl (hb1.kp (Kp.same s6)),fun xb' H7 hx7 s7=>?_⟩
      have s17:=(s1.trans s6).trans s7
      unfold Gd at kr
      cases en:Ec a with
      | none=>
       rw[en]at hx6 kr
       obtain rfl:xa'=.non:=hx6
       exact⟨_,rfl,rfl,true,(by simp),Az (Az ⟨_,rfl,As,fun q' hq'=>kr _ _ ((hy.kp (Kp.same s17)).flt hq') (s17.trans (AI.new hq'))⟩)⟩
      | some mm=>
       rw[en]at hx6 kr
       obtain⟨p6,rfl,hp6⟩:=hx6
       refine⟨_,rfl,rfl,false,(by simp),Ah ?_⟩
       cases em:Ec b with
       | none=>
        rw[em]at hx7 kr
        obtain rfl:xb'=.non:=hx7
        exact⟨_,rfl,rfl,true,(by simp),Az ⟨_,rfl,As,fun q' hq'=>kr _ _ ((hy.kp (Kp.same s17)).flt hq') (s17.trans (AI.new hq'))⟩⟩
       | some nn=>
        rw[em]at hx7 kr
        obtain⟨p7,rfl,hp7⟩:=hx7
        refine⟨_,rfl,rfl,false,(by simp),Ah ?_⟩
        exact⟨_,rfl,_,rfl,_,rfl,_,rfl,sg,p6,p7,mm,nn,y,hm,rfl,FF oa en (s7 _ _ hp6),FF ob em hp7,hy.kp (Kp.same s17),fun x H' hx s'=>kr x H' hx (s17.trans s')⟩
    ·have kr:∀ x H',BD H' x (Gd sg a b hm)→AI H H'→Q x H':=fun x H' hx s'=>k x H' (by rw[Ul t1];exact hx) s'
     refine⟨_,rfl,.ref qa,a,rfl,.inl ha1,fun xa' H6 hx6 s6=>?_⟩
     refine⟨_,rfl,.ref qb,b,rfl,.inl (hb1.kp (Kp.same s6)),fun xb' H7 hx7 s7=>?_⟩
     have s17:=(s1.trans s6).trans s7
     unfold Gd at kr
     cases en:Ec a with
     | none=>
      rw[en]at hx6 kr
      obtain rfl:xa'=.non:=hx6
      exact⟨_,rfl,rfl,true,(by simp),Az (Az ⟨_,rfl,As,fun q' hq'=>kr _ _ ((hy.kp (Kp.same s17)).flt hq') (s17.trans (AI.new hq'))⟩)⟩
     | some mm=>
      rw[en]at hx6 kr
      obtain⟨p6,rfl,hp6⟩:=hx6
      refine⟨_,rfl,rfl,false,(by simp),Ah ?_⟩
      cases em:Ec b with
      | none=>
       rw[em]at hx7 kr
       obtain rfl:xb'=.non:=hx7
       exact⟨_,rfl,rfl,true,(by simp),Az ⟨_,rfl,As,fun q' hq'=>kr _ _ ((hy.kp (Kp.same s17)).flt hq') (s17.trans (AI.new hq'))⟩⟩
      | some nn=>
       rw[em]at hx7 kr
       obtain⟨p7,rfl,hp7⟩:=hx7
       refine⟨_,rfl,rfl,false,(by simp),Ah ?_⟩
       exact⟨_,rfl,_,rfl,_,rfl,_,rfl,sg,p6,p7,mm,nn,y,hm,rfl,FF oa en (s7 _ _ hp6),FF ob em hp7,hy.kp (Kp.same s17),fun x H' hx s'=>kr x H' hx (s17.trans s')⟩
   ·rw[decide_eq_false d3]
    refine Ah (Ah ?_)
    have kr:∀ x H',BD H' x (Gd sg a b hm)→AI H H'→Q x H':=fun x H' hx s'=>k x H' (by rw[OW d3];exact hx) s'
    refine⟨_,rfl,.ref qa,a,rfl,.inl ha1,fun xa' H6 hx6 s6=>?_⟩
    refine⟨_,rfl,.ref qb,b,rfl,.inl (hb1.kp (Kp.same s6)),fun xb' H7 hx7 s7=>?_⟩
    have s17:=(s1.trans s6).trans s7
    unfold Gd at kr
    cases en:Ec a with
    | none=>
     rw[en]at hx6 kr
     obtain rfl:xa'=.non:=hx6
     exact⟨_,rfl,rfl,true,(by simp),Az (Az ⟨_,rfl,As,fun q' hq'=>kr _ _ ((hy.kp (Kp.same s17)).flt hq') (s17.trans (AI.new hq'))⟩)⟩
    | some mm=>
     rw[en]at hx6 kr
     obtain⟨p6,rfl,hp6⟩:=hx6
     refine⟨_,rfl,rfl,false,(by simp),Ah ?_⟩
     cases em:Ec b with
     | none=>
      rw[em]at hx7 kr
      obtain rfl:xb'=.non:=hx7
      exact⟨_,rfl,rfl,true,(by simp),Az ⟨_,rfl,As,fun q' hq'=>kr _ _ ((hy.kp (Kp.same s17)).flt hq') (s17.trans (AI.new hq'))⟩⟩
     | some nn=>
      rw[em]at hx7 kr
      obtain⟨p7,rfl,hp7⟩:=hx7
      refine⟨_,rfl,rfl,false,(by simp),Ah ?_⟩
      exact⟨_,rfl,_,rfl,_,rfl,_,rfl,sg,p6,p7,mm,nn,y,hm,rfl,FF oa en (s7 _ _ hp6),FF ob em hp7,hy.kp (Kp.same s17),fun x H' hx s'=>kr x H' hx (s17.trans s')⟩
theorem Kc:AW ["table"] ["table"] (AL Eo):=A9
theorem CM (T:Txt w K mg t):Av P w K mg base Bj 1 t.bi t.bj ["table"] Ww:=by
 have D:=T.ff
 refine D.fn.okX Kc ?_ (fun cdv A outer s H vs Q E hr h Z hZ=>?_)
 ·rintro _ _ _ _ ⟨x,m,w_,rfl,_⟩
  rfl
 ·obtain⟨x,m,w_,rfl,ht,rc,k⟩:=h
  refine hZ ⟨_,((AF (AJ (Al (Ai (AT Ab (by rfl) T.gz PySem.boot_len (AA (AH 0) AB)) (Ai (AT Ab (by rfl) T.gz PySem.boot_len (AS (AK AO (AH 0) AC (fun _ _=>rfl)) AB)) AB)))))),?_⟩
  try dsimp only[A6,An]
  obtain⟨b,us,b0,rt,rfl,hb,hl,hb0,hr0⟩:=ht.row0 rc
  have e1:(((V.ref b0::us).length:Nat):Int)=(m.length:Int):=by rw[← hl];rfl
  have e2:(((X0 m::rt).length:Nat):Int)=(w_:Int):=by rw[← hr0];rfl
  refine⟨_,rfl,b,_,rfl,.inr (Af.of hb),_,rfl,b,_,_,_,rfl,rfl,Af.of hb,Ag,b0,_,rfl,.inr (Af.of hb0),BG,fun r hr'=>?_⟩
  rw[e1,e2]
  exact k r hr'
theorem J6:AW ["one","other"] ["one","other"] (AL EC):=A9
theorem Fb (T:Txt w K mg t):Av P w K mg base Bj 1 t.bk t.bl ["one","other"] (Wv K):=by
 have D:=T.fg
 refine D.fn.okX J6 ?_ (fun cdv A outer s H vs Q E hr h Z hZ=>?_)
 ·rintro _ _ _ _ ⟨u,v,a,b,rfl,_⟩
  rfl
 ·obtain⟨u,v,a,b,rfl,⟨p,e1,hp⟩,⟨q,e2,hq⟩,k⟩:=h
  have hu:=hr.units0
  refine hZ ⟨_,((AD (Ak (DO (AQ (LU hu) (AH 0) (AH 1) (AN _)) (Cc (AQ (LU hu) (AH 1) (JC T.hf) (AN _)))).pt (AF (AJ (AH 0))) AU)
   (AF (AJ (B3 (AQ (LU hu) (AH 0) (JC T.hf) (AN _)) (AH 1) DS))))),?_⟩
  try dsimp only[A6,An]
  subst e1
  subst e2
  unfold Rm at k
  refine⟨_,rfl,_,rfl,p,q,_,_,rfl,rfl,hp,hq,rfl,rfl,decide (a=b),congrArg V.bl (Sa a b),Ba (fun c1=>Az ⟨_,rfl,?_⟩) (fun c1=>?_)⟩
  ·rw[if_pos (of_decide_eq_true c1)]at k
   exact k _ _ ⟨p,rfl,hp⟩ (AI.refl _)
  have c1':=fun z=>c1 (decide_eq_true z)
  rw[if_neg c1']at k
  refine⟨_,rfl,fun o ho=>⟨q,o,_,_,rfl,rfl,hq,(ho _),rfl,rfl,decide (b=(1,1)),congrArg V.bl (Sa b (1,1)),Ba (fun c2=>⟨_,rfl,?_⟩) (fun c2=>?_)⟩⟩
  ·rw[if_pos (of_decide_eq_true c2)]at k
   exact k _ _ ⟨p,rfl,hp⟩ (AI.refl _)
  rw[if_neg fun z=>c2 (decide_eq_true z)]at k
  refine⟨_,rfl,fun o ho=>⟨p,o,_,_,rfl,rfl,hp,(ho _),rfl,rfl,decide (a=(1,1)),congrArg V.bl (Sa a (1,1)),Ba (fun c3=>⟨_,rfl,?_⟩) (fun c3=>?_)⟩⟩
  ·rw[if_pos (of_decide_eq_true c3)]at k
   exact k _ _ ⟨q,rfl,hq⟩ (AI.refl _)
  ·rw[if_neg fun z=>c3 (decide_eq_true z)]at k
   exact k _ _ rfl (AI.refl _)
theorem J7:AW ["shape","value"] ["shape","value"] (AL ED):=A9
theorem Dc (T:Txt w K mg t):Av P w K mg base Bj 1 t.bm t.bn ["shape","value"] (Wx K):=by
 have D:=T.fh
 refine D.fn.okX J7 ?_ (fun cdv A outer s H vs Q E hr h Z hZ=>?_)
 ·rintro _ _ _ _ ⟨p,u,h_,w_,rfl,_⟩
  rfl
 ·obtain⟨p,u,h_,w_,rfl,⟨a,rfl,hp⟩,h1,h2,w1,w2,k⟩:=h
  refine hZ ⟨_,((AF (AJ (AY OI (Al (AV (AY OI (Al (AA (AH 1) AB)) (AK AO (AH 0) AC (fun _ _=>rfl))) AB)) (AK AO (AH 0) AC (fun _ _=>rfl)))))),?_⟩
  try dsimp only[A6,An]
  refine⟨_,rfl,(by show 1≤sizeLine;decide),fun q1 hq1=>?_⟩
  have s1:=AI.new (o:=.tup [u]) hq1
  have e1:upd H q1 (.tup [u]) q1=some (.tup [u]):=AE
  generalize upd H q1 (.tup [u])=H1 at *
  refine⟨_,rfl,a,_,_,_,rfl,rfl,Af.sm hp s1,rfl,q1,u,w_,rfl,rfl,e1,w1,w2,fun q2 H2 e2 s2=>⟨(by show 1≤sizeLine;decide),fun q3 hq3=>?_⟩⟩
  have s3:=AI.new (o:=.tup [.ref q2]) hq3
  have e3:upd H2 q3 (.tup [.ref q2]) q3=some (.tup [.ref q2]):=AE
  generalize upd H2 q3 (.tup [.ref q2])=H3 at *
  have s13:=(s1.trans s2).trans s3
  refine⟨_,rfl,a,_,_,_,rfl,rfl,Af.sm hp s13,rfl,q3,.ref q2,h_,rfl,rfl,e3,h1,h2,fun q4 H4 e4 s4=>?_⟩
  exact k _ _ ⟨q4,_,rfl,e4,FG ⟨q2,rfl,s4 _ _ (s3 _ _ e2)⟩ h_⟩ (s13.trans s4)
theorem J8:AW ["table","shape"] ["table","shape"] (AL EE):=A9
theorem CZ (T:Txt w K mg t):Av P w K mg base Bj 2 t.bo t.bp ["table","shape"] (TF K):=by
 have D:=T.fi
 refine D.fn.okX J8 ?_ (fun cdv A outer s H vs Q E hr h Z hZ=>?_)
 ·rintro _ _ _ _ ⟨x,p,m,w_,h2,w2,rfl,_⟩
  rfl
 ·obtain⟨x,p,m,w_,h2,w2,rfl,ht,rc,hp,h21,h22,w21,w22,k⟩:=h
  have hu:=hr.units0
  refine hZ ⟨_,((AF (AJ (B3 (AQ (LU hu) (AR T.ff (CM T) (BB hr) (AA (AH 0) AB)) (Al (AG AC (AG AC AB))) (AN _)) (AR T.fh (Dc T) (BB hr) (AA (AH 1) (AS (AK AO (AK AO (AH 0) AC (fun _ _=>rfl)) AC (fun _ _=>rfl)) AB))) (AH 0))))),?_⟩
  try dsimp only[A6,An]
  refine⟨_,rfl,x,m,w_,rfl,ht,rc,fun r hr'=>?_⟩
  have s1:=AI.new (o:=.tup [.int m.length,.int w_]) hr'
  have e1:upd H r (.tup [.int m.length,.int w_]) r=some (.tup [.int m.length,.int w_]):=AE
  generalize upd H r (.tup [.int m.length,.int w_])=H1 at *
  refine⟨BG,fun q hq=>?_⟩
  have s2:=AI.new (o:=.tup [.int 1,.int 1]) hq
  have e2:upd H1 q (.tup [.int 1,.int 1]) q=some (.tup [.int 1,.int 1]):=AE
  have e12:=s2 _ _ e1
  generalize upd H1 q (.tup [.int 1,.int 1])=H2 at *
  have s12:=s1.trans s2
  refine⟨r,q,_,_,rfl,rfl,Af.of e12,Af.of e2,rfl,rfl,decide (((m.length:Int),(w_:Int))=(1,1)),congrArg V.bl (Sa ((m.length:Int),(w_:Int)) (1,1)),?_⟩
  have ht2:=ht.kp (Kp.same s12)
  unfold GS at k
  by_cases c:((m.length:Int),(w_:Int))=(1,1)
  ·have c':(m.length,w_)=(1,1):=by
    injection c with c1 c2
    have d1:m.length=1:=by omega
    have d2:w_=1:=by omega
    rw[d1,d2]
   rw[if_pos c']at k
   rw[decide_eq_true c]
   obtain⟨b,us,b0,rt,rfl,hb,_,hb0,_⟩:=ht2.row0 rc
   refine Az ⟨_,rfl,_,rfl,b,_,_,_,rfl,rfl,Af.of hb,Ag,b0,_,_,_,rfl,rfl,Af.of hb0,Ag,?_⟩
   exact⟨p,X0 m,h2,w2,rfl,IE.same hp s12,h21,h22,w21,w22,fun x' H' hx s'=>k x' H' hx (s12.trans s')⟩
  ·have c':¬ (m.length,w_)=(1,1):=fun z=>c (by injection z with z1 z2;rw[z1,z2];rfl)
   rw[if_neg c']at k
   rw[decide_eq_false c]
   exact Ah ⟨_,rfl,k _ _ ht2 s12⟩
theorem GG:AW ["table","values","row"] ["table"] (AL F4):=A9
theorem B1 (T:Txt w K mg t):Av P w K mg base Bj 1 t.bq t.br ["table"] Wy:=by
 have D:=T.fj
 refine D.fn.okX GG ?_ (fun cdv A outer s H vs Q E hr h Z hZ=>?_)
 ·rintro _ _ _ _ ⟨x,m,w_,rfl,_⟩
  rfl
 ·obtain⟨x,m,w_,rfl,⟨b,us,rfl,hb,pr⟩,rc,w30,m30,k⟩:=h
  refine hZ ⟨_,((AD (Ac (i:=1) GG.nd rfl (Or.inl rfl) (Bq AB))
   (AD (B0 PassesOwn.never rfl (Fj (AH 0)) (BA (i:=2) GG.nd rfl (Or.inl rfl))
   (AF (Dk (G8 PySem.F.plainAttrs_list PySem.F.slot_list_extend PySem.F.type_list_extend Na (AH 1) (AA (AH 2) AB)))))
   (AF (AJ (AH 1)))))),?_⟩
  try dsimp only[A6,An]
  have hul:us.length=m.length:=Paired.length pr
  refine⟨Nat.zero_le _,fun d hd=>?_⟩
  have s0:=AI.new (o:=.lst []) hd
  refine⟨_,rfl,b,rfl,⟨_,Af.of (s0 _ _ hb)⟩,?_⟩
  refine G7 (xs:=us) (fun i σ H5=>∃ x2,σ=[some (.ref b),some (.ref d),x2]∧H5 d=some (.lst (m.take i).flatten)∧AI H H5) ⟨none,rfl,AE,s0⟩ ?_ ?_ ?_
  ·rintro i σ H5 _ ⟨x2,rfl,_,s5⟩
   exact Af.of (s5 _ _ hb)
  ·rintro i x σ H5 hx ⟨x2,rfl,hd5,s5⟩
   obtain⟨row,hrow,br,rfl,hbr⟩:=Ar pr hx
   have lr:row.length=w_:=rc.row row (List.mem_of_getElem? hrow)
   have hi:i<m.length:=(List.getElem?_eq_some_iff.mp hrow).1
   have hiw:i*w_≤30*30:=Nat.mul_le_mul (by omega) w30
   have fl:(m.take i).flatten.length=i*w_:=by rw[CL (w:=w_) fun r hr'=>rc.row r (List.mem_of_mem_take hr'),List.length_take,Nat.min_eq_left (by omega)]
   refine⟨_,rfl,.inl ⟨rfl,_,Ax.of hd5⟩,_,rfl,d,br,_,row,rfl,rfl,hd5,s5 _ _ hbr,Cn (by omega),?_⟩
   refine⟨_,rfl,?_,fun b' o e=>?_⟩
   ·rw[AE,List.take_add_one,hrow,List.flatten_append]
    simp
   ·rw[AX (AZ e hd)];exact s5 _ _ e
  ·rintro σ H5 ⟨x2,rfl,hd5,s5⟩
   rw[hul,List.take_length]at hd5
   exact⟨_,rfl,k d H5 hd hd5 s5⟩
theorem Ge:AW ["values","value"] ["values"] (AL Ep):=A9
theorem DA (T:Txt w K mg t):Av P w K mg base Bj 1 t.bs t.bt ["values"] (WU K):=by
 have D:=T.fk
 refine D.fn.okX Ge ?_ (fun cdv A outer s H vs Q E hr h Z hZ=>?_)
 ·rintro _ _ _ _ ⟨l,us,ms,rfl,_⟩
  rfl
 ·obtain⟨l,us,ms,rfl,hl,vs_,h1,k⟩:=h
  refine hZ ⟨_,((AD (B0 PassesOwn.never rfl (Dl (AH 0)) (BA (i:=1) Ge.nd rfl (Or.inl rfl))
   (AF (Ak (AQ Aj (AK AO (AH 1) AC (fun _ _=>rfl)) AM (AN _)) (AF (AJ (AH 1))) AU)))
   (AF (AJ DS)))),?_⟩
  try dsimp only[A6,An]
  refine⟨_,rfl,l,rfl,⟨_,Ax.of hl⟩,?_⟩
  refine G6 (xs:=us) (fun i σ H5=>∃ x1,σ=[some (.ref l),x1]∧H5=H∧E3 us ms=E3 (us.drop i) (ms.drop i)) ⟨none,rfl,rfl,rfl⟩ ?_ ?_ ?_
  ·rintro i σ H5 _ ⟨x1,rfl,rfl,_⟩
   exact Ax.of hl
  ·rintro i x σ H5 hx ⟨x1,rfl,rfl,e⟩
   obtain⟨v,hv,xv⟩:=Ar vs_ hx
   obtain⟨q,xs,rfl,hq,_⟩:=xv.hd
   rw[Ph hx hv]at e
   refine⟨_,rfl,q,_,_,_,rfl,rfl,Af.of hq,Ag,rfl,Fe v,rfl,?_⟩
   refine Ba (fun hf=>?_) (fun hf=>?_)
   ·rw[if_pos hf]at e
    exact⟨_,rfl,by rw[← e];exact k⟩
   ·rw[if_neg hf]at e
    exact⟨_,rfl,rfl,e⟩
  ·rintro σ H5 ⟨x1,rfl,rfl,e⟩
   have e2:E3 (us.drop us.length) (ms.drop us.length)=.non:=by rw[List.drop_length,List.drop_eq_nil_of_le (Nat.le_of_eq (Paired.length vs_).symm)];rfl
   rw[e2]at e
   show Q .non _
   rw[← e];exact k
theorem Il:AW ["values"] ["values"] (AL DU):=A9
theorem DI (T:Txt w K mg t):Av P w K mg base Bj 1 t.bu t.bv ["values"] (W3 K):=by
 have D:=T.fl
 refine D.fn.okX Il ?_ (fun cdv A outer s H vs Q E hr h Z hZ=>?_)
 ·rintro _ _ _ _ ⟨l,us,ms,rfl,_⟩
  rfl
 ·obtain⟨l,us,ms,rfl,hl,vs_,h1000,k⟩:=h
  refine hZ ⟨_,((AF (AJ (Bu (fv:=[]) (js:=[]) (cl:=[]) rfl (by with_unfolding_all rfl) ⟨rfl,by nofun,by nofun,rfl,by nofun,by nofun,(List.forall_mem_nil _),(List.forall_mem_nil _),.nil⟩ (Dl (AH 0)) (fun _ _ _ _ _=>(T1 (AQ Aj (AK Dn (AH 0) AC (fun _ _=>rfl)) AM (AN _)))) (fun _ _ _ _ _=>(Al (AS (AK Dn (AH 0) AC (fun _ _=>rfl)) (AS (AK Dn (AH 0) AC (fun _ _=>rfl)) AB)))))))),?_⟩
  try dsimp only[A6,An]
  have ul:us.length=ms.length:=Paired.length vs_
  refine⟨_,rfl,l,rfl,⟨_,Ax.of hl⟩,fun D hD=>?_⟩
  refine⟨fun i m H5=>m=us.length-i∧i≤us.length∧∃ ps,H5 D=some (.lst ps)∧ps.length≤i∧Jp H5 ps (A8 (ms.take i))∧AI H H5,⟨us.length,rfl,Nat.zero_le _,[],AE,Nat.le_refl _,.nil,AI.new hD⟩,?_⟩
  rintro i m H5 ⟨rfl,hi,ps,hD5,pl5,pr5,s5⟩
  by_cases hlt:i<us.length
  ·have hx:us[i]?=some us[i]:=List.getElem?_eq_getElem hlt
   obtain⟨v,hv,xv⟩:=Ar vs_ hx
   have xv5:=xv.kp (Kp.same s5)
   refine .inr ⟨⟨_,_,Ax.of (s5 _ _ hl),hx⟩,fun x H6 y=>?_⟩
   obtain⟨e4,y⟩:=y
   subst e4
   have hx':=y _ (Ax.of (s5 _ _ hl))
   rw[hx]at hx'
   cases hx'
   obtain⟨q,xs,eq,hq,_⟩:=xv5.hd
   rw[eq]at xv5 ⊢
   refine⟨_,rfl,q,_,_,_,rfl,rfl,Af.of hq,Ag,rfl,_,rfl,Ba (fun c=>?_) (fun c=>?_)⟩
   ·obtain⟨_,ez,hz⟩:=xv5
    cases ez
    obtain⟨a,b,rfl⟩:=hz.num_of c
    have hq':H6 q=some (.tup [vS "number",.int a,.int b]):=hz
    refine⟨_,rfl,q,_,_,_,rfl,rfl,Af.of hq',rfl,_,rfl,q,_,_,_,rfl,rfl,Af.of hq',rfl,BG,fun pp hpp=>?_⟩
    have s6:=AI.new (o:=.tup [.int a,.int b]) hpp
    have hp6:upd H6 pp (.tup [.int a,.int b]) pp=some (.tup [.int a,.int b]):=AE
    generalize upd H6 pp (.tup [.int a,.int b])=H7 at *
    have hD7:=s6 _ _ hD5
    have kd:=CQ (vs:=ps++[.ref pp]) hD7
    refine⟨ps,hD7,B5 (by omega),us.length-(i+1),(by omega),rfl,hlt,ps++[.ref pp],AE,(by rw[List.length_append,List.length_singleton];omega),?_,fun b' o e=>by rw[AX (AZ e hD)];exact s6 _ _ (s5 _ _ e)⟩
    unfold A8
    rw[DF hv,List.filterMap_append]
    exact Dx (Jp.kp pr5 ((Kp.same s6).trans kd)) ⟨pp,rfl,kd _ _ hp6⟩
   ·refine⟨us.length-(i+1),(by omega),rfl,hlt,ps,hD5,(by omega),?_,s5⟩
    unfold A8
    rw[DF hv,List.filterMap_append]
    have e0:[v].filterMap Ur=[]:=by
     cases v with
     | num t b=>exact absurd (by show decide (V.str (Str.ofString "number")=vS "number")=true;nofun) c
     | none=>rfl
     | txt z=>rfl
     | tru b=>rfl
     | flt w z r c=>rfl
    rw[e0,List.append_nil]
    exact pr5
  ·have ei:i=us.length:=by omega
   subst ei
   rw[ul,List.take_length]at pr5
   exact .inl ⟨⟨_,Ax.of (s5 _ _ hl),Nat.le_refl _⟩,k D ps H5 hD5 pr5 s5⟩
theorem Bh:AW ["numbers","tops","top","bottom","whole_top","whole_bottom"] ["numbers"] (AL FL):=A9
theorem Ke (T:Txt w K mg t):Av P w K mg base Bj 3 t.bw t.bx ["numbers"] W5:=by
 have D:=T.fm
 refine D.fn.okX Bh ?_ (fun cdv A outer s H vs Q E hr h Z hZ=>?_)
 ·rintro _ _ _ _ ⟨l,us,ns,β,γ,rfl,_⟩
  rfl
 ·obtain⟨l,us,ns,β,γ,rfl,hl,pr,⟨nok,nlen,nsz⟩,k⟩:=h
  have hu1:=FU hr
  refine hZ ⟨_,((AD (Ac (i:=1) Bh.nd rfl (Or.inl rfl) QP)
   (AD (B0 PassesOwn.never rfl (Dl (AH 0)) (Fi rfl (Bf (BA (i:=2) Bh.nd rfl (Or.inl rfl)) (Bf (BA (i:=3) Bh.nd rfl (Or.inl rfl)) EZ)))
   (AF (LX hu1 (AH 1) (AH 3) (AY A0 (QV hu1 (AH 1) (AH 3) AC ⟨rfl,rfl,rfl,rfl⟩) (AH 2)) rfl)))
   (AD (Ac (i:=4) Bh.nd rfl (Or.inl rfl) AC)
   (AD (Ac (i:=5) Bh.nd rfl (Or.inl rfl) AC)
   (AD (B0 PassesOwn.never rfl (V9 (AH 1)) (BA (i:=3) Bh.nd rfl (Or.inl rfl))
   (AD (Ac (i:=4) Bh.nd rfl (Or.inl rfl) (AY A0 (AY BQ (AH 4) (AH 3)) (AY BQ (G9 hu1 (AH 1) (AH 3) (fun _ _=>rfl)) (AH 5))))
   (AF (Ac (i:=5) Bh.nd rfl (Or.inl rfl) (AY BQ (AH 5) (AH 3))))))
   (AF (AJ (AR T.ex (Cz T) (BB hr) (AA (AH 4) (AA (AH 5) AB))))))))))),?_⟩
  try dsimp only[A6,An]
  have ul:us.length=ns.length:=Paired.length pr
  have hpos:∀ n∈ns,0<n.2:=fun n h=>(nok n h).1
  have hpr:=No hpos
  obtain⟨c,hc⟩:∃ c,c=cB ns:=⟨_,rfl⟩
  obtain⟨B,hB⟩:∃ B,B=Rn ns:=⟨_,rfl⟩
  have hcB:∀ n∈ns,n.2*c n.2=B:=fun n h=>by rw[hc,hB];exact TN h
  refine fun d hd=>?_
  have s0:=AI.new (o:=.dK []) hd
  have hd0:upd H d (.dK []) d=some (.dK (dK [])):=AE
  generalize upd H d (.dK [])=H0 at *
  refine⟨_,rfl,l,rfl,⟨_,Ax.of (s0 _ _ hl)⟩,?_⟩
  refine G6 (xs:=us) (fun i σ H5=>∃ x2 x3 ds,σ=[some (.ref l),some (.ref d),x2,x3,none,none]∧H5 d=some (.dK (dK ds))∧(ds.map (·.1)).Nodup∧ds.length≤i∧Sm c (ds.map sw)=Sm c (ns.take i)∧(∀ e∈ds,e.1*c e.1=B∧0<e.1∧e.1.natAbs≤2 ^ β∧e.2.natAbs≤i*2 ^ γ)∧AI H H5)
   ⟨none,none,[],rfl,hd0,List.nodup_nil,Nat.le_refl _,rfl,fun e z=>absurd z (by simp),s0⟩ ?_ ?_ ?_
  ·rintro i σ H5 _ ⟨x2,x3,ds,rfl,_,_,_,_,_,s5⟩
   exact Ax.of (s5 _ _ hl)
  ·rintro i x σ H5 hx ⟨x2,x3,ds,rfl,hd5,nd5,len5,sm5,ok5,s5⟩
   obtain⟨n,hn,q,rfl,hq⟩:=Ar pr hx
   have hq5:=s5 _ _ hq
   have hnm:=List.mem_of_getElem? hn
   obtain⟨n1,n2,n3⟩:=nok n hnm
   have hi:i<ns.length:=(List.getElem?_eq_some_iff.mp hn).1
   refine⟨q,_,rfl,Af.of hq5,rfl,_,_,rfl,_,_,rfl,rfl,?_⟩
   have hdl:(dK ds).length=ds.length:=by unfold dK;rw[List.length_map]
   refine⟨_,rfl,d,rfl,.inl ⟨_,.inl hd5⟩,_,rfl,_,Gj.k (k:=.inl n.2) hd5,_,rfl,(CW ds n.2).getD 0,n.1,(by rw[Lq];cases CW ds n.2 <;> rfl),rfl,?_⟩
   refine⟨_,rfl,_,rfl,d,_,rfl,LW.k (k:=.inl n.2) hd5 (B5 (by omega)),?_⟩
   obtain⟨p1,p2⟩:=Mu ds n.2 ((CW ds n.2).getD 0+n.1) nd5
   refine⟨_,_,FH ds n.2 ((CW ds n.2).getD 0+n.1),rfl,(by rw[AE,RQ _ _ _ nd5]),p1,Nat.le_trans (OZ _ _ _) (by omega),?_,fun e he=>?_,fun b' o e'=>by rw[AX (AZ e' hd)];exact s5 _ _ e'⟩
   ·rw[TM,sm5,DF hn]
    unfold Sm
    rw[List.map_append,List.sum_append]
    simp
   ·rcases Oa _ _ _ _ he with z | z
    ·obtain⟨z1,z2,z3,z4⟩:=ok5 e z
     refine⟨z1,z2,z3,Nat.le_trans z4 (Nat.mul_le_mul_right _ (Nat.le_succ _))⟩
    ·subst z
     refine⟨hcB n hnm,n1,n3,?_⟩
     have hb:((CW ds n.2).getD 0).natAbs≤i*2 ^ γ:=by
      cases e:CW ds n.2 with
      | none=>exact Nat.zero_le _
      | some v=>exact(ok5 _ (Mv e)).2.2.2
     show((CW ds n.2).getD 0+n.1).natAbs≤(i+1)*2 ^ γ
     rw[Nat.succ_mul]
     exact Nat.le_trans (Int.natAbs_add_le _ _) (Nat.add_le_add hb n2)
  ·rintro σ H5 ⟨x2,x3,ds,rfl,hd5,nd5,len5,sm5,ok5,s5⟩
   rw[ul]at len5 sm5 ok5
   rw[List.take_length]at sm5
   have bd:∀ n∈ds.map sw,n.1.natAbs≤2 ^ (γ+10)∧n.2.natAbs≤2 ^ β:=fun n hn=>by
    obtain⟨e,he,rfl⟩:=List.mem_map.mp hn
    obtain⟨_,_,z3,z4⟩:=ok5 e he
    refine⟨Nat.le_trans z4 ?_,z3⟩
    rw[Nat.pow_add,Nat.mul_comm]
    exact Nat.mul_le_mul_left _ (by omega)
   have FY:∀ i,i≤ds.length→Sz 4000 (Ed ((ds.take i).map sw)).1∧Sz 4000 (Ed ((ds.take i).map sw)).2:=fun i hi=>by
    obtain⟨q1,q2⟩:=Uq (l:=(ds.take i).map sw) fun n hn=>bd n (by
     obtain⟨e,he,rfl⟩:=List.mem_map.mp hn
     exact List.mem_map.mpr ⟨e,List.mem_of_mem_take he,rfl⟩)
    rw[List.length_map,List.length_take,Nat.min_eq_left hi]at q1 q2
    have b1:β*i≤β*ns.length:=Nat.mul_le_mul_left _ (by omega)
    exact⟨Od q1 (by omega) (by omega),Od (k:=1) (by rw[Nat.one_mul];exact q2) (by decide) (by omega)⟩
   refine⟨_,rfl,d,_,rfl,hd5,fun o=>?_⟩
   have hf6:upd H5 d (.frz o (.dK (dK ds))) d=some (.frz o (.dK (dK ds))):=AE
   have s6:AI H (upd H5 d (.frz o (.dK (dK ds)))):=fun b' o' e'=>by rw[AX (AZ e' hd)];exact s5 _ _ e'
   generalize upd H5 d (.frz o (.dK (dK ds)))=H6 at *
   have hdl:(dK ds).length=ds.length:=by unfold dK;rw[List.length_map]
   refine UL (kvs:=dK ds) (fun i σ H7=>H7=H6∧∃ x2 x3,σ=[some (.ref l),some (.ref d),x2,x3,some (.int (Ed ((ds.take i).map sw)).1),some (.int (Ed ((ds.take i).map sw)).2)]) ⟨rfl,_,_,rfl⟩ ?_ ?_ ?_
   ·rintro i σ H7 _ ⟨rfl,_⟩
    exact hf6
   ·rintro i kk v σ H7 hk ⟨rfl,x2,x3,rfl⟩
    unfold dK at hk
    rw[List.getElem?_map]at hk
    obtain⟨e,he,hke⟩:∃ e,ds[i]?=some e∧kk=.inl e.1:=by
     cases q:ds[i]? with
     | none=>rw[q]at hk;cases hk
     | some e=>rw[q]at hk;cases hk;exact⟨e,rfl,rfl⟩
    subst hke
    have hi:i<ds.length:=(List.getElem?_eq_some_iff.mp he).1
    have hem:=List.mem_of_getElem? he
    obtain⟨_,_,z3,z4⟩:=ok5 e hem
    obtain⟨t1,t2⟩:=FY i (by omega)
    have t3:Sz 4000 e.1:=Od (k:=1) (m:=β) (by rw[Nat.one_mul];exact z3) (by decide) (by
     have:β*1≤β*ns.length:=Nat.mul_le_mul_left _ (by omega)
     omega)
    have t4:Sz 4000 e.2:=Od z4 (by omega) (by omega)
    have dg:Gj H7 d (.int e.1) (some (.int e.2)):=.inl ⟨dK ds,.inl e.1,.inr ⟨o,hf6⟩,rfl,by rw[Lq,Ob nd5 hem];rfl⟩
    refine⟨_,rfl,_,rfl,_,_,rfl,rfl,⟨t1,t3⟩,_,rfl,_,rfl,d,_,rfl,dg,_,rfl,_,_,rfl,rfl,⟨t4,t2⟩,_,_,rfl,rfl,?_⟩
    refine⟨_,rfl,_,rfl,_,_,rfl,rfl,⟨t2,t3⟩,?_⟩
    refine⟨rfl,x2,some (kV (Sum.inl e.1)),?_⟩
    rw[DF he,List.map_append,show [e].map sw=[sw e]from rfl,RN]
    rfl
   ·rintro σ H7 ⟨rfl,x2,x3,rfl⟩
    rw[hdl,List.take_length]
    have tz:=FY ds.length (Nat.le_refl _)
    rw[List.take_length]at tz
    have hdp:∀ n∈ds.map sw,n.2*cB ns n.2=Rn ns∧0<n.2:=fun n hn=>by
     obtain⟨e,he,rfl⟩:=List.mem_map.mp hn
     obtain⟨z1,z2,_⟩:=ok5 e he
     rw[hc,hB]at z1
     exact⟨z1,z2⟩
    have p1:=HV (l:=ds.map sw) fun n h=>(hdp n h).2
    rw[hc]at sm5
    obtain⟨w1,w2⟩:=Sg hpos hdp sm5
    refine⟨_,rfl,_,rfl,_,_,rfl,(by omega),tz.2,fun p hp=>?_⟩
    exact k p _ (by rw[AE,w1,w2]) (s6.trans (AI.new hp))
theorem Ib:AW ["values","cell","fault"] ["values","cell"] (AL F5):=A9
theorem Hi (T:Txt w K mg t):Av P w K mg base Bj 5 t.bz t.b0 ["values","cell"] (W6 K):=by
 have D:=T.fn
 refine D.fn.okX Ib ?_ (fun cdv A outer s H vs Q E hr h Z hZ=>?_)
 ·rintro _ _ _ _ ⟨l,us,ms,y,hm,β,γ,rfl,_⟩
  rfl
 ·obtain⟨l,us,ms,y,hm,β,γ,rfl,hl,vs_,h1000,nok,hy,k⟩:=h
  refine hZ ⟨_,((AD (Ac (i:=2) Ib.nd rfl (Or.inl rfl) (AR T.fk (DA T) (BB hr) (AA (AH 0) AB)))
   (AF (AJ (B3 (AQ Ht (AH 2) DS (AN _)) (AR T.e6 (B6 T) (BB hr) (Ai (AR T.fm (Ke T) (BB hr) (Ai (AR T.fl (DI T) (BB hr) (AA (AH 0) AB)) AB)) (AA (AH 1) AB))) (AH 2)))))),?_⟩
  try dsimp only[A6,An]
  refine⟨_,rfl,l,us,ms,rfl,hl,vs_,h1000,?_⟩
  rcases HX vs_ with⟨e1,e2⟩ | ⟨u,v,e1,e2,hu_,nu⟩
  ·rw[e2]
   refine⟨_,rfl,rfl,true,(by simp),Az ?_⟩
   refine⟨_,rfl,l,us,ms,rfl,hl,vs_,h1000,fun l2 ps H2 hl2 pr2 s2=>?_⟩
   refine⟨l2,ps,A8 ms,β,γ,rfl,hl2,pr2,nok,fun q H3 hq3 s3=>?_⟩
   have p2:=HV (l:=A8 ms) fun n h=>(nok.1 n h).1
   refine⟨_,rfl,q,_,_,y,hm,rfl,hq3,DL (by omega),hy.kp (Kp.same (s2.trans s3)),fun x H4 hx s4=>k x H4 ?_ ((s2.trans s3).trans s4)⟩
   unfold Po
   rw[e1]
   exact hx
  ·rw[e2]
   refine⟨_,rfl,rfl,false,(by simp[nu]),Ah ?_⟩
   refine⟨_,rfl,k _ _ ?_ (AI.refl _)⟩
   unfold Po
   rw[e1]
   exact hu_
theorem M7:AW ["table","cell"] ["table","cell"] (AL F6):=A9
theorem L1 (T:Txt w K mg t):Av P w K mg base Bj 6 t.b1 t.b2 ["table","cell"] (W9 Po):=by
 have D:=T.fo
 refine D.fn.okX M7 ?_ (fun cdv A outer s H vs Q E hr h Z hZ=>?_)
 ·rintro _ _ _ _ ⟨x,y,m,w_,hm,β,γ,rfl,_⟩
  rfl
 ·obtain⟨x,y,m,w_,hm,β,γ,rfl,⟨mu,hx,vt⟩,rm,w30,m30,nok,hy,k⟩:=h
  refine hZ ⟨_,((AF (AJ (AR T.fn (Hi T) (BB hr) (Ai (AR T.fj (B1 T) (BB hr) (AA (AH 0) AB)) (AA (AH 1) AB)))))),?_⟩
  try dsimp only[A6,An]
  have lm:m.flatten.length=m.length*w_:=CL rm.row
  have hmw:m.length*w_≤30*30:=Nat.mul_le_mul m30 w30
  refine⟨_,rfl,x,mu,w_,rfl,hx,BE vt rm,w30,(by rw[Paired.length vt];exact m30),fun la H2 hla0 hla s2=>?_⟩
  have pm:Br H2 mu.flatten m.flatten:=Br.kp (Jr vt) (Kp.same s2)
  have pl:mu.flatten.length≤1000:=by rw[Paired.length pm];omega
  exact⟨_,rfl,la,_,_,y,hm,β,γ,rfl,hla,pm,pl,nok,hy.kp (Kp.same s2),fun z H3 hz s3=>k z H3 hz (s2.trans s3)⟩
theorem FQ:AW ["table","values","fault"] ["table"] (AL FM):=A9
theorem Kf (T:Txt w K mg t):Av P w K mg base Bj 2 t.b3 t.b4 ["table"] XA:=by
 have D:=T.fp
 refine D.fn.okX FQ ?_ (fun cdv A outer s H vs Q E hr h Z hZ=>?_)
 ·rintro _ _ _ _ ⟨x,m,w_,rfl,_⟩
  rfl
 ·obtain⟨x,m,w_,rfl,⟨mu,hx,vt⟩,rm,w30,m30,k⟩:=h
  refine hZ ⟨_,((AD (Ac (i:=1) FQ.nd rfl (Or.inl rfl) (AR T.fj (B1 T) (BB hr) (AA (AH 0) AB)))
   (AD (Ac (i:=2) FQ.nd rfl (Or.inl rfl) (AR T.fk (DA T) (BB hr) (AA (AH 1) AB)))
   (AF (AJ (B3 (AQ Ht (AH 2) DS (AN _)) (Al (AG AM (Ai (AT Ab (by rfl) T.gz PySem.boot_len (Ai (AR T.fl (DI T) (BB hr) (AA (AH 1) AB)) AB)) (AG AC AB)))) (AH 2))))))),?_⟩
  try dsimp only[A6,An]
  have lm:m.flatten.length=m.length*w_:=CL rm.row
  have hmw:m.length*w_≤30*30:=Nat.mul_le_mul m30 w30
  refine⟨_,rfl,x,mu,w_,rfl,hx,BE vt rm,w30,(by rw[Paired.length vt];exact m30),fun la H2 hla0 hla s2=>?_⟩
  have pm:Br H2 mu.flatten m.flatten:=Br.kp (Jr vt) (Kp.same s2)
  have pl:mu.flatten.length≤1000:=by rw[Paired.length pm];omega
  refine⟨_,rfl,la,_,_,rfl,hla,pm,pl,?_⟩
  rcases HX pm with⟨e1,e2⟩ | ⟨u,v,e1,e2,hu_,nu⟩
  ·rw[e2]
   refine⟨_,rfl,rfl,true,(by simp),Az ?_⟩
   refine⟨_,rfl,la,_,_,rfl,hla,pm,pl,fun l2 ps H3 hl2 pr2 s3=>⟨l2,ps,rfl,.inl (Ax.of hl2),As,fun q hq=>k _ _ ?_ ((s2.trans s3).trans (AI.new hq))⟩⟩
   rw[RT e1,← Paired.length pr2]
   exact⟨q,rfl,AE⟩
  ·rw[e2]
   refine⟨_,rfl,rfl,false,(by simp[nu]),Ah ⟨_,rfl,k _ _ ?_ s2⟩⟩
   rw[RS e1]
   exact hu_
theorem Ds:AW ["table","most","values","fault","best","number"] ["table","most"] (AL IJ):=A9
theorem Ny (T:Txt w K mg t):Av P w K mg base Bj 2 t.b5 t.b6 ["table","most"] XB:=by
 have D:=T.fq
 refine D.fn.okX Ds ?_ (fun cdv A outer s H vs Q E hr h Z hZ=>?_)
 ·rintro _ _ _ _ ⟨x,b_,m,w_,rfl,_⟩
  rfl
 ·obtain⟨x,b_,m,w_,rfl,⟨mu,hx,vt⟩,rm,w30,m30,okm,k⟩:=h
  refine hZ ⟨_,((AD (Ac (i:=2) Ds.nd rfl (Or.inl rfl) (AR T.fj (B1 T) (BB hr) (AA (AH 0) AB)))
   (AD (Ac (i:=3) Ds.nd rfl (Or.inl rfl) (AR T.fk (DA T) (BB hr) (AA (AH 2) AB)))
   (AD (Ak (AQ OB (AH 3) DS (AN _)) (AF (AJ (AH 3))) AU)
   (AD (Ac (i:=4) Ds.nd rfl (Or.inl rfl) DS)
   (AD (B0 PassesOwn.never rfl (Dl (AR T.fl (DI T) (BB hr) (AA (AH 2) AB))) (BA (i:=5) Ds.nd rfl (Or.inl rfl))
   (AF (Ak (DO (AQ Ht (AH 4) DS (AN _)) (Cc (W7 (BR (AH 1)) (BR (AR T.e2 (Gy T) (BB hr) (AA (AH 4) (AA (AH 5) AB)))) (BR (AR T.e2 (Gy T) (BB hr) (AA (AH 5) (AA (AH 4) AB))))))).pt (AF (Ac (i:=4) Ds.nd rfl (Or.inl rfl) (AH 5))) AU)))
   (AF (AJ (B3 (AQ Ht (AH 4) DS (AN _)) (Al (AG AM AB)) (Al (AG AM (AS (AK AO (AH 4) AC (fun _ _=>rfl)) (AS (AK AO (AH 4) AC (fun _ _=>rfl)) AB))))))))))))),?_⟩
  try dsimp only[A6,An]
  have lm:m.flatten.length=m.length*w_:=CL rm.row
  have hmw:m.length*w_≤30*30:=Nat.mul_le_mul m30 w30
  refine⟨_,rfl,x,mu,w_,rfl,hx,BE vt rm,w30,(by rw[Paired.length vt];exact m30),fun la H2 hla0 hla s2=>?_⟩
  have pm:Br H2 mu.flatten m.flatten:=Br.kp (Jr vt) (Kp.same s2)
  have pl:mu.flatten.length≤1000:=by rw[Paired.length pm];omega
  have okf:∀ v∈m.flatten,Ap v:=GM okm
  refine⟨_,rfl,la,_,_,rfl,hla,pm,pl,?_⟩
  rcases HX pm with⟨e1,e2⟩ | ⟨u,v,e1,e2,hu_,nu⟩
  ·rw[e2]
   rw[RT e1]at k
   refine⟨_,rfl,rfl,false,(by simp),Ah ?_⟩
   refine⟨_,rfl,la,_,_,rfl,hla,pm,pl,fun l2 ps H3 hl2 pr2 s3=>?_⟩
   have s03:=s2.trans s3
   have nat:∀(p:Addr) (n:Int×Int),n∈A8 m.flatten→H3 p=some (.tup [.int n.1,.int n.2])→Fw H3 p n.1 n.2 100:=fun p n hn hp=>FF (okf _ (HZ hn)) rfl hp
   have lps:ps.length=(A8 m.flatten).length:=Paired.length pr2
   refine⟨l2,rfl,⟨_,Ax.of hl2⟩,?_⟩
   refine G6 (xs:=ps) (fun i σ H5=>H5=H3∧∃ b x5,σ=[some x,some (.bl b_),some (.ref la),some .non,some b,x5]∧Nq H3 b (GT b_ ((A8 m.flatten).take i))∧∀ n,GT b_ ((A8 m.flatten).take i)=some n→n∈A8 m.flatten) ⟨rfl,_,_,rfl,rfl,fun n z=>by cases z⟩ ?_ ?_ ?_
   ·rintro i σ H5 _ ⟨rfl,_⟩
    exact Ax.of hl2
   ·rintro i xx σ H5 hxx ⟨rfl,b,x5,rfl,hb,hin⟩
    obtain⟨n,hn,pn,rfl,hpn⟩:=Ar pr2 hxx
    have hnm:=List.mem_of_getElem? hn
    have nn:=nat pn n hnm hpn
    have et:GT b_ ((A8 m.flatten).take (i+1))=HY b_ (GT b_ ((A8 m.flatten).take i)) n:=by rw[DF hn,Pp]
    cases eo:GT b_ ((A8 m.flatten).take i)with
    | none=>
     rw[eo]at hb et
     have hb':b=.non:=hb
     subst hb'
     refine⟨_,rfl,rfl,true,(by simp),Az (Az ⟨_,rfl,rfl,_,_,rfl,?_,?_⟩)⟩
     ·rw[et];exact⟨pn,rfl,hpn⟩
     ·rw[et];intro n' hn';cases hn';exact hnm
    | some n0=>
     rw[eo]at hb et
     have hin0:=hin n0 eo
     obtain⟨p0,rfl,hp0⟩:=hb
     have n00:=nat p0 n0 hin0 hp0
     refine⟨_,rfl,rfl,false,(by simp),Ah ?_⟩
     have fin:∀ c:Bool,HY b_ (some n0) n=(if c=true then some n else some n0)→(if c=true then ∃ v,[some x,some (V.bl b_),some (.ref la),some .non,some (.ref p0),some (.ref pn)][5]?=some (some v)∧(fun σ' H'=>H'=H5∧∃ b x5,σ'=[some x,some (.bl b_),some (.ref la),some .non,some b,x5]∧Nq H5 b (GT b_ ((A8 m.flatten).take (i+1)))∧∀ n,GT b_ ((A8 m.flatten).take (i+1))=some n→n∈A8 m.flatten) ([some x,some (V.bl b_),some (.ref la),some .non,some (.ref p0),some (.ref pn)].set 4 (some v)) H5 else(fun σ' H'=>H'=H5∧∃ b x5,σ'=[some x,some (.bl b_),some (.ref la),some .non,some b,x5]∧Nq H5 b (GT b_ ((A8 m.flatten).take (i+1)))∧∀ n,GT b_ ((A8 m.flatten).take (i+1))=some n→n∈A8 m.flatten) [some x,some (V.bl b_),some (.ref la),some .non,some (.ref p0),some (.ref pn)] H5):=fun c hc=>by
      rw[et,hc]
      cases c with
      | true=>exact Az ⟨_,rfl,rfl,_,_,rfl,⟨pn,rfl,hpn⟩,fun n' hn'=>by cases hn';exact hnm⟩
      | false=>exact Ah ⟨rfl,_,_,rfl,⟨p0,rfl,hp0⟩,fun n' hn'=>by cases hn';exact hin0⟩
     cases b_ with
     | true=>
      refine⟨_,rfl,true,rfl,Az ⟨_,rfl,_,rfl,p0,pn,_,_,_,_,100,100,rfl,n00,nn,(by decide),Ee n0 n,rfl,?_⟩⟩
      exact fin _ (by unfold HY;simp)
     | false=>
      refine⟨_,rfl,false,rfl,Ah ⟨_,rfl,_,rfl,pn,p0,_,_,_,_,100,100,rfl,nn,n00,(by decide),Ee n n0,rfl,?_⟩⟩
      exact fin _ (by unfold HY;simp)
   ·rintro σ H5 ⟨rfl,b,x5,rfl,hb,_⟩
    rw[lps,List.take_length]at hb
    cases eo:GT b_ (A8 m.flatten)with
    | none=>
     rw[eo]at hb k
     have hb':b=.non:=hb
     subst hb'
     exact⟨_,rfl,rfl,true,(by simp),Az ⟨(by show 1≤sizeLine;decide),fun q hq=>k _ _ ⟨q,rfl,AE⟩ (s03.trans (AI.new hq))⟩⟩
    | some n0=>
     rw[eo]at hb k
     obtain⟨p0,rfl,hp0⟩:=hb
     exact⟨_,rfl,rfl,false,(by simp),Ah ⟨_,rfl,p0,_,_,_,rfl,rfl,Af.of hp0,rfl,_,rfl,p0,_,_,_,rfl,rfl,Af.of hp0,rfl,As,fun q hq=>k _ _ ⟨q,rfl,AE⟩ (s03.trans (AI.new hq))⟩⟩
  ·rw[e2]
   refine⟨_,rfl,rfl,true,(by simp[nu]),Az ⟨_,rfl,k _ _ ?_ s2⟩⟩
   rw[RS e1]
   exact hu_
theorem Eg:AW ["one","sign","value","other","cell","chosen","asked","summand"] ["one","sign","value","other","cell"] (AL F7):=A9
theorem L3 (T:Txt w K mg t):Av P w K mg base Bj 7 t.b7 t.b8 ["one","sign","value","other","cell"] (XI K):=by
 have D:=T.fr
 refine D.fn.okX Eg ?_ (fun cdv A outer s H vs Q E hr h Z hZ=>?_)
 ·rintro _ _ _ _ ⟨x,u,y,z,s_,m,n,k_,w_,hm,β,γ,rfl,_⟩
  rfl
 ·obtain⟨x,u,y,z,s_,m,n,k_,w_,hm,β,γ,rfl,⟨mu,hx,vtm⟩,hk,⟨nu,hy,vtn⟩,hz,rm,rn,hmn,m30,w30,okm,okk,nok,k⟩:=h
  have hu1:=FU hr
  refine hZ ⟨_,((AD (Ak (AQ Aj (AK AO (AH 2) AC (fun _ _=>rfl)) AM (AN _)) (AF (AJ (AH 2))) AU)
   (AD (Ac (i:=5) Eg.nd rfl (Or.inl rfl) (Bq AB))
   (AD (B0 PassesOwn.never rfl (OH rfl T.hc RI (Ai (AR T.fj (B1 T) (BB hr) (AA (AH 0) AB)) (Ai (AR T.fj (B1 T) (BB hr) (AA (AH 3) AB)) AB))) (Fi rfl (Bf (BA (i:=6) Eg.nd rfl (Or.inl rfl)) (Bf (BA (i:=7) Eg.nd rfl (Or.inl rfl)) EZ)))
   (AF (Ak (AQ (NQ hu1) (AR T.fe (GP T) (BB hr) (AA (AH 1) (AA (AH 6) (AA (AH 2) (AA (AH 4) AB))))) (Al (AG AM (AG CS AB))) (AN _)) (AF (Dk (G8 PySem.F.plainAttrs_list PySem.F.slot_list_append PySem.F.type_list_append B7 (AH 5) (AA (AH 7) AB)))) AU)))
   (AF (AJ (AR T.fn (Hi T) (BB hr) (AA (AH 5) (AA (AH 4) AB))))))))),?_⟩
  try dsimp only[A6,An]
  obtain⟨qk,xk,rfl,hqk,itk⟩:=hk.hd
  refine⟨_,rfl,qk,_,_,_,rfl,rfl,Af.of hqk,Ag,rfl,Fe k_,rfl,Ba (fun c=>?_) (fun c=>?_)⟩
  ·exact⟨_,rfl,k _ _ (by unfold TR;rw[if_pos c];exact hk) (AI.refl _)⟩
  refine⟨Nat.zero_le _,fun lc hlc=>?_⟩
  have s1:=AI.new (o:=.lst []) hlc
  have hc1:upd H lc (.lst []) lc=some (.lst []):=AE
  generalize upd H lc (.lst [])=H1 at *
  refine⟨_,rfl,x,mu,w_,rfl,hx.kp (Kp.same s1),BE vtm rm,w30,(by rw[Paired.length vtm];exact m30),fun la H2 hla0 hla s2=>?_⟩
  refine⟨_,rfl,y,nu,w_,rfl,hy.kp (Kp.same (s1.trans s2)),BE vtn rn,w30,(by rw[Paired.length vtn];omega),fun lb H3 hlb0 hlb s3=>?_⟩
  have s13:=(s1.trans s2).trans s3
  have la3:=s3 _ _ hla
  have hc3:=s3 _ _ (s2 _ _ hc1)
  have pm:Br H3 mu.flatten m.flatten:=Br.kp (Jr vtm) (Kp.same s13)
  have pn:Br H3 nu.flatten n.flatten:=Br.kp (Jr vtn) (Kp.same s13)
  have lm:m.flatten.length=m.length*w_:=CL rm.row
  have ln:n.flatten.length=n.length*w_:=CL rn.row
  have hmw:m.length*w_≤30*30:=Nat.mul_le_mul m30 w30
  have okf:∀ v∈m.flatten,Ap v:=GM okm
  obtain⟨Z,hZ⟩:∃ Z,Z=m.flatten.zip n.flatten:=⟨_,rfl⟩
  have ezl:Z.length=m.length*w_:=by rw[hZ,List.length_zip,lm,ln,hmn,Nat.min_self]
  have lu:mu.flatten.length=m.length*w_:=by rw[Paired.length pm,lm]
  have lu2:nu.flatten.length=m.length*w_:=by rw[Paired.length pn,ln,hmn]
  refine⟨la,lb,rfl,⟨_,Ax.of la3⟩,⟨_,Ax.of hlb⟩,?_⟩
  refine Qn (xs:=mu.flatten) (ys:=nu.flatten) (fun i σ H5=>∃ x6 x7 us,σ=[some x,some (.str s_),some (.ref qk),some y,some z,some (.ref lc),x6,x7]∧H5 lc=some (.lst us)∧Br H5 us (chz s_ k_ hm (Z.take i))∧AI H H5∧H5 la=some (.lst mu.flatten)∧H5 lb=some (.lst nu.flatten)) (by rw[lu,lu2]) ⟨_,_,[],rfl,hc3,.nil,s13,la3,hlb⟩ ?_ ?_ ?_
  ·rintro i σ H5 _ ⟨x6,x7,us,rfl,_,_,_,h1,h2⟩
   exact⟨Ax.of h1,Ax.of h2⟩
  ·rintro i xa xb σ H5 bb hxa hxb ⟨x6,x7,us,rfl,hc5,vs5,s5,la5,lb5⟩ hbb
   obtain⟨va,hva,pa⟩:=Ar pm hxa
   obtain⟨vb,hvb,pb⟩:=Ar pn hxb
   have hi:i<m.length*w_:=by have:=(List.getElem?_eq_some_iff.mp hxa).1;omega
   have hzi:Z[i]?=some (va,vb):=by rw[hZ];exact List.getElem?_zip_eq_some.mpr ⟨hva,hvb⟩
   have ul:us.length≤i:=by rw[Paired.length vs5];exact Nat.le_trans Lu (by rw[List.length_take];omega)
   have sb:=AI.new (o:=.tup [xa,xb]) hbb
   have eb:upd H5 bb (.tup [xa,xb]) bb=some (.tup [xa,xb]):=AE
   generalize upd H5 bb (.tup [xa,xb])=H6 at *
   have s6:=s5.trans sb
   refine⟨bb,_,rfl,Af.of eb,rfl,_,_,rfl,_,_,rfl,rfl,?_⟩
   have pa6:BD H6 xa va:=by
    obtain⟨r0,hr0,pv0⟩:=Ar (Jr vtm) hxa
    have e0:r0=va:=by rw[hr0]at hva;exact Option.some.inj hva
    rw[← e0];exact pv0.kp (Kp.same s6)
   have pb6:BD H6 xb vb:=by
    obtain⟨r0,hr0,pv0⟩:=Ar (Jr vtn) hxb
    have e0:r0=vb:=by rw[hr0]at hvb;exact Option.some.inj hvb
    rw[← e0];exact pv0.kp (Kp.same s6)
   refine⟨_,rfl,_,rfl,_,rfl,_,rfl,s_,xa,.ref qk,z,_,hm,rfl,.inl ⟨va,k_,pa6,hk.kp (Kp.same s6),okf va (List.mem_of_getElem? hva),okk,rfl⟩,hz.kp (Kp.same s6),fun r H7 hr7 s7=>?_⟩
   refine⟨BG,fun qt hqt=>?_⟩
   have s8:=AI.new (o:=.tup [vS "truth",.bl true]) hqt
   have ht8:BD (upd H7 qt (.tup [vS "truth",.bl true])) (.ref qt) (.tru true):=⟨qt,rfl,AE⟩
   generalize upd H7 qt (.tup [vS "truth",.bl true])=H8 at *
   obtain⟨q0,x0,rfl,hq0,it0⟩:=(hr7.kp (Kp.same s8)).hd
   obtain⟨q1,x1,e1,hq1,it1⟩:=ht8.hd
   cases e1
   have s58:=(sb.trans s7).trans s8
   refine⟨q0,qt,_,_,_,_,rfl,rfl,hq0,hq1,it0,it1,KQ (Mq s_ va k_ hm) (.tru true),rfl,Ba (fun d=>?_) (fun d=>?_)⟩
   ·have hc8:=s58 _ _ hc5
    have kd:=CQ (vs:=us++[xb]) hc8
    refine⟨_,rfl,.inl ⟨rfl,_,Ax.of hc8⟩,_,rfl,lc,us,_,rfl,rfl,hc8,B5 (by omega),_,_,us++[xb],rfl,AE,?_,fun b' o e=>by rw[AX (AZ e hlc)];exact s58 _ _ (s5 _ _ e),?_,?_⟩
    ·rw[DF hzi,Mw,if_pos d]
     exact Dx (Br.kp vs5 ((Kp.same s58).trans kd)) (pb6.kp ((Kp.same (s7.trans s8)).trans kd))
    ·rw[AX (show la≠lc from fun z=>by rw[z]at hla0;rw[hla0]at hc1;cases hc1)];exact s58 _ _ la5
    ·rw[AX (show lb≠lc from fun z=>by rw[z]at hlb0;rw[s2 _ _ hc1]at hlb0;cases hlb0)];exact s58 _ _ lb5
   ·refine⟨_,_,us,rfl,s58 _ _ hc5,?_,s5.trans s58,s58 _ _ la5,s58 _ _ lb5⟩
    rw[DF hzi,Mw,if_neg d,List.append_nil]
    exact Br.kp vs5 (Kp.same s58)
  ·rintro σ H5 ⟨x6,x7,us,rfl,hc5,vs5,s5,_,_⟩
   rw[lu,← ezl,List.take_length]at vs5
   have ul:us.length≤Z.length:=by rw[Paired.length vs5];exact Lu
   refine⟨_,rfl,_,rfl,lc,us,_,z,hm,β,γ,rfl,hc5,vs5,(by omega),(by rw[hZ];exact nok),hz.kp (Kp.same s5),fun x H6 hx6 s6=>k x H6 ?_ (s5.trans s6)⟩
   unfold TR
   rw[if_neg c,← hZ]
   exact hx6
theorem J9:AW ["value","table"] ["value","table"] (AL EF):=A9
theorem Im (T:Txt w K mg t):Av P w K mg base Bj 1 t.b9 t.ca ["value","table"] WV:=by
 have D:=T.fs
 refine D.fn.okX J9 ?_ (fun cdv A outer s H vs Q E hr h Z hZ=>?_)
 ·rintro _ _ _ _ ⟨u,x,v,rows,r0,rfl,_⟩
  rfl
 ·obtain⟨u,x,v,rows,r0,rfl,⟨p,e,hv⟩,⟨b,us,e2,hb,pr⟩,hlen,k⟩:=h
  refine hZ ⟨_,((AF (AJ (BX (A3 Aj (AK AO (AH 0) AC (fun _ _=>rfl)) AM (AN _)) (BX (A3 Aj (AK AO (AH 0) AC (fun _ _=>rfl)) AC (AN _)) (BX (A3 MH AC (AK AO (AH 0) AC (fun _ _=>rfl)) (AN _)) (B9 (A3 MH (AK AO (AH 0) AC (fun _ _=>rfl)) (AT Ab (by rfl) T.gz PySem.boot_len (AS (AK AO (AH 1) AC (fun _ _=>rfl)) AB)) (AN _))))))))),?_⟩
  try dsimp only[A6,An]
  subst e e2
  obtain⟨xs,hp,_⟩:=hv.itm
  cases pr with
  | @cons u0 _ us' _ h0 _=>
   obtain⟨b0,rfl,hb0⟩:=h0
   refine⟨_,rfl,p,_,_,_,rfl,rfl,Af.of hp,Ag,rfl,_,rfl,?_⟩
   refine Ba (fun c1=>?_) (fun c1=>?_)
   ·obtain⟨t_,d_,rfl⟩:=hv.num_of c1
    have hp':H p=some (.tup [vS "number",.int t_,.int d_]):=hv
    refine⟨_,rfl,p,_,_,_,rfl,rfl,Af.of hp',rfl,rfl,_,rfl,?_⟩
    refine Ba (fun c2=>?_) (fun c2=>?_)
    ·have e2:d_=1:=by have:V.int d_=V.int 1:=of_decide_eq_true c2;injection this
     refine⟨_,rfl,p,_,_,_,rfl,rfl,Af.of hp',rfl,_,_,rfl,rfl,_,rfl,?_⟩
     refine Ba (fun c3=>?_) (fun c3=>?_)
     ·refine⟨_,rfl,p,_,_,_,rfl,rfl,Af.of hp',rfl,_,rfl,b,_,_,_,rfl,rfl,Af.of hb,Ag,b0,r0,rfl,.inr (Af.of hb0),_,_,rfl,rfl,?_⟩
      have e3:=of_decide_eq_true c3
      have:Dh (.num t_ d_) r0.length=decide (t_≤(r0.length:Int)):=by show(decide (d_=1)&&(decide (1≤t_)&&decide (t_≤(r0.length:Int))))=_;rw[decide_eq_true e2,decide_eq_true e3];simp
      rw[this]at k;exact k
     ·have:Dh (.num t_ d_) r0.length=false:=by show(decide (d_=1)&&(decide (1≤t_)&&decide (t_≤(r0.length:Int))))=_;have:¬ 1≤t_:=fun z=>c3 (decide_eq_true z);rw[decide_eq_false this];simp
      rw[this]at k
      exact k
    ·have e2:¬ d_=1:=fun z=>c2 (by rw[z];decide)
     have:Dh (.num t_ d_) r0.length=false:=by show(decide (d_=1)&&(decide (1≤t_)&&decide (t_≤(r0.length:Int))))=_;rw[decide_eq_false e2];rfl
     rw[this]at k
     exact k
   ·rw[Pi c1]at k
    exact k
theorem G0:AW ["key","table","at","cell","fault","row"] ["key","table","at","cell"] (AL Gr):=A9
theorem M8 (T:Txt w K mg t):Av P w K mg base Bj 2 t.cb t.cc ["key","table","at","cell"] WW:=by
 have D:=T.ft
 refine D.fn.okX G0 ?_ (fun cdv A outer s H vs Q E hr h Z hZ=>?_)
 ·rintro _ _ _ _ ⟨u,x,a,y,k_,v_,m,w_,hm,rfl,_⟩
  rfl
 ·obtain⟨u,x,a,y,k_,v_,m,w_,hm,rfl,hk,⟨rows,hx,vt⟩,ha,hy,rc,w1000,m1000,k⟩:=h
  have hu1:=FU hr
  refine hZ ⟨_,((AD (Ac (i:=4) G0.nd rfl (Or.inl rfl) (AR T.fk (DA T) (BB hr) (QF (Bq (AA (AH 0) (AA (AH 2) AB))) AB)))
   (AD (Ak (AQ OB (AH 4) DS (AN _)) (AF (AJ (AH 4))) AU)
   (AD (Ak (Ej (BR (AR T.fs (Im T) (BB hr) (AA (AH 2) (AA (AH 1) AB))))) (AF (AJ (Al (AG AM (AG AM (AA (AH 3) AB)))))) AU)
   (AD (B0 PassesOwn.never rfl (Fj (AH 1)) (BA (i:=5) G0.nd rfl (Or.inl rfl))
   (AF (Ak (AQ (NQ hu1) (AK AO (AH 5) AC (fun _ _=>rfl)) (AH 0) (AN _)) (AF (AJ (AK AO (AH 5) (AY BH (AK AO (AH 2) AC (fun _ _=>rfl)) AC) (fun _ _=>rfl)))) AU)))
   (AF (AJ (Al (AG AM (AG AM (AA (AH 3) AB))))))))))),?_⟩
  try dsimp only[A6,An]
  obtain⟨qk,rfl,hqk⟩:=id hk
  obtain⟨qa,rfl,hqa⟩:=id ha
  refine⟨_,rfl,_,rfl,BG,fun l hl=>?_⟩
  have s1:AI H (upd H l (.lst [.ref qk,.ref qa])):=AI.new hl
  have hl1:upd H l (.lst [.ref qk,.ref qa]) l=some (.lst [.ref qk,.ref qa]):=AE
  generalize upd H l (.lst [.ref qk,.ref qa])=H1 at *
  have hk1:=hk.kp (Kp.same s1)
  have ha1:=ha.kp (Kp.same s1)
  have hy1:=hy.kp (Kp.same s1)
  have hx1:=hx.kp (Kp.same s1)
  have vt1:=By.kp vt (Kp.same s1)
  refine⟨l,_,[k_,v_],rfl,hl1,.cons hk1 (.cons ha1 .nil),(by simp),?_⟩
  by_cases c1:Fe k_=true
  ·rw[show E3 [V.ref qk,V.ref qa] [k_,v_]=.ref qk by simp[E3,c1]]
   refine⟨_,rfl,rfl,true,(by simp),Az ⟨_,rfl,k _ _ ?_ s1⟩⟩
   rw[WY c1];exact hk1
  by_cases c2:Fe v_=true
  ·rw[show E3 [V.ref qk,V.ref qa] [k_,v_]=.ref qa by simp[E3,c1,c2]]
   refine⟨_,rfl,rfl,true,(by simp),Az ⟨_,rfl,k _ _ ?_ s1⟩⟩
   rw[WZ c1 c2];exact ha1
  rw[show E3 [V.ref qk,V.ref qa] [k_,v_]=.non by simp[E3,c1,c2]]
  refine⟨_,rfl,rfl,false,(by simp),Ah ?_⟩
  obtain⟨b,us,rfl,hb,pr⟩:=id hx1
  obtain⟨m0,mt,rfl⟩:∃ a t,m=a::t:=by
   cases m with
   | nil=>exact absurd rfl rc.ne
   | cons a t=>exact⟨a,t,rfl⟩
  cases vt1 with
  | @cons r0 _ rt _ v0 vt'=>
   have l0:r0.length=w_:=by rw[Paired.length v0];exact rc.row m0 List.mem_cons_self
   have l0':m0.length=r0.length:=(Paired.length v0).symm
   have vt1:By H1 (r0::rt) (m0::mt):=.cons v0 vt'
   refine⟨_,rfl,_,rfl,.ref qa,.ref b,v_,rt,r0,rfl,ha1,hx1,(by omega),Dh v_ r0.length,rfl,?_⟩
   cases c3:Dh v_ r0.length with
   | false=>
    refine Az ⟨_,rfl,As,fun p hp=>k _ _ ?_ (s1.trans (AI.new hp))⟩
    rw[Wa c1 c2 (by show Dh v_ m0.length=false;rw[l0'];exact c3)]
    exact hy1.flt hp
   | true=>
    have c3':Dh v_ ((m0::mt).headD []).length=true:=by show Dh v_ m0.length=true;rw[l0'];exact c3
    obtain⟨j,rfl,hj,ej⟩:=Pk c3
    refine Ah ⟨_,rfl,b,rfl,⟨_,Af.of hb⟩,?_⟩
    refine G7 (xs:=us) (fun i σ H5=>∃ x5,σ=[some (.ref qk),some (.ref b),some (.ref qa),some y,some .non,x5]∧H5=H1∧IC k_ j (m0::mt)=IC k_ j ((m0::mt).drop i)) ⟨none,rfl,rfl,rfl⟩ ?_ ?_ ?_
    ·rintro i σ H5 _ ⟨x5,rfl,rfl,_⟩
     exact Af.of hb
    ·rintro i x σ H5 hx ⟨x5,rfl,rfl,e⟩
     obtain⟨row,hrow,br,rfl,hbr⟩:=Ar pr hx
     obtain⟨mr,hmr,pv⟩:=Ar vt1 hrow
     have lm:mr.length=w_:=rc.row mr (List.mem_of_getElem? hmr)
     have lr:row.length=w_:=by rw[Paired.length pv];exact lm
     have w1:=rc.w1
     obtain⟨x0,xt,rfl⟩:=CF (l:=row) (by omega)
     obtain⟨y0,yt,rfl⟩:=CF (l:=mr) (by omega)
     have pv0:BD H5 x0 y0:=by cases pv with | cons h _=>exact h
     obtain⟨q0,xs0,rfl,hq0,it0⟩:=pv0.hd
     obtain⟨qk',xsk,ek,hqk',itk⟩:=hk1.hd
     cases ek
     rw[Pj hmr]at e
     refine⟨_,rfl,br,_,_,_,rfl,rfl,Af.of hbr,Ag,_,rfl,q0,qk,_,_,_,_,rfl,rfl,hq0,hqk',it0,itk,KQ y0 k_,rfl,?_⟩
     refine Ba (fun c4=>?_) (fun c4=>?_)
     ·rw[if_pos (show KQ ((y0::yt).headD .none) k_=true from c4)]at e
      obtain⟨z,hz1,hz2⟩:∃ z,(V.ref q0::xt)[j]?=some z∧BD H5 z ((y0::yt).getD j .none):=by
       have hj2:j<(y0::yt).length:=by omega
       obtain⟨z,h1,h2⟩:=Fz pv (List.getElem?_eq_getElem hj2)
       exact⟨z,h1,by rw[List.getD_eq_getElem?_getD,List.getElem?_eq_getElem hj2];exact h2⟩
      have hqa':H5 qa=some (.tup [vS "number",.int ((j:Int)+1),.int 1]):=by
       obtain⟨q',e',h'⟩:=ha1;cases e';exact h'
      refine⟨_,rfl,_,rfl,qa,_,_,_,rfl,rfl,Af.of hqa',rfl,_,_,rfl,rfl,br,_,_,_,rfl,rfl,Af.of hbr,(by rw[show((j:Int)+1-1)=(j:Int)by omega];exact DK hz1),k _ _ ?_ s1⟩
      rw[Wb c1 c2 c3' (by rw[ej];exact e)]
      exact hz2
     ·rw[if_neg (show ¬ KQ ((y0::yt).headD .none) k_=true from c4)]at e
      exact⟨_,rfl,rfl,e⟩
    ·rintro σ H5 ⟨x5,rfl,rfl,e⟩
     have hul:us.length=(m0::mt).length:=(Paired.length pr).trans (Paired.length vt1)
     rw[hul,List.drop_length,IC]at e
     refine⟨_,rfl,As,fun p hp=>k _ _ ?_ (s1.trans (AI.new hp))⟩
     rw[TB c1 c2 c3',ej,e]
     exact hy1.flt hp
theorem GH:AW ["condition","one","other","cell","shape"] ["condition","one","other","cell"] (AL EG):=A9
theorem Io (T:Txt w K mg t):Av P w K mg base Bj 3 t.cd t.ce ["condition","one","other","cell"] (XE K):=by
 have D:=T.fu
 refine D.fn.okX GH ?_ (fun cdv A outer s H vs Q E hr h Z hZ=>?_)
 ·rintro _ _ _ _ ⟨u,x,y,z,v,mu,nu,m,n,w1,w2,hm,rfl,_⟩
  rfl
 ·obtain⟨u,x,y,z,v,mu,nu,m,n,w1,w2,hm,rfl,hu_,hx,hy,vm,vn,rm,rn,ft,lm,ln,b1,b2,hz,k⟩:=h
  refine hZ ⟨_,((AD (Ac (i:=4) GH.nd rfl (Or.inl rfl) (AR T.fg (Fb T) (BB hr) (Ai (AR T.ff (CM T) (BB hr) (AA (AH 1) AB)) (Ai (AR T.ff (CM T) (BB hr) (AA (AH 2) AB)) AB))))
   (AD (Ak (AQ Aj (AK AO (AH 0) AC (fun _ _=>rfl)) AM (AN _)) (AF (AJ (AR T.fh (Dc T) (BB hr) (AA (AH 4) (AA (AH 0) AB))))) AU)
   (AD (Ak (AQ Aj (AK AO (AH 0) AC (fun _ _=>rfl)) AM (AN _)) (AF (AJ (AR T.fi (CZ T) (BB hr) (AA (AH 2) (AA (AH 4) AB))))) AU)
   (AD (Ak (AQ Aj (AK AO (AH 0) AC (fun _ _=>rfl)) AM (AN _)) (AF (AJ (AR T.fi (CZ T) (BB hr) (QH (B3 (BR (AK AO (AH 0) AC (fun _ _=>rfl))) (AH 1) (AH 2)) (AA (AH 4) AB))))) AU)
   (AF (AJ (AR T.fh (Dc T) (BB hr) (AA (AH 4) (B4 (Al (AG AM (AG AM (AA (AH 3) AB)))) AB)))))))))),?_⟩
  try dsimp only[A6,An]
  have g1:=rm.len;have g2:=rn.len;have g3:=rm.w1;have g4:=rn.w1
  have l1:mu.length=m.length:=Paired.length vm
  have l2:nu.length=n.length:=Paired.length vn
  have ewm:wd m=w1:=rm.wd
  have ewn:wd n=w2:=rn.wd
  have ft':(m.length=n.length∧w1=w2)∨(n.length=1∧w2=1)∨(m.length=1∧w1=1):=by
   rcases ft with⟨e1,e2⟩ | ⟨e1,e2⟩ | ⟨e1,e2⟩
   ·exact .inl ⟨e1,by rw[← ewm,← ewn];exact e2⟩
   ·exact .inr (.inl ⟨e1,by rw[← ewn];exact e2⟩)
   ·exact .inr (.inr ⟨e1,by rw[← ewm];exact e2⟩)
  obtain⟨h_,hh⟩:∃ h,h=max m.length n.length:=⟨_,rfl⟩
  obtain⟨w_,hw⟩:∃ w,w=max w1 w2:=⟨_,rfl⟩
  have eT:TQ v m n hm=CC (fun j k=>XD v (cy .none m j k) (cy .none n j k) hm) h_ w_:=by unfold TQ;rw[hh,hw,ewm,ewn]
  rw[eT]at k
  have cm:(mu.length=h_∧w1=w_)∨(mu.length=1∧w1=1):=by
   rcases ft' with h | h | h
   ·exact .inl ⟨by omega,by omega⟩
   ·exact .inl ⟨by omega,by omega⟩
   ·exact .inr ⟨by omega,by omega⟩
  have cn:(nu.length=h_∧w2=w_)∨(nu.length=1∧w2=1):=by
   rcases ft' with h | h | h
   ·exact .inl ⟨by omega,by omega⟩
   ·exact .inr ⟨by omega,by omega⟩
   ·exact .inl ⟨by omega,by omega⟩
  have rmu:=BE vm rm
  have rnu:=BE vn rn
  refine⟨_,rfl,x,mu,w1,rfl,hx,rmu,fun ra hra=>?_⟩
  have s1:=AI.new (o:=.tup [.int mu.length,.int w1]) hra
  have e1:upd H ra (.tup [.int mu.length,.int w1]) ra=some (.tup [.int mu.length,.int w1]):=AE
  generalize upd H ra (.tup [.int mu.length,.int w1])=H1 at *
  refine⟨_,rfl,y,nu,w2,rfl,hy.kp (Kp.same s1),rnu,fun rb hrb=>?_⟩
  have s2:=AI.new (o:=.tup [.int nu.length,.int w2]) hrb
  have e2:upd H1 rb (.tup [.int nu.length,.int w2]) rb=some (.tup [.int nu.length,.int w2]):=AE
  have e12:=s2 _ _ e1
  generalize upd H1 rb (.tup [.int nu.length,.int w2])=H2 at *
  refine⟨.ref ra,.ref rb,((mu.length:Int),(w1:Int)),((nu.length:Int),(w2:Int)),rfl,⟨ra,rfl,Af.of e12⟩,⟨rb,rfl,Af.of e2⟩,fun sh H3 hs3 s3=>?_⟩
  rw[l1,l2,Sk ft' g1 g3 g2 g4,← hh,← hw]at hs3
  have s13:=(s1.trans s2).trans s3
  have k13:=Kp.same s13
  have hu3:=hu_.kp k13
  have hz3:=hz.kp k13
  have spr:∀(tb:V) (mm:List (List V)) (vv:List (List Vl)) (ww:Nat) (Q':VK),Bk H3 tb mm→By H3 mm vv→Bp vv ww→((mm.length=h_∧ww=w_)∨(mm.length=1∧ww=1))→(∀ j k,XD v (cy .none m j k) (cy .none n j k) hm=cy .none vv j k)→(∀ x H',Bm H' x (CC (fun j k=>XD v (cy .none m j k) (cy .none n j k) hm) h_ w_)→AI H H'→Q' x H')→TF K [tb,sh] H3 Q' E:=fun tb mm vv ww Q' h1 h2 h3 h4 h5 h6=>
   ⟨tb,sh,mm,ww,h_,w_,rfl,h1,BE h2 h3,hs3,by omega,by omega,by omega,by omega,fun y' H' hy' s'=>h6 y' H' ⟨_,hy',Nt (By.kp h2 (Kp.same s')) h3 h4 h5⟩ (s13.trans s')⟩
  obtain⟨q,xs,rfl,hq,_⟩:=hu3.hd
  cases v with
  | flt wf zf rf cf=>
   refine⟨_,rfl,q,_,_,_,rfl,rfl,Af.of hq,Ag,rfl,true,(by show V.bl (decide (V.str (Str.ofString "fault")=vS "fault"))=_;nofun),Az ?_⟩
   exact⟨_,rfl,_,rfl,sh,.ref q,h_,w_,rfl,hs3,by omega,by omega,by omega,by omega,fun x' H' hx' s'=>k x' H' ⟨_,hx',Js (hu3.kp (Kp.same s')) fun _ _=>rfl⟩ (s13.trans s')⟩
  | none=>
   refine⟨_,rfl,q,_,_,_,rfl,rfl,Af.of hq,Ag,rfl,false,(by show V.bl (decide (V.str (Str.ofString "none")=vS "fault"))=_;nofun),Ah ?_⟩
   refine⟨_,rfl,q,_,_,_,rfl,rfl,Af.of hq,Ag,rfl,true,(by show V.bl (decide (V.str (Str.ofString "none")=vS "none"))=_;nofun),Az ?_⟩
   exact⟨_,rfl,_,rfl,spr y nu n w2 Q (hy.kp k13) (By.kp vn k13) rn cn (fun _ _=>rfl) k⟩
  | tru b=>
   have hq':H3 q=some (.tup [vS "truth",.bl b]):=by obtain⟨_,e,h⟩:=hu3;cases e;exact h
   refine⟨_,rfl,q,_,_,_,rfl,rfl,Af.of hq,Ag,rfl,false,(by show V.bl (decide (V.str (Str.ofString "truth")=vS "fault"))=_;nofun),Ah ?_⟩
   refine⟨_,rfl,q,_,_,_,rfl,rfl,Af.of hq,Ag,rfl,false,(by show V.bl (decide (V.str (Str.ofString "truth")=vS "none"))=_;nofun),Ah ?_⟩
   refine⟨_,rfl,q,_,_,_,rfl,rfl,Af.of hq,Ag,rfl,true,(by show V.bl (decide (V.str (Str.ofString "truth")=vS "truth"))=_;nofun),Az ?_⟩
   refine⟨_,rfl,q,_,_,_,rfl,rfl,Af.of hq',rfl,b,rfl,?_⟩
   cases b with
   | true=>exact Az ⟨_,rfl,_,rfl,spr x mu m w1 Q (hx.kp k13) (By.kp vm k13) rm cm (fun _ _=>rfl) k⟩
   | false=>exact Ah ⟨_,rfl,_,rfl,spr y nu n w2 Q (hy.kp k13) (By.kp vn k13) rn cn (fun _ _=>rfl) k⟩
  | num t b=>
   refine⟨_,rfl,q,_,_,_,rfl,rfl,Af.of hq,Ag,rfl,false,(by show V.bl (decide (V.str (Str.ofString "number")=vS "fault"))=_;nofun),Ah ?_⟩
   refine⟨_,rfl,q,_,_,_,rfl,rfl,Af.of hq,Ag,rfl,false,(by show V.bl (decide (V.str (Str.ofString "number")=vS "none"))=_;nofun),Ah ?_⟩
   refine⟨_,rfl,q,_,_,_,rfl,rfl,Af.of hq,Ag,rfl,false,(by show V.bl (decide (V.str (Str.ofString "number")=vS "truth"))=_;nofun),Ah ?_⟩
   refine⟨_,rfl,_,rfl,As,fun qf hqf=>?_⟩
   exact⟨sh,.ref qf,h_,w_,rfl,IE.same hs3 (AI.new hqf),by omega,by omega,by omega,by omega,fun x' H' hx' s'=>k x' H' ⟨_,hx',Js ((hz3.flt hqf).kp (Kp.same s')) fun _ _=>rfl⟩ ((s13.trans (AI.new hqf)).trans s')⟩
  | txt z'=>
   refine⟨_,rfl,q,_,_,_,rfl,rfl,Af.of hq,Ag,rfl,false,(by show V.bl (decide (V.str (Str.ofString "text")=vS "fault"))=_;nofun),Ah ?_⟩
   refine⟨_,rfl,q,_,_,_,rfl,rfl,Af.of hq,Ag,rfl,false,(by show V.bl (decide (V.str (Str.ofString "text")=vS "none"))=_;nofun),Ah ?_⟩
   refine⟨_,rfl,q,_,_,_,rfl,rfl,Af.of hq,Ag,rfl,false,(by show V.bl (decide (V.str (Str.ofString "text")=vS "truth"))=_;nofun),Ah ?_⟩
   refine⟨_,rfl,_,rfl,As,fun qf hqf=>?_⟩
   exact⟨sh,.ref qf,h_,w_,rfl,IE.same hs3 (AI.new hqf),by omega,by omega,by omega,by omega,fun x' H' hx' s'=>k x' H' ⟨_,hx',Js ((hz3.flt hqf).kp (Kp.same s')) fun _ _=>rfl⟩ ((s13.trans (AI.new hqf)).trans s')⟩
theorem Ip:AW ["values","wide"] ["values","wide"] (AL DV):=A9
theorem DJ (T:Txt w K mg t):Av P w K mg base Bj 1 t.cf t.cg ["values","wide"] WT:=by
 have D:=T.fv
 refine D.fn.okX Ip ?_ (fun cdv A outer s H vs Q E hr h Z hZ=>?_)
 ·rintro _ _ _ _ ⟨l,us,w_,h_,rfl,_⟩
  rfl
 ·obtain⟨l,us,w_,h_,rfl,hl,hlen,w1,w2,h2,k⟩:=h
  refine hZ ⟨_,((AF (AJ (Bw CT (by rfl) T.g5 Bc (CJ (Bu (fv:=["values","wide"]) (js:=[0,1]) (cl:=[("wide",s.heap.objs.size+2),("values",s.heap.objs.size+1)]) rfl (by with_unfolding_all rfl) ⟨rfl,by nofun,by nofun,rfl,by nofun,by nofun,(List.forall_mem_cons.mpr ⟨⟨rfl,rfl,rfl⟩,(List.forall_mem_cons.mpr ⟨⟨rfl,rfl,rfl⟩,(List.forall_mem_nil _)⟩)⟩),(List.forall_mem_cons.mpr ⟨rfl,(List.forall_mem_cons.mpr ⟨rfl,(List.forall_mem_nil _)⟩)⟩),(.cons rfl (.cons rfl .nil))⟩ (PM rfl T.g0 (AG AC (Ai (AT Ab (by rfl) T.gz PySem.boot_len (AA (AH 0) AB)) (AA (AH 1) AB)))) (fun _ _ _ _ _=>CI) (fun _ _ _ _ _=>(Bw Jg (by rfl) T.g5 Bc (AS (JS Qi (AH 1) (I0 (AH 0)) (I0 (AY A0 (AH 0) (AH 2)))) AB)))) AB))))),?_⟩
  try dsimp only[A6,An]
  have hlen2:h_*w_≤10000:=Nat.mul_le_mul h2 w2
  refine⟨_,rfl,l,us,rfl,.inl (Ax.of hl),_,rfl,_,_,rfl,⟨by omega,by omega,by omega,by omega⟩,fun D hD=>?_⟩
  rw[hlen,Pg w1]
  have sD:∀ o,AI H (upd H D o):=fun o=>AI.new hD
  refine⟨fun i m H4=>m=h_-i∧i≤h_∧∃ qs,H4 D=some (.lst qs)∧qs.length=i∧Paired (SS H4) qs ((Dz us w_ h_).take i)∧AI H H4,⟨h_,rfl,Nat.zero_le _,[],AE,rfl,.nil,sD _⟩,?_⟩
  rintro i m H4 ⟨rfl,hi,qs,hq4,hql,pr4,s4⟩
  by_cases hlt:i<h_
  ·refine .inr ⟨hlt,fun x H' y=>?_⟩
   obtain⟨rfl,rfl⟩:=y
   have hiw:i*w_+w_≤us.length:=by
    rw[hlen]
    have:(i+1)*w_≤h_*w_:=Nat.mul_le_mul_right w_ hlt
    rw[Nat.succ_mul]at this
    omega
   have ec:Gg us (some ((i:Int)*(w_:Int))) (some ((i:Int)*(w_:Int)+(w_:Int)))=(us.drop (i*w_)).take w_:=by
    have:=RC (xs:=us) (i:=i*w_) (j:=w_) hiw
    rw[Int.natCast_mul]at this
    exact this
   refine⟨_,rfl,_,rfl,_,rfl,_,rfl,_,rfl,_,_,rfl,rfl,_,rfl,l,us,rfl,Ax.of (s4 _ _ hl),fun d hd=>?_⟩
   rw[ec]
   refine⟨d,_,rfl,.inl ⟨Ax.of AE,fun q hq=>?_⟩⟩
   have s5:=(AI.new (o:=.lst ((us.drop (i*w_)).take w_)) hd).trans (AI.new (o:=.tup ((us.drop (i*w_)).take w_)) hq)
   have hqq:upd (upd H' d (.lst ((us.drop (i*w_)).take w_))) q (.tup ((us.drop (i*w_)).take w_)) q=some (.tup ((us.drop (i*w_)).take w_)):=AE
   generalize upd (upd H' d (.lst ((us.drop (i*w_)).take w_))) q (.tup ((us.drop (i*w_)).take w_))=H5 at *
   have hD5:=s5 _ _ hq4
   have kd:∀ o,Kp H5 (upd H5 D o):=fun o=>Kp.lst hD5 Aw.upd
   refine⟨qs,hD5,B5 (by omega),h_-(i+1),(by omega),rfl,hlt,qs++[.ref q],AE,(by rw[List.length_append,hql];rfl),?_,fun b o e=>?_⟩
   ·rw[List.take_add_one,Pf hlt]
    exact Dx (Paired.imp' (fun _ _ ⟨c,e,y⟩=>⟨c,e,kd _ _ _ (s5 _ _ y)⟩) pr4) ⟨q,rfl,kd _ _ _ hqq⟩
   ·rw[AX (AZ e hD)]
    exact s5 _ _ (s4 _ _ e)
  ·have ei:i=h_:=by omega
   subst ei
   refine .inl ⟨Nat.le_refl _,D,qs,rfl,.inl ⟨Ax.of hq4,fun p hp=>k _ _ ⟨p,qs,rfl,AE,?_⟩ (s4.trans (AI.new hp))⟩⟩
   rw[List.take_of_length_le (Nat.le_of_eq Pe)]at pr4
   exact Paired.imp' (fun _ _ ⟨c,e,y⟩=>⟨c,e,AI.new hp _ _ y⟩) pr4
theorem ER:AW ["table","columns","place"] ["table"] (AL EH):=A9
theorem Iq (T:Txt w K mg t):Av P w K mg base Bj 1 t.ch t.ci ["table"] XG:=by
 have D:=T.fw
 refine D.fn.okX ER ?_ (fun cdv A outer s H vs Q E hr h Z hZ=>?_)
 ·rintro _ _ _ _ ⟨x,m,w_,rfl,_⟩
  rfl
 ·obtain⟨x,m,w_,rfl,⟨b,us,rfl,hb,pr⟩,rc,w30,m30,k⟩:=h
  refine hZ ⟨_,((AD (Ac (i:=1) ER.nd rfl (Or.inl rfl) (Bq AB))
   (AD (B0 PassesOwn.never rfl (DE rfl T.g0 (Ai (AT Ab (by rfl) T.gz PySem.boot_len (AS (AK AO (AH 0) AC (fun _ _=>rfl)) AB)) AB)) (BA (i:=2) ER.nd rfl (Or.inr rfl))
   (AF (Dk (G8 PySem.F.plainAttrs_list PySem.F.slot_list_append PySem.F.type_list_append B7 (AH 1) (Ai (Bw CT (by rfl) T.g5 Bc (CJ (Bu (fv:=["place"]) (js:=[2]) (cl:=[("place",s.heap.objs.size+1)]) rfl (by with_unfolding_all rfl) ⟨rfl,by nofun,by nofun,rfl,by nofun,by nofun,(List.forall_mem_cons.mpr ⟨⟨rfl,rfl,rfl⟩,(List.forall_mem_nil _)⟩),(List.forall_mem_cons.mpr ⟨rfl,(List.forall_mem_nil _)⟩),(.cons rfl .nil)⟩ (Fj (AH 0)) (fun _ _ _ _ _=>CI) (fun _ _ _ _ _=>(AK Dn (AH 0) (AH 1) (fun _ _=>rfl)))) AB)) AB)))))
   (AF (AJ (Bw CT (by rfl) T.g5 Bc (AA (AH 1) AB))))))),?_⟩
  try dsimp only[A6,An]
  have ul:us.length=m.length:=Paired.length pr
  have hm1:=rc.len
  obtain⟨r0,rt,e0⟩:=CF (l:=m) hm1
  obtain⟨u0,ut,e1⟩:=CF (l:=us) (by omega)
  obtain⟨b0,rfl,hb0⟩:∃ b0,u0=.ref b0∧H b0=some (.tup r0):=by
   rw[e0,e1]at pr
   cases pr with | cons h _=>exact h
  have l0:r0.length=w_:=rc.row r0 (by rw[e0];simp)
  refine⟨Nat.zero_le _,fun lc hlc=>?_⟩
  have s1:=AI.new (o:=.lst []) hlc
  have hc1:upd H lc (.lst []) lc=some (.lst []):=AE
  generalize upd H lc (.lst [])=H1 at *
  refine⟨_,rfl,b,_,_,_,rfl,rfl,Af.of (s1 _ _ hb),(by rw[e1];exact Ag),b0,_,rfl,.inr (Af.of (s1 _ _ hb0)),_,rfl,(by omega),(by omega),?_⟩
  rw[show((r0.length:Nat):Int).toNat=w_ by omega]
  refine GK (fun j σ H5=>∃ x2 vs,σ=[some (.ref b),some (.ref lc),x2]∧H5 lc=some (.lst vs)∧Paired (SS H5) vs (CC (fun j k=>cy .non m k j) j m.length)∧AI H H5) ⟨none,[],rfl,hc1,.nil,s1⟩ ?_ ?_
  ·rintro j σ H5 hj ⟨x2,vs,rfl,hc5,pr5,s5⟩
   have vl:vs.length=j:=(Paired.length pr5).trans Cu
   refine⟨_,rfl,.inl ⟨rfl,_,Ax.of hc5⟩,?_⟩
   refine⟨_,rfl,b,rfl,⟨_,Af.of (s5 _ _ hb)⟩,fun D hD=>?_⟩
   refine⟨fun e mm H6=>mm=m.length-e∧e≤m.length∧H6 D=some (.lst ((List.range e).map fun k=>cy .non m k j))∧AI H5 H6,⟨m.length,rfl,Nat.zero_le _,AE,AI.new hD⟩,?_⟩
   rintro e mm H6 ⟨rfl,he,hD6,s6⟩
   have hb6:=s6 _ _ (s5 _ _ hb)
   by_cases hlt:e<m.length
   ·have hx:us[e]?=some us[e]:=List.getElem?_eq_getElem (by omega)
    obtain⟨r,hr',be,hbe,hre⟩:=Ar pr hx
    rw[hbe]at hx
    refine .inr ⟨⟨_,_,Af.of hb6,hx⟩,fun x' H7 y=>?_⟩
    obtain⟨e4,y⟩:=y
    subst e4
    have hx':=y _ (Af.of hb6)
    rw[hx]at hx'
    cases hx'
    refine⟨_,rfl,_,rfl,be,_,_,_,rfl,rfl,Af.of (s6 _ _ (s5 _ _ hre)),(by rw[Int.zero_add];exact DK (XF (d:=.non) rc hr' hj)),?_⟩
    refine⟨_,hD6,B5 (by rw[List.length_map,List.length_range];omega),m.length-(e+1),(by omega),rfl,hlt,?_,fun b' o e'=>by rw[AX (AZ e' hD)];exact s6 _ _ e'⟩
    rw[AE,List.range_succ,List.map_append];rfl
   ·have ee:e=m.length:=by omega
    subst ee
    refine .inl ⟨⟨_,Af.of hb6,by omega⟩,D,_,rfl,.inl ⟨Ax.of hD6,fun q hq=>?_⟩⟩
    have s7:=AI.new (o:=.tup ((List.range m.length).map fun k=>cy .non m k j)) hq
    have hq7:upd H6 q (.tup ((List.range m.length).map fun k=>cy .non m k j)) q=some (.tup ((List.range m.length).map fun k=>cy .non m k j)):=AE
    generalize upd H6 q (.tup ((List.range m.length).map fun k=>cy .non m k j))=H7 at *
    have hc7:=s7 _ _ (s6 _ _ hc5)
    have s57:=s6.trans s7
    refine⟨lc,vs,_,rfl,rfl,hc7,B5 (by omega),_,vs++[.ref q],rfl,AE,?_,fun b' o e'=>by rw[AX (AZ e' hlc)];exact s57 _ _ (s5 _ _ e')⟩
    rw[LJ]
    have kd:=CQ (vs:=vs++[.ref q]) hc7
    exact Dx (Paired.imp' (fun _ _ ⟨c,e,y⟩=>⟨c,e,kd _ _ (s57 _ _ y)⟩) pr5) ⟨q,rfl,kd _ _ hq7⟩
  ·rintro σ H5 ⟨x2,vs,rfl,hc5,pr5,s5⟩
   refine⟨_,rfl,lc,vs,rfl,.inl ⟨Ax.of hc5,fun q hq=>?_⟩⟩
   refine k _ _ ⟨q,vs,rfl,AE,?_⟩ (s5.trans (AI.new hq))
   exact Paired.imp' (fun _ _ ⟨c,e,y⟩=>⟨c,e,AI.new hq _ _ y⟩) pr5
theorem DB:AW ["sign","one","other","cell","shape","lefts","rights"] ["sign","one","other","cell"] (AL EI):=A9
theorem Fc (T:Txt w K mg t):Av P w K mg base Bj 7 t.cj t.ck ["sign","one","other","cell"] (TH K):=by
 have D:=T.fx
 refine D.fn.okX DB ?_ (fun cdv A outer s H vs Q E hr h Z hZ=>?_)
 ·rintro _ _ _ _ ⟨s_,x,y,z,m,n,w1,w2,h_,w_,hm,rs,rfl,_⟩
  rfl
 ·obtain⟨s_,x,y,z,m,n,w1,w2,h_,w_,hm,rs,rfl,hx,hy,r1,r2,hf,l1,q1,l2,q2,h1,h30,ww1,w30,hz,lrs,hsg,k⟩:=h
  refine hZ ⟨_,((AD (Ac (i:=4) DB.nd rfl (Or.inl rfl) (AR T.fg (Fb T) (BB hr) (Ai (AR T.ff (CM T) (BB hr) (AA (AH 1) AB)) (Ai (AR T.ff (CM T) (BB hr) (AA (AH 2) AB)) AB))))
   (AD (Ac (i:=5) DB.nd rfl (Or.inl rfl) (AR T.fj (B1 T) (BB hr) (Ai (AR T.fi (CZ T) (BB hr) (AA (AH 1) (AA (AH 4) AB))) AB)))
   (AD (Ac (i:=6) DB.nd rfl (Or.inl rfl) (AR T.fj (B1 T) (BB hr) (Ai (AR T.fi (CZ T) (BB hr) (AA (AH 2) (AA (AH 4) AB))) AB)))
   (AF (AJ (AR T.fv (DJ T) (BB hr) (CJ (QT (x:="left") (y:="right") (fv:=["sign","cell"]) (js:=[0,3]) (cl:=[("sign",s.heap.objs.size+1),("cell",s.heap.objs.size+2)]) rfl (by with_unfolding_all rfl) ⟨⟨rfl,by nofun,by nofun,rfl,by nofun,by nofun,(List.forall_mem_cons.mpr ⟨⟨rfl,rfl,rfl⟩,(List.forall_mem_cons.mpr ⟨⟨rfl,rfl,rfl⟩,(List.forall_mem_nil _)⟩)⟩),(List.forall_mem_cons.mpr ⟨rfl,(List.forall_mem_cons.mpr ⟨rfl,(List.forall_mem_nil _)⟩)⟩),(.cons rfl (.cons rfl .nil))⟩,rfl,by nofun⟩ (OH rfl T.hc RI (AA (AH 5) (AA (AH 6) AB))) (fun _ _ _ _ _=>CI) (fun _ _ _ _ _=>(AR T.fe (GP T) (BB hr) (AA (AH 2) (AA (AH 0) (AA (AH 1) (AA (AH 3) AB))))))) (AS (AK AO (AH 4) AC (fun _ _=>rfl)) AB))))))))),?_⟩
  try dsimp only[A6,An]
  refine⟨_,rfl,x,m,w1,rfl,hx,r1,fun ra hra=>?_⟩
  have s1:=AI.new (o:=.tup [.int m.length,.int w1]) hra
  have e1:upd H ra (.tup [.int m.length,.int w1]) ra=some (.tup [.int m.length,.int w1]):=AE
  generalize upd H ra (.tup [.int m.length,.int w1])=H1 at *
  refine⟨_,rfl,y,n,w2,rfl,hy.kp (Kp.same s1),r2,fun rb hrb=>?_⟩
  have s2:=AI.new (o:=.tup [.int n.length,.int w2]) hrb
  have e2:upd H1 rb (.tup [.int n.length,.int w2]) rb=some (.tup [.int n.length,.int w2]):=AE
  have e12:=s2 _ _ e1
  generalize upd H1 rb (.tup [.int n.length,.int w2])=H2 at *
  refine⟨.ref ra,.ref rb,((m.length:Int),(w1:Int)),((n.length:Int),(w2:Int)),rfl,⟨ra,rfl,Af.of e12⟩,⟨rb,rfl,Af.of e2⟩,fun sh H3 hs3 s3=>?_⟩
  rw[hf]at hs3
  have s13:=(s1.trans s2).trans s3
  refine⟨_,rfl,_,rfl,x,sh,m,w1,h_,w_,rfl,hx.kp (Kp.same s13),r1,hs3,h1,(by omega),ww1,(by omega),fun t1 H4 ht4 s4=>?_⟩
  refine⟨t1,_,w_,rfl,ht4,q1,(by omega),(by omega),fun la H5 hla0 hla s5=>?_⟩
  have s15:=(s13.trans s4).trans s5
  refine⟨_,rfl,_,rfl,y,sh,n,w2,h_,w_,rfl,hy.kp (Kp.same s15),r2,IE.same hs3 (s4.trans s5),h1,(by omega),ww1,(by omega),fun t2 H6 ht6 s6=>?_⟩
  refine⟨t2,_,w_,rfl,ht6,q2,(by omega),(by omega),fun lb H7 hlb0 hlb s7=>?_⟩
  have s57:=s6.trans s7
  have s17:=s15.trans s57
  have la7:=s57 _ _ hla
  have lu:(GS m w1 h_ w_).flatten.length=h_*w_:=by rw[CL q1.row,l1]
  have lu2:(GS n w2 h_ w_).flatten.length=h_*w_:=by rw[CL q2.row,l2]
  generalize (GS m w1 h_ w_).flatten=us at *
  generalize (GS n w2 h_ w_).flatten=us2 at *
  have hw900:h_*w_≤30*30:=Nat.mul_le_mul h30 w30
  refine⟨_,rfl,_,rfl,la,lb,rfl,⟨_,Ax.of la7⟩,⟨_,Ax.of hlb⟩,fun D hD=>?_⟩
  have hz7:=hz.kp (Kp.same s17)
  refine⟨fun i mm H8=>mm=h_*w_-i∧i≤h_*w_∧∃ vs,H8 D=some (.lst vs)∧Br H8 vs (rs.take i)∧vs.length=i∧AI H7 H8,⟨h_*w_,rfl,Nat.zero_le _,[],AE,.nil,rfl,AI.new hD⟩,?_⟩
  rintro i mm H8 ⟨rfl,hi,vs,hD8,vs8,len8,s8⟩
  by_cases hlt:i<h_*w_
  ·have ha:us[i]?=some (us[i]'(by omega)):=List.getElem?_eq_getElem (by omega)
   have hb:us2[i]?=some (us2[i]'(by omega)):=List.getElem?_eq_getElem (by omega)
   have hr1:rs[i]?=some (rs[i]'(by omega)):=List.getElem?_eq_getElem (by omega)
   have sgi:=hsg i _ _ _ ha hb hr1
   refine .inr ⟨⟨_,_,_,_,Ax.of (s8 _ _ la7),Ax.of (s8 _ _ hlb),ha,hb⟩,fun v H9 o1' o2' yl=>?_⟩
   obtain⟨x0,y0,bb,y1,y2,hbb,rfl,rfl⟩:=yl
   have ex:=(y1 _ (Ax.of (s8 _ _ la7))).symm.trans ha
   have ey:=(y2 _ (Ax.of (s8 _ _ hlb))).symm.trans hb
   cases ex;cases ey
   have s9:=AI.new (o:=.tup [us[i]'(by omega),us2[i]'(by omega)]) hbb
   have e9:upd H8 bb (.tup [us[i]'(by omega),us2[i]'(by omega)]) bb=some (.tup [us[i]'(by omega),us2[i]'(by omega)]):=AE
   generalize upd H8 bb (.tup [us[i]'(by omega),us2[i]'(by omega)])=H9 at *
   have k89:=Kp.same (s8.trans s9)
   refine⟨bb,_,rfl,Af.of e9,rfl,_,_,rfl,_,_,rfl,rfl,⟨_,_,rfl⟩,?_⟩
   refine⟨_,rfl,_,rfl,_,rfl,_,rfl,s_,_,_,z,_,hm,rfl,sgi.kp ((Kp.same s17).trans k89),hz7.kp k89,fun ux H10 hx10 s10=>?_⟩
   have hD10:=s10 _ _ (s9 _ _ hD8)
   refine⟨vs,hD10,B5 (by omega),h_*w_-(i+1),(by omega),rfl,hlt,vs++[ux],AE,?_,(by rw[List.length_append,len8];rfl),fun b' o e=>?_⟩
   ·rw[List.take_add_one,hr1]
    exact Dx (Br.kp vs8 ((Kp.same (s9.trans s10)).trans (CQ hD10))) (hx10.kp (CQ hD10))
   ·rw[AX (AZ e hD)];exact s10 _ _ (s9 _ _ (s8 _ _ e))
  ·have ei:i=h_*w_:=by omega
   subst ei
   refine .inl ⟨⟨_,_,Ax.of (s8 _ _ la7),Ax.of (s8 _ _ hlb),.inl (by omega)⟩,?_⟩
   have s38:=((s4.trans s5).trans s57).trans s8
   obtain⟨sa,rfl,hsa⟩:=IE.same hs3 s38
   rw[List.take_of_length_le (by omega)]at vs8
   refine⟨_,rfl,sa,_,_,_,rfl,rfl,hsa,rfl,D,vs,w_,h_,rfl,hD8,len8,ww1,(by omega),(by omega),fun u H' hu' s'=>?_⟩
   exact k u H' ⟨_,hu',FE (Br.kp vs8 (Kp.same s'))⟩ ((s17.trans s8).trans s')
theorem Hj:AW ["high","wide","first","step","cell","steps"] ["high","wide","first","step","cell"] (AL FN):=A9
theorem Kg (T:Txt w K mg t):Av P w K mg base Bj 7 t.cl t.cm ["high","wide","first","step","cell"] (XH K):=by
 have D:=T.fy
 refine D.fn.okX Hj ?_ (fun cdv A outer s H vs Q E hr h Z hZ=>?_)
 ·rintro _ _ _ _ ⟨h_,w_,u,v,y,a,b,hm,rfl,_⟩
  rfl
 ·obtain⟨h_,w_,u,v,y,a,b,hm,rfl,h1,h16,w1,w8,hu_,hv_,oa,ob,hy,ho,k⟩:=h
  refine hZ ⟨_,((AD (R7 (i:=5) Hj.nd rfl rfl (fv:=["step","cell"]) (js:=[3,4]) (cl:=[("step",s.heap.objs.size+2),("cell",s.heap.objs.size+3)]) rfl (by with_unfolding_all rfl) ⟨rfl,by nofun,by nofun,rfl,by nofun,by nofun,(List.forall_mem_cons.mpr ⟨⟨rfl,rfl,rfl⟩,(List.forall_mem_cons.mpr ⟨⟨rfl,rfl,rfl⟩,(List.forall_mem_nil _)⟩)⟩),(List.forall_mem_cons.mpr ⟨rfl,(List.forall_mem_cons.mpr ⟨rfl,(List.forall_mem_nil _)⟩)⟩),(.cons rfl (.cons rfl .nil))⟩ (DE rfl T.g0 (AV (AY BQ (AH 0) (AH 1)) AB)) (fun _ _ _ _ _=>CI) (fun _ _ _ _ _=>(AR T.fe (GP T) (BB hr) (AG AM (AA (AH 1) (B4 (Al (AG AM (AA (AH 0) (AG AC AB)))) (AA (AH 2) AB)))))))
   (AF (AJ (AR T.fv (DJ T) (BB hr) (CJ (Bu (fv:=["first","cell"]) (js:=[2,4]) (cl:=[("first",s.heap.objs.size+1),("cell",s.heap.objs.size+3)]) rfl (by with_unfolding_all rfl) ⟨rfl,by nofun,by nofun,rfl,by nofun,by nofun,(List.forall_mem_cons.mpr ⟨⟨rfl,rfl,rfl⟩,(List.forall_mem_cons.mpr ⟨⟨rfl,rfl,rfl⟩,(List.forall_mem_nil _)⟩)⟩),(List.forall_mem_cons.mpr ⟨rfl,(List.forall_mem_cons.mpr ⟨rfl,(List.forall_mem_nil _)⟩)⟩),(.cons rfl (.cons rfl .nil))⟩ (Dl (AH 5)) (fun _ _ _ _ _=>CI) (fun _ _ _ _ _=>(AR T.fe (GP T) (BB hr) (AG AM (AA (AH 1) (AA (AH 0) (AA (AH 2) AB))))))) (AA (AH 1) AB))))))),?_⟩
  try dsimp only[A6,An]
  have hhw:h_*w_≤16*8:=Nat.mul_le_mul h16 w8
  have ehw:((h_:Int)*(w_:Int))=((h_*w_:Nat):Int):=(Int.natCast_mul _ _).symm
  refine⟨_,rfl,_,rfl,_,_,rfl,rfl,⟨A5 (by omega) (by omega),A5 (by omega) (by omega)⟩,_,rfl,(by rw[ehw];omega),(by rw[ehw];omega),fun D hD=>?_⟩
  rw[ehw,Int.toNat_natCast]
  generalize eN:h_*w_=N at *
  refine⟨fun e mm H5=>mm=N-e∧e≤N∧∃ us,H5 D=some (.lst us)∧Br H5 us ((List.range e).map fun(i:Nat)=>Mq (Str.ofString "*") b (.num (i:Int) 1) hm)∧AI H H5,⟨N,rfl,Nat.zero_le _,[],AE,.nil,AI.new hD⟩,?_⟩
  rintro e mm H5 ⟨rfl,he,us,hD5,vs5,s5⟩
  have ul:us.length=e:=(Paired.length vs5).trans (by rw[List.length_map,List.length_range])
  by_cases hlt:e<N
  ·refine .inr ⟨hlt,fun x H6 yy=>?_⟩
   obtain⟨e6,rfl⟩:=yy
   subst e6
   refine⟨_,rfl,_,rfl,As,fun q hq=>?_⟩
   rw[Int.zero_add]
   have s6:=AI.new (o:=.tup [vS "number",.int (e:Int),.int 1]) hq
   have hq6:BD (upd H6 q (.tup [vS "number",.int (e:Int),.int 1])) (.ref q) (.num (e:Int) 1):=⟨q,rfl,AE⟩
   generalize upd H6 q (.tup [vS "number",.int (e:Int),.int 1])=H7 at *
   have s7:=s5.trans s6
   refine⟨_,rfl,Str.ofString "*",v,.ref q,y,_,hm,rfl,.inl ⟨b,.num (e:Int) 1,hv_.kp (Kp.same s7),hq6,ob,Gk (by have:=SY;omega),rfl⟩,hy.kp (Kp.same s7),fun z H8 hz s8=>?_⟩
   have hD8:=s8 _ _ (s6 _ _ hD5)
   have kd:=CQ (vs:=us++[z]) hD8
   refine⟨us,hD8,B5 (by omega),N-(e+1),(by omega),rfl,hlt,us++[z],AE,?_,fun b' o e'=>by rw[AX (AZ e' hD)];exact s8 _ _ (s7 _ _ e')⟩
   rw[List.range_succ,List.map_append]
   exact Dx (Br.kp vs5 ((Kp.same (s6.trans s8)).trans kd)) (hz.kp kd)
  ·have ee:e=N:=by omega
   subst ee
   refine .inl ⟨Nat.le_refl _,?_⟩
   refine⟨_,rfl,D,rfl,⟨_,Ax.of hD5⟩,fun D2 hD2=>?_⟩
   refine⟨fun i mm H6=>mm=e-i∧i≤e∧∃ ws,H6 D2=some (.lst ws)∧Br H6 ws ((List.range i).map (VR a b hm))∧AI H5 H6,⟨e,rfl,Nat.zero_le _,[],AE,.nil,AI.new hD2⟩,?_⟩
   rintro i mm H6 ⟨rfl,hi,ws,hD6,vs6,s6⟩
   have wl:ws.length=i:=(Paired.length vs6).trans (by rw[List.length_map,List.length_range])
   by_cases hlt2:i<e
   ·have hx:us[i]?=some us[i]:=List.getElem?_eq_getElem (by omega)
    refine .inr ⟨⟨_,_,Ax.of (s6 _ _ hD5),hx⟩,fun x' H7 yy=>?_⟩
    obtain⟨e4,yy⟩:=yy
    subst e4
    have hx':=yy _ (Ax.of (s6 _ _ hD5))
    rw[hx]at hx'
    cases hx'
    obtain⟨v1,hv1,pv1⟩:=Ar vs5 hx
    rw[List.getElem?_map,List.getElem?_range hlt2]at hv1
    cases hv1
    have s57:=s5.trans s6
    refine⟨_,rfl,_,rfl,_,rfl,Str.ofString "+",u,us[i],y,_,hm,rfl,.inl ⟨a,_,hu_.kp (Kp.same s57),pv1.kp (Kp.same s6),oa,Ls ob (Gk (by have:=SY;omega)) ho,rfl⟩,hy.kp (Kp.same s57),fun z H8 hz s8=>?_⟩
    have hD8:=s8 _ _ hD6
    have kd:=CQ (vs:=ws++[z]) hD8
    refine⟨ws,hD8,B5 (by omega),e-(i+1),(by omega),rfl,hlt2,ws++[z],AE,?_,fun b' o e'=>by rw[AX (AZ e' hD2)];exact s8 _ _ (s6 _ _ e')⟩
    rw[List.range_succ,List.map_append]
    exact Dx (Br.kp vs6 ((Kp.same s8).trans kd)) (hz.kp kd)
   ·have ei:i=e:=by omega
    subst ei
    refine .inl ⟨⟨_,Ax.of (s6 _ _ hD5),by omega⟩,_,rfl,D2,ws,w_,h_,rfl,hD6,(by omega),w1,(by omega),(by omega),fun x H7 hx s7=>?_⟩
    refine k x H7 ⟨_,hx,?_⟩ ((s5.trans s6).trans s7)
    rw[← Pq w1]
    exact FE (by rw[eN];exact Br.kp vs6 (Kp.same s7))
theorem FR:AW ["block","cells","row","column"] ["block"] (AL Gs):=A9
theorem M9 (T:Txt w K mg t):Av P w K mg base Bj 1 t.cn t.co ["block"] Yi:=by
 have D:=T.fz
 refine D.fn.okX FR ?_ (fun cdv A outer s H vs Q E hr h Z hZ=>?_)
 ·rintro _ _ _ _ ⟨p,z,r,c,r2,c2,rfl,_⟩
  rfl
 ·obtain⟨p,z,r,c,r2,c2,rfl,hp,k⟩:=h
  refine hZ ⟨_,((AD (Ac (i:=1) FR.nd rfl (Or.inl rfl) (Bq AB))
   (AD (B0 PassesOwn.never rfl (Ko rfl T.g0 (AS (AK AO (AH 0) AC (fun _ _=>rfl)) (AV (AY A0 (AK AO (AH 0) AC (fun _ _=>rfl)) AC) AB))) (BA (i:=2) FR.nd rfl (Or.inl rfl))
   (AF (B0 PassesOwn.never rfl (Ko rfl T.g0 (AS (AK AO (AH 0) AC (fun _ _=>rfl)) (AV (AY A0 (AK AO (AH 0) AC (fun _ _=>rfl)) AC) AB))) (BA (i:=3) FR.nd rfl (Or.inl rfl))
   (AF (Dk (G8 PySem.F.plainAttrs_list PySem.F.slot_list_append PySem.F.type_list_append B7 (AH 1) (B4 (Al (AS (AK AO (AH 0) AC (fun _ _=>rfl)) (AA (AH 2) (AA (AH 3) AB)))) AB)))))))
   (AF (AJ (AH 1)))))),?_⟩
  try dsimp only[A6,An]
  have g1:=hp.r1;have g2:=hp.r16;have g3:=hp.c1;have g4:=hp.c8;have g5:=hp.r0;have g6:=hp.c0
  have hw:(c2+1-c).toNat=(c2-c+1).toNat:=by omega
  have hh:(r2+1-r).toNat=(r2-r+1).toNat:=by omega
  generalize hwd:(c2-c+1).toNat=w at hw k
  generalize hhd:(r2-r+1).toNat=hgt at hh k
  have hw1:1≤w:=by omega
  have hw8:w≤8:=by omega
  have hh16:hgt≤16:=by omega
  have ew:c2-c+1=(w:Int):=by omega
  have eh:r2-r+1=(hgt:Int):=by omega
  clear hwd hhd
  refine⟨Nat.zero_le _,fun l hl=>?_⟩
  have npl:p≠l:=AZ hp.ob hl
  refine⟨_,rfl,p,_,_,_,rfl,rfl,Af.of (AI.new hl _ _ hp.ob),rfl,_,rfl,p,_,_,_,rfl,rfl,Af.of (AI.new hl _ _ hp.ob),rfl,_,_,rfl,rfl,_,_,rfl,⟨by clear hw hh;omega,by clear hw hh;omega,by clear hw hh;omega,by clear hw hh;omega⟩,?_⟩
  rw[hh]
  refine GK (fun i σ H2=>∃ x2 x3,σ=[some (.ref p),some (.ref l),x2,x3]∧AI H H2∧PY H2 l z r c w (i*w)) ⟨_,_,rfl,AI.new hl,⟨[],AE,by simp,fun k v e=>by simp at e⟩⟩ ?_ ?_
  ·rintro i σ H2 hi ⟨x2,x3,rfl,s2,cs2⟩
   have hp2:=hp.same s2
   refine⟨_,rfl,p,_,_,_,rfl,rfl,Af.of hp2.ob,rfl,_,rfl,p,_,_,_,rfl,rfl,Af.of hp2.ob,rfl,_,_,rfl,rfl,_,_,rfl,⟨by clear hw hh;omega,by clear hw hh;omega,by clear hw hh;omega,by clear hw hh;omega⟩,?_⟩
   rw[hw]
   refine GK (fun j σ H3=>∃ x3,σ=[some (.ref p),some (.ref l),some (.int (r+i)),x3]∧AI H H3∧PY H3 l z r c w (i*w+j)) ⟨_,rfl,s2,cs2⟩ ?_ ?_
   ·rintro j σ H3 hj ⟨x3,rfl,s3,vs,hv1,hv2,hv3⟩
    have hp3:=hp.same s3
    have hlen:i*w+j<1000:=by
     have:i*w≤15*w:=Nat.mul_le_mul_right w (by clear hw hh;omega)
     omega
    refine⟨_,rfl,.inl ⟨rfl,_,Ax.of hv1⟩,_,rfl,p,_,_,_,rfl,rfl,Af.of hp3.ob,rfl,_,rfl,_,rfl,As,fun q hq=>?_⟩
    have nlq:l≠q:=AZ hv1 hq
    refine⟨l,vs,_,rfl,rfl,(by rw[AX nlq];exact hv1),(by rw[hv2];exact B5 (by clear hw hh;omega)),?_⟩
    refine⟨_,rfl,AI.step s3 hl hq,PY.push hv1 hv2 hv3 hq ?_ ?_⟩
    ·show r+(i:Int)=r+(((i*w+j) / w:Nat):Int)
     rw[Nat.mul_comm i w,Nat.mul_add_div (by clear hw hh;omega),Nat.div_eq_of_lt hj];simp
    ·show c+(j:Int)=c+(((i*w+j)%w:Nat):Int)
     rw[Nat.mul_comm i w,Nat.mul_add_mod,Nat.mod_eq_of_lt hj]
   ·rintro σ H3 ⟨x3,rfl,s3,cs3⟩
    exact⟨_,_,rfl,s3,by rw[Nat.succ_mul];exact cs3⟩
  ·rintro σ H2 ⟨x2,x3,rfl,s2,cs2⟩
   exact⟨_,rfl,k l _ hl s2 cs2⟩
theorem KA:AW ["value"] ["value"] (AL EJ):=A9
theorem Ca (T:Txt w K mg t):Av P w K mg base Bj 1 t.cp t.cq ["value"] WS:=by
 have D:=T.f0
 refine D.fn.okX KA ?_ (fun cdv A outer s H vs Q E hr h Z hZ=>?_)
 ·rintro _ _ _ _ ⟨u,rfl,_⟩
  rfl
 ·obtain⟨u,rfl,k⟩:=h
  refine hZ ⟨_,((AF (AJ (Al (B4 (Al (AA (AH 0) AB)) AB))))),?_⟩
  try dsimp only[A6,An]
  refine⟨_,rfl,(by show 1≤sizeLine;decide),fun p hp=>⟨(by show 1≤sizeLine;decide),fun q hq=>?_⟩⟩
  exact k _ _ ⟨q,_,rfl,AE,.cons ⟨p,rfl,AI.new hq _ _ AE⟩ .nil⟩ ((AI.new hp).trans (AI.new hq))
theorem Nz:AW ["formula"] ["formula"] (AL Gu):=A9
theorem Ic (T:Txt w K mg t):Av P w K mg base Bj 1 t.cr t.cs ["formula"] WP:=by
 have D:=T.f1
 refine D.fn.okX Nz ?_ (fun cdv A outer s H vs Q E hr h Z hZ=>?_)
 ·rintro _ _ _ _ ⟨v,f,pr,n,rfl,_⟩
  rfl
 ·obtain⟨v,f,pr,n,rfl,hv,fo,k⟩:=h
  refine hZ ⟨_,((AD (Ak (AQ Aj (AK AO (AH 0) AC (fun _ _=>rfl)) AM (AN _)) (AF (AJ (Bw LT (by rfl) T.g6 LD (AS (AK AO (AH 0) AC (fun _ _=>rfl)) AB)))) AU)
   (AF (AJ (Bu (fv:=["formula"]) (js:=[0]) (cl:=[("formula",s.heap.objs.size+1)]) rfl (by with_unfolding_all rfl) ⟨rfl,by nofun,by nofun,rfl,by nofun,by nofun,(List.forall_mem_cons.mpr ⟨⟨rfl,rfl,rfl⟩,(List.forall_mem_nil _)⟩),(List.forall_mem_cons.mpr ⟨rfl,(List.forall_mem_nil _)⟩),(.cons rfl .nil)⟩ (Fj (QX (SC T.he) (AK AO (AH 0) AC (fun _ _=>rfl)) (Al AB) ⟨rfl,rfl,rfl,rfl⟩)) (fun _ _ _ _ _=>CI) (fun _ _ _ _ _=>(AK Dn (AH 1) (AH 0) (fun _ _=>rfl)))))))),?_⟩
  try dsimp only[A6,An]
  cases hv with
  | @lf a l hl=>
   obtain⟨w,r,ha,h1,h2,_⟩:=hl.pp
   refine⟨_,rfl,a,_,_,_,rfl,rfl,Af.of ha,Ag,rfl,false,h1,Ah ?_⟩
   refine fun pa kvs hk hp=>⟨pa,kvs,rfl,hk,_,rfl,a,_,_,_,rfl,rfl,Af.of ha,Ag,Nat.zero_le _,fun e he=>⟨Sum.inr w,rfl,?_⟩⟩
   rw[OS hp h2]
   have s1:=AI.new (o:=.tup []) he
   have sq:∀ ws D,upd H e (.tup []) D=none→Af K (upd (upd H e (.tup [])) D (.lst ws)) e []:=fun ws D hD=>Af.of (AI.new hD _ _ AE)
   refine⟨e,rfl,⟨_,Af.of AE⟩,fun D hD=>?_⟩
   refine⟨fun i m H4=>i=0∧H4=upd (upd H e (.tup [])) D (.lst []),⟨0,rfl,rfl⟩,?_⟩
   rintro i m H4 ⟨rfl,rfl⟩
   refine .inl ⟨⟨[],sq _ _ hD,Nat.le_refl _⟩,?_⟩
   exact k D [] _ (AI.back0 s1 hD) AE .nil (s1.trans (AI.new hD))
  | @nd a t kd us ps ha ht hl hh=>
   cases fo with
   | nd ok hps=>
   obtain⟨r0,er⟩:=UV t kd us
   have ha0:H a=some (.tup (.str (kw kd)::r0)):=by rw[ha,er]
   have fm:=A7.parts hl hh
   cases ho:Jl kd with
   | true=>
    obtain⟨z,rfl⟩:∃ z,kd=.own z:=by cases kd <;> first | exact⟨_,rfl⟩ | cases ho
    replace ha:H a=some (.tup [vS "own",.str z,.ref t]):=ha
    refine⟨_,rfl,a,_,_,_,rfl,rfl,Af.of ha,Ag,rfl,true,(by nofun),Az ?_⟩
    refine⟨_,rfl,a,_,_,_,rfl,rfl,Af.of ha,OR,t,us,rfl,.inr (Af.of (ht rfl)),fun d hd=>?_⟩
    exact k d us _ hd AE (CK.kp fm (Kp.same (AI.new hd))) (AI.new hd)
   | false=>
    obtain⟨pl,hpl,lpl,hat⟩:=UX (t:=t) (us:=us) (by rw[hl];exact ok) ho
    have l3:=ok.le
    refine⟨_,rfl,a,_,_,_,rfl,rfl,Af.of ha0,Ag,rfl,false,congrArg V.bl ((UW ok).trans ho),Ah ?_⟩
    refine fun pa kvs hk hp=>⟨pa,kvs,rfl,hk,_,rfl,a,_,_,_,rfl,rfl,Af.of ha0,Ag,Nat.zero_le _,fun e he=>⟨Sum.inr (kw kd),rfl,?_⟩⟩
    obtain⟨b,hb,hsq⟩:=Q5 hp hpl
    rw[hb]
    have s1:=AI.new (o:=.tup []) he
    have nsl:∀{D:Addr},upd H e (.tup []) D=none→H D=none:=fun {D} h=>AI.back0 s1 h
    generalize upd H e (.tup [])=H2 at *
    refine⟨b,rfl,⟨_,hsq _⟩,fun D hD=>?_⟩
    have sD:∀ ws,AI H2 (upd H2 D (.lst ws)):=fun ws=>AI.new hD
    refine⟨fun i m H4=>m=us.length-i∧i≤us.length∧H4=upd H2 D (.lst (us.take i)),⟨us.length,rfl,Nat.zero_le _,rfl⟩,?_⟩
    rintro i m H4 ⟨rfl,hi,rfl⟩
    by_cases hlt:i<us.length
    ·obtain⟨p,u,hp1,hu1',hat1⟩:=hat i hlt
     have hx1:(pl.map fun(p:Nat)=>V.int p)[i]?=some (.int p):=by rw[List.getElem?_map,hp1];rfl
     refine .inr ⟨⟨_,_,hsq _,hx1⟩,fun x H' y=>?_⟩
     obtain⟨e,y⟩:=y
     subst e
     have hx:=y _ (hsq _)
     rw[hx1]at hx
     cases hx
     refine⟨_,rfl,_,rfl,a,_,_,_,rfl,rfl,Af.of (sD _ _ _ (s1 _ _ ha)),hat1,_,AE,B5 (by rw[List.length_take];omega),us.length-(i+1),(by omega),rfl,hlt,?_⟩
     rw[N5,List.take_add_one,hu1'];rfl
    have ei:i=us.length:=by omega
    subst ei
    refine .inl ⟨⟨_,hsq _,(by rw[List.length_map,lpl];exact Nat.le_refl _)⟩,?_⟩
    rw[List.take_length]
    have s3:=s1.trans (sD us)
    exact k D us _ (nsl hD) AE (CK.kp fm (Kp.same s3)) s3
theorem ES:AW ["reference","first","last"] ["reference"] (AL EK):=A9
theorem Ir (T:Txt w K mg t):Av P w K mg base Bj 1 t.ct t.cu ["reference"] WX:=by
 have D:=T.f2
 refine D.fn.okX ES ?_ (fun cdv A outer s H vs Q E hr h Z hZ=>?_)
 ·rintro _ _ _ _ ⟨v,l,z,c,d,rfl,_⟩
  rfl
 ·obtain⟨v,l,z,c,d,rfl,hv,hb,k⟩:=h
  refine hZ ⟨_,((AD (Ac (i:=1) ES.nd rfl (Or.inl rfl) (AK AO (AH 0) AC (fun _ _=>rfl)))
   (AD (Ac (i:=2) ES.nd rfl (Or.inl rfl) (AK AO (AH 0) (P6 NK AC) (fun _ _=>rfl)))
   (AF (AJ (Al (AS (AK AO (AH 0) AC (fun _ _=>rfl)) (AS (AK AO (AH 1) AC (fun _ _=>rfl)) (AS (AK AO (AH 1) AC (fun _ _=>rfl)) (AS (AK AO (AH 2) AC (fun _ _=>rfl)) (AS (AK AO (AH 2) AC (fun _ _=>rfl)) AB))))))))))),?_⟩
  try dsimp only[A6,An]
  cases hv with
  | @lf a l hl=>
   obtain⟨w_,q,u,r,ha,_,hq,hu',hlast⟩:=Ng hl hb
   refine⟨_,rfl,a,_,_,_,rfl,rfl,Af.of ha,OR,_,rfl,1,rfl,a,_,_,_,rfl,rfl,Af.of ha,(show _=some (V.ref u)by rcases hlast with⟨rfl,rfl⟩ | rfl <;> rfl),?_⟩
   refine⟨_,rfl,a,_,_,_,rfl,rfl,Af.of ha,OQ,_,rfl,q,_,_,_,rfl,rfl,Af.of hq,rfl,_,rfl,q,_,_,_,rfl,rfl,Af.of hq,rfl,_,rfl,u,_,_,_,rfl,rfl,Af.of hu',rfl,_,rfl,u,_,_,_,rfl,rfl,Af.of hu',rfl,(by show 5≤sizeLine;decide),k⟩
theorem Eh:AW ["formula","waiting","row","part"] ["formula"] (AL F8):=A9
theorem L4 (T:Txt w K mg t):Av P w K mg base Bj 2 t.cv t.cw ["formula"] WQ:=by
 have D:=T.f3
 refine D.fn.okX Eh ?_ (fun cdv A outer s H vs Q E hr h Z hZ=>?_)
 ·rintro _ _ _ _ ⟨v,f,pr,n,rfl,_⟩
  rfl
 ·obtain⟨v,f,pr,n,rfl,hv,fo,h8,k⟩:=h
  refine hZ ⟨_,((AD (Ac (i:=1) Eh.nd rfl (Or.inl rfl) (Bq (AA (AH 0) AB)))
   (AD (Ac (i:=2) Eh.nd rfl (Or.inl rfl) (Bq AB))
   (AD (JO PassesOwn.never (AQ Kq (AT Ab (by rfl) T.gz PySem.boot_len (AA (AH 1) AB)) AC (AN _)) (AD (Ac (i:=3) Eh.nd rfl (Or.inl rfl) (Tu PySem.F.plainAttrs_list PySem.F.slot_list_pop PySem.F.type_list_pop Tv (AH 1)))
   (AD (Dk (G8 PySem.F.plainAttrs_list PySem.F.slot_list_append PySem.F.type_list_append B7 (AH 2) (AA (AH 3) AB)))
   (AF (Dk (G8 PySem.F.plainAttrs_list PySem.F.slot_list_extend PySem.F.type_list_extend O4 (AH 1) (Ai (AR T.f1 (Ic T) (BB hr) (AA (AH 3) AB)) AB)))))))
   (AF (AJ (NU rfl (by rfl) T.g6 LD (by rfl) T.g7 (AH 2)))))))),?_⟩
  try dsimp only[A6,An]
  have bd:=Q7 fo h8
  refine⟨_,rfl,Ub,fun l hl=>?_⟩
  have s0:=AI.new (o:=.lst [v]) hl
  have hl1:upd H l (.lst [v]) l=some (.lst [v]):=AE
  have hv1:=A7.kp hv (Kp.same s0)
  generalize upd H l (.lst [v])=H1 at *
  refine⟨Nat.zero_le _,fun r hr'=>?_⟩
  have s1:=AI.new (o:=.lst []) hr'
  have nlr:l≠r:=fun z=>by rw[← z,hl1]at hr';cases hr'
  have hr0:H r=none:=by
   cases c:H r with
   | none=>rfl
   | some o=>rw[s0 _ _ c]at hr';cases hr'
  refine⟨fun m σ H5=>∃(vs rs:List V) (fs gs:List Fm) (x:Option V),σ=[some v,some (.ref l),some (.ref r),x]∧H5 l=some (.lst vs)∧H5 r=some (.lst rs)∧CK H5 vs fs∧CK H5 rs gs∧(∀ g∈fs,FO pr n g)∧FY fs=m∧FZ fs++gs.reverse=Dy f∧AI H H5,
   ⟨ND f,_,_,[f],[],none,rfl,s1 _ _ hl1,AE,.cons (A7.kp hv1 (Kp.same s1)) .nil,.nil,(fun g hg=>by rw[List.mem_singleton.mp hg];exact fo),(by rw[FY,FY];omega),(by rw[FZ,FZ];simp),fun b o e=>s1 _ _ (s0 _ _ e)⟩,?_⟩
  rintro m σ H5 ⟨vs,rs,fs,gs,x,rfl,hl5,hr5,fm5,gm5,good,hm,him,s5⟩
  refine⟨_,rfl,l,_,rfl,.inl (Ax.of hl5),_,_,rfl,rfl,_,rfl,?_⟩
  rcases List.eq_nil_or_concat vs with rfl | ⟨vs',y,hvs⟩
  ·have e0:fs=[]:=List.length_eq_zero_iff.mp (Paired.length fm5).symm
   subst e0
   refine Ah ⟨_,rfl,r,rs,rfl,Ax.of hr5,fun lq hlq=>?_⟩
   have e1:gs.reverse=Dy f:=by rw[← him,FZ,List.nil_append]
   have s6:=AI.new (o:=.lst rs.reverse) hlq
   have hq0:H lq=none:=by
    cases c:H lq with
    | none=>rfl
    | some o=>rw[s5 _ _ c]at hlq;cases hlq
   exact k lq rs.reverse _ hq0 AE (by rw[← e1];exact Yp (CK.kp gm5 (Kp.same s6))) fun b o e=>s6 _ _ (s5 _ _ e)
  have hvs:vs=vs'++[y]:=by rw[hvs,List.concat_eq_append]
  subst hvs
  obtain⟨fs',g,rfl,fm',hg⟩:=UY fm5
  have fg:=good g (by simp)
  have hsz:FY fs'+(1+FY (Ek g))=m:=by
   rw[← hm,JD,FY,FY,Le g];omega
  have hne:decide ((0:Int)<((vs'++[y]).length:Int))=true:=decide_eq_true (by rw[List.length_append,List.length_singleton];omega)
  rw[hne]
  refine Az ⟨fun σ' H'=>∃ m',m'<m∧∃(vs rs:List V) (fs gs:List Fm) (x:Option V),σ'=[some v,some (.ref l),some (.ref r),x]∧H' l=some (.lst vs)∧H' r=some (.lst rs)∧CK H' vs fs∧CK H' rs gs∧(∀ g∈fs,FO pr n g)∧FY fs=m'∧FZ fs++gs.reverse=Dy f∧AI H H',fun _ _ z=>z,?_⟩
  refine⟨_,rfl,.inl ⟨rfl,_,Ax.of hl5⟩,l,_,y,rfl,rfl,hl5,(by simp),?_⟩
  rw[List.dropLast_concat]
  have t7:Kp H5 (upd H5 l (.lst vs')):=Kp.lst hl5 Aw.upd
  have hl7:upd H5 l (.lst vs') l=some (.lst vs'):=AE
  have hr7:upd H5 l (.lst vs') r=some (.lst rs):=by rw[AX nlr.symm];exact hr5
  have fm7:=CK.kp fm' t7
  have gm7:=CK.kp gm5 t7
  have hg7:=A7.kp hg t7
  have s7:AI H (upd H5 l (.lst vs')):=fun b o e=>by rw[AX (AZ e hl)];exact s5 _ _ e
  generalize upd H5 l (.lst vs')=H7 at *
  have n0:(FZ (fs'++[g])).length+gs.length=ND f:=by rw[← JE f,← him,List.length_append,List.length_reverse]
  rw[Li]at n0
  have n00:rs.length=gs.length:=Paired.length gm5
  refine⟨_,rfl,.inl ⟨rfl,_,Ax.of hr7⟩,_,rfl,r,rs,y,rfl,rfl,hr7,Yn (by omega),?_⟩
  have t8:Kp H7 (upd H7 r (.lst (rs++[y]))):=Kp.lst hr7 Aw.upd
  have hl8:upd H7 r (.lst (rs++[y])) l=some (.lst vs'):=by rw[AX nlr];exact hl7
  have hr8:upd H7 r (.lst (rs++[y])) r=some (.lst (rs++[y])):=AE
  have fm8:=CK.kp fm7 t8
  have hg8:=A7.kp hg7 t8
  have gm8:CK _ (rs++[y]) (gs++[g]):=UZ (CK.kp gm7 t8) (.cons hg8 .nil)
  have s8:AI H (upd H7 r (.lst (rs++[y]))):=fun b o e=>by rw[AX (AZ e hr0)];exact s7 _ _ e
  generalize upd H7 r (.lst (rs++[y]))=H8 at *
  refine⟨_,rfl,.inl ⟨rfl,_,Ax.of hl8⟩,_,rfl,y,g,pr,n,rfl,hg8,fg,fun lp ws HA hlp0 hlp fmp sA=>?_⟩
  have n1:vs'.length=fs'.length:=Paired.length fm7
  have n2:ws.length=(Ek g).length:=Paired.length fmp
  have n3:=Lg fs'
  have n4:=Lg (Ek g)
  have n5:FY (fs'++[g])=FY fs'+(1+FY (Ek g)):=by rw[JD,FY,FY,Le g];omega
  have hlA:=sA _ _ hl8
  have hrA:=sA _ _ hr8
  refine⟨l,lp,vs',ws,rfl,rfl,hlA,hlp,Yn (by omega),?_⟩
  have tB:Kp HA (upd HA l (.lst (vs'++ws))):=Kp.lst hlA Aw.upd
  refine⟨FY fs'+FY (Ek g),(by omega),vs'++ws,rs++[y],fs'++Ek g,gs++[g],_,rfl,AE,(by rw[AX nlr.symm];exact hrA),UZ (CK.kp fm8 ((Kp.same sA).trans tB)) (CK.kp fmp tB),CK.kp gm8 ((Kp.same sA).trans tB),fun x hx=>?_,JD _ _,?_,fun b o e=>?_⟩
  ·rcases List.mem_append.mp hx with q | q
   ·exact good x (List.mem_append.mpr (.inl q))
   ·exact fg.prt x q
  ·rw[← him,Lh,Lh,FZ,FZ,SR g];simp
  ·rw[AX (AZ e hl)];exact sA _ _ (s8 _ _ e)
theorem Bn:AW ["row","tell_one","told","formula","first","one"] ["row","tell_one"] (AL DW):=A9
theorem IM (T:Txt w K mg t){B:Type}{At:Hp→V→B→Prop}{sem:Fm→B}{okk:Fm→Prop}{Dp:Hp→Prop}{f0:Addr}(hA:∀ H H' v b,Kp H H'→At H v b→At H' v b)(hD:∀ H H',DR H H'→Dp H→Dp H')(G:FV P w K mg base 11 f0 (Uh At sem okk Dp)):Av P w K mg base Bj 12 t.cx t.cy ["row","tell_one"] (RE f0 At sem okk Dp):=by
 have D:=T.f4
 refine D.fn.okX Bn ?_ (fun cdv A outer s H vs Q E hr h Z hZ=>?_)
 ·rintro _ _ _ _ ⟨l,f,ws,n,rfl,_⟩
  rfl
 ·obtain⟨l,f,ws,n,rfl,hl,fm,fo,h8,okA,hd0,k⟩:=h
  refine hZ ⟨_,((AD (Ac (i:=2) Bn.nd rfl (Or.inl rfl) (Bq AB))
   (AD (B0 PassesOwn.never rfl (Dl (AH 0)) (BA (i:=3) Bn.nd rfl (Or.inl rfl))
   (AD (Ac (i:=4) Bn.nd rfl (Or.inl rfl) (AY BH (AT Ab (by rfl) T.gz PySem.boot_len (AA (AH 2) AB)) (AT Ab (by rfl) T.gz PySem.boot_len (Ai (AR T.f1 (Ic T) (BB hr) (AA (AH 3) AB)) AB))))
   (AD (Ac (i:=5) Bn.nd rfl (Or.inl rfl) (Jf (k:=11) (AH 1) (BB hr) (AA (AH 3) (AS (JS LQ (AH 2) (I0 (AH 4)) OC) AB))))
   (AD (Ac (i:=2) Bn.nd rfl (Or.inl rfl) (JS LQ (AH 2) OC (I0 (AH 4))))
   (AF (Dk (G8 PySem.F.plainAttrs_list PySem.F.slot_list_append PySem.F.type_list_append B7 (AH 2) (AA (AH 5) AB))))))))
   (AF (AJ (AK Ay (AH 2) AC (fun _ _=>rfl))))))),?_⟩
  try dsimp only[A6,An]
  have bd:=Q7 fo h8
  have hwl:ws.length=ND f:=by rw[Paired.length fm,JE]
  refine⟨Nat.zero_le _,fun d0 hd0'=>?_⟩
  have s0:=AI.new (o:=.lst []) hd0'
  refine⟨_,rfl,l,rfl,⟨_,Ax.of (s0 _ _ hl)⟩,?_⟩
  refine G6 (xs:=ws) (fun i σ H5=>∃(d:Addr) (vs:List V) (x3 x4 x5:Option V),σ=[some (.ref l),some (.ref f0),some (.ref d),x3,x4,x5]∧H d=none∧H5 d=some (.lst vs)∧Paired (At H5) vs (((Dy f).take i).foldl (Fa sem) [])∧AI H H5)
   ⟨d0,[],none,none,none,rfl,hd0',AE,.nil,s0⟩ ?_ ?_ ?_
  ·rintro i σ H5 _ ⟨d,vs,x3,x4,x5,rfl,_,_,_,s5⟩
   exact Ax.of (s5 _ _ hl)
  ·rintro i x σ H5 hx ⟨d,vs,x3,x4,x5,rfl,hd,hd5,sh5,s5⟩
   obtain⟨g,hg,xg⟩:=Ar fm hx
   have xg5:=A7.kp xg (Kp.same s5)
   have hgm:=List.mem_of_getElem? hg
   have fog:=FO.al f fo g hgm
   obtain⟨st',est⟩:=RF sem f [] i g hg
   have hlen:vs.length=st'.length+(Ek g).length:=by rw[Paired.length sh5,est,List.length_append,List.length_map]
   have hlen2:vs.length≤i:=by
    rw[Paired.length sh5]
    refine Nat.le_trans (Pl sem _ _) ?_
    rw[List.length_take,List.length_nil];omega
   have hi:i<ws.length:=(List.getElem?_eq_some_iff.mp hx).1
   refine⟨_,rfl,d,vs,rfl,.inl (Ax.of hd5),_,rfl,x,g,0,n,rfl,xg5,fog,fun lp ps H6 hlp0 hlp fmp s6=>?_⟩
   have hpl:ps.length=(Ek g).length:=Paired.length fmp
   have ej:((vs.length:Nat):Int)-((ps.length:Nat):Int)=((st'.length:Nat):Int):=by omega
   refine⟨lp,ps,rfl,.inl (Ax.of hlp),_,_,rfl,rfl,?_⟩
   have hd6:=s6 _ _ hd5
   have smA:∀{H1 H2:Hp} {us:List V} {bs:List B},Paired (At H1) us bs→Kp H1 H2→Paired (At H2) us bs:=fun p s=>Paired.imp' (fun _ _ x=>hA _ _ _ _ s x) p
   have sh6:=smA sh5 (Kp.same s6)
   rw[est]at sh6
   have ec:Gg vs (some (((vs.length:Nat):Int)-((ps.length:Nat):Int))) none=vs.drop st'.length:=by rw[ej];exact Uc (by omega)
   have el:Gg vs none (some (((vs.length:Nat):Int)-((ps.length:Nat):Int)))=vs.take st'.length:=by rw[ej];exact Ud (by omega)
   have shd:Paired (At H6) (vs.drop st'.length) ((Ek g).map sem):=by
    have:=Q8 st'.length sh6
    rwa [List.drop_left]at this
   have sht:Paired (At H6) (vs.take st'.length) st':=by
    have:=Q9 st'.length sh6
    rwa [List.take_left]at this
   rw[← ec]at shd
   rw[← el]at sht
   refine⟨_,rfl,f0,_,rfl,G,_,rfl,_,rfl,_,rfl,_,rfl,d,vs,rfl,Ax.of hd6,fun dq hdq=>?_⟩
   have sq:∀ o,AI H6 (upd H6 dq o):=fun o=>AI.new hdq
   refine⟨x,g,dq,_,n,rfl,A7.kp (A7.kp xg5 (Kp.same s6)) (Kp.same (sq _)),fog,okA g hgm,hD _ _ (DR.of ((s5.trans s6).trans (sq _))) hd0,AE,smA shd (Kp.same (sq _)),fun y H8 hy s8=>?_⟩
   have s68:=(sq (.lst (Gg vs (some (((vs.length:Nat):Int)-((ps.length:Nat):Int))) none))).trans s8
   refine⟨_,rfl,_,rfl,_,rfl,d,vs,rfl,Ax.of (s68 _ _ hd6),fun de hde=>?_⟩
   have se:∀ o,AI H8 (upd H8 de o):=fun o=>AI.new hde
   have hlt:(Gg vs none (some (((vs.length:Nat):Int)-((ps.length:Nat):Int)))).length≤vs.length:=IS _ _ _
   refine⟨_,rfl,.inl ⟨rfl,_,Ax.of AE⟩,_,rfl,de,_,y,rfl,rfl,AE,Yn (by omega),?_⟩
   have s05:=(s5.trans s6).trans s68
   refine⟨de,_,_,_,_,rfl,AI.back0 s05 hde,AE,?_,fun b o e=>?_⟩
   ·have e1:((Dy f).take (i+1)).foldl (Fa sem) []=st'++[sem g]:=by
     rw[List.take_add_one,hg,List.foldl_append,est]
     exact Jo sem st' g
    rw[e1]
    have kk:∀ o o',Kp H8 (upd (upd H8 de (.lst o)) de (.lst o')):=fun o o'=>(Kp.same (se _)).trans (Kp.lst AE Aw.upd)
    exact Dx (smA sht ((Kp.same s68).trans (kk _ _))) (hA _ _ _ _ (kk _ _) hy)
   ·rw[AX (AZ (s05 _ _ e) hde)]
    exact se _ _ _ (s05 _ _ e)
  ·rintro σ H5 ⟨d,vs,x3,x4,x5,rfl,hd,hd5,sh5,s5⟩
   rw[hwl,← JE,List.take_length,Lk,List.nil_append]at sh5
   cases sh5 with
   | cons h5 t5=>
    cases t5
    exact⟨_,rfl,d,_,_,_,rfl,rfl,Ax.of hd5,rfl,k _ _ h5 s5⟩
theorem Kh:AW ["block"] ["block"] (AL Er):=A9
theorem KB (T:Txt w K mg t):Av P w K mg base Bj 1 t.cz t.c0 ["block"] WR:=by
 have D:=T.f5
 refine D.fn.okX Kh ?_ (fun cdv A outer s H vs Q E hr h Z hZ=>?_)
 ·rintro _ _ _ _ ⟨q,x,a,b,c,d,rfl,_⟩
  rfl
 ·obtain⟨q,x,a,b,c,d,rfl,hq,k⟩:=h
  refine hZ ⟨_,((AF (AJ (Al (AV (AY A0 (AY BH (AK AO (AH 0) AC (fun _ _=>rfl)) (AK AO (AH 0) AC (fun _ _=>rfl))) AC) (AV (AY A0 (AY BH (AK AO (AH 0) AC (fun _ _=>rfl)) (AK AO (AH 0) AC (fun _ _=>rfl))) AC) AB)))))),?_⟩
  try dsimp only[A6,An]
  refine⟨_,rfl,q,_,_,_,rfl,rfl,Af.of hq,rfl,_,rfl,q,_,_,_,rfl,rfl,Af.of hq,rfl,_,_,rfl,rfl,_,_,rfl,rfl,_,rfl,q,_,_,_,rfl,rfl,Af.of hq,rfl,_,rfl,q,_,_,_,rfl,rfl,Af.of hq,rfl,_,_,rfl,rfl,_,_,rfl,rfl,BG,k⟩
theorem Ki:AW ["block","shows"] ["block","shows"] (AL Es):=A9
theorem KC (T:Txt w K mg t){Dp:Hp→Prop}{dom:Str→Int→Int→Prop}{g:Str→Int→Int→Vl}{f:Addr}(G:FV P w K mg base 1 f (ST Dp dom g))(hD:∀ H H',DR H H'→Dp H→Dp H'):Av P w K mg base Bj 2 t.c1 t.c2 ["block","shows"] (SU f Dp dom g):=by
 have D:=T.f6
 refine D.fn.okX Ki ?_ (fun cdv A outer s H vs Q E hr h Z hZ=>?_)
 ·rintro _ _ _ _ ⟨b,z,r,c,r2,c2,rfl,_⟩
  rfl
 ·obtain⟨b,z,r,c,r2,c2,rfl,hb,hd,hdom,k⟩:=h
  refine hZ ⟨_,((AF (AJ (AR T.fv (DJ T) (BB hr) (CJ (Bu (fv:=["shows"]) (js:=[1]) (cl:=[("shows",s.heap.objs.size+1)]) rfl (by with_unfolding_all rfl) ⟨rfl,by nofun,by nofun,rfl,by nofun,by nofun,(List.forall_mem_cons.mpr ⟨⟨rfl,rfl,rfl⟩,(List.forall_mem_nil _)⟩),(List.forall_mem_cons.mpr ⟨rfl,(List.forall_mem_nil _)⟩),(.cons rfl .nil)⟩ (Dl (AR T.fz (M9 T) (BB hr) (AA (AH 0) AB))) (fun _ _ _ _ _=>CI) (fun _ _ _ _ _=>(PN (k:=1) (AH 1) (BB hr) (AA (AH 0) AB)))) (AS (AK AO (AR T.f5 (KB T) (BB hr) (AA (AH 0) AB)) AC (fun _ _=>rfl)) AB)))))),?_⟩
  try dsimp only[A6,An]
  have g1:=hb.r1;have g2:=hb.r16;have g3:=hb.c1;have g4:=hb.c8;have g5:=hb.r0;have g6:=hb.c0
  refine⟨_,rfl,b,z,r,c,r2,c2,rfl,hb,fun l H1 hl0 s1 cs=>?_⟩
  generalize hwd:(c2-c+1).toNat=w_ at *
  generalize hhd:(r2-r+1).toNat=h_ at *
  have ew:c2-c+1=(w_:Int):=by omega
  have eh:r2-r+1=(h_:Int):=by omega
  clear hwd hhd
  obtain⟨cs1,hl1,hcl,hcs⟩:=cs
  have hhw:h_*w_≤16*8:=Nat.mul_le_mul (by omega) (by omega)
  refine⟨l,rfl,⟨_,Ax.of hl1⟩,fun D hD'=>?_⟩
  have sD:∀ o,AI H1 (upd H1 D o):=fun o=>AI.new hD'
  refine⟨fun i m H4=>m=h_*w_-i∧i≤h_*w_∧∃ us,H4 D=some (.lst us)∧Br H4 us ((List.range i).map fun(k:Nat)=>g z (r+((k / w_:Nat):Int)) (c+((k%w_:Nat):Int)))∧AI H1 H4,⟨h_*w_,rfl,Nat.zero_le _,[],AE,.nil,sD _⟩,?_⟩
  rintro i m H4 ⟨rfl,hi,us,hD4,vs4,s4⟩
  have ul:us.length=i:=by rw[Paired.length vs4,List.length_map,List.length_range]
  by_cases hlt:i<h_*w_
  ·obtain⟨x,hx⟩:∃ x,cs1[i]?=some x:=⟨cs1[i]'(by omega),List.getElem?_eq_getElem (by omega)⟩
   refine .inr ⟨⟨_,_,Ax.of (s4 _ _ hl1),hx⟩,fun x' H' y=>?_⟩
   obtain⟨rfl,y⟩:=y
   have hx':=y _ (Ax.of (s4 _ _ hl1))
   rw[hx]at hx'
   cases hx'
   obtain⟨a,rfl,hA⟩:=hcs i x hx
   have hw1:1≤w_:=by omega
   have d1:((i / w_:Nat):Int)<(h_:Int):=by
    have:=Nat.div_lt_of_lt_mul (show i<w_*h_ by rw[Nat.mul_comm];exact hlt)
    omega
   have d0:=Int.natCast_nonneg (i / w_)
   have d3:=Int.natCast_nonneg (i%w_)
   have d2:((i%w_:Nat):Int)<(w_:Int):=by
    have:=Nat.mod_lt i (show w_>0 by omega)
    omega
   refine⟨_,rfl,f,_,rfl,G,_,rfl,a,z,_,_,rfl,s4 _ _ hA,hD _ _ (DR.of (s1.trans s4)) hd,hdom _ _ (by omega) (by omega) (by omega) (by omega),fun x5 H5 hx5 s5=>?_⟩
   refine⟨us,s5 _ _ hD4,B5 (by omega),h_*w_-(i+1),(by omega),rfl,hlt,us++[x5],AE,?_,fun b' o e=>?_⟩
   ·rw[List.range_succ,List.map_append]
    have kd:Kp H5 (upd H5 D (.lst (us++[x5]))):=Kp.lst (s5 _ _ hD4) Aw.upd
    exact Dx (Br.kp (Br.kp vs4 (Kp.same s5)) kd) (hx5.kp kd)
   ·have nb:b'≠D:=AZ e hD'
    rw[AX nb];exact s5 _ _ (s4 _ _ e)
  ·have ei:i=h_*w_:=by omega
   subst ei
   refine .inl ⟨⟨_,Ax.of (s4 _ _ hl1),(by omega)⟩,?_⟩
   have hb4:=hb.same (s1.trans s4)
   refine⟨_,rfl,b,_,r,c,r2,c2,rfl,hb4.ob,fun p hp=>⟨p,_,_,_,rfl,rfl,Af.of AE,rfl,?_⟩⟩
   have hw1:1≤w_:=by omega
   refine⟨D,us,w_,h_,(by rw[ew];rfl),AI.new hp _ _ hD4,ul,hw1,(by omega),(by omega),fun x H' hx s'=>k x H' ⟨_,hx,?_⟩ ((s1.trans s4).trans ((AI.new hp).trans s'))⟩
   rw[← Pd hw1]
   exact FE (Br.kp vs4 (Kp.same ((AI.new hp).trans s')))
theorem L5:AW ["leaf","cell","shows"] ["leaf","cell","shows"] (AL FP):=A9
theorem Kj (T:Txt w K mg t){Dp:Hp→Prop}{dom:Str→Int→Int→Prop}{g:Str→Int→Int→Vl}{f:Addr}(G:FV P w K mg base 1 f (ST Dp dom g))(hD:∀ H H',DR H H'→Dp H→Dp H'):Av P w K mg base Bj 3 t.c3 t.c4 ["leaf","cell","shows"] (XJ f Dp dom g):=by
 have D:=T.f7
 refine D.fn.okX L5 ?_ (fun cdv A outer s H vs Q E hr h Z hZ=>?_)
 ·rintro _ _ _ _ ⟨v,y,l,hm,rfl,_⟩
  rfl
 ·obtain⟨v,y,l,hm,rfl,hv,okk,hd,hy,k⟩:=h
  refine hZ ⟨_,((AD (Ak (AQ Aj (AK AO (AH 0) AC (fun _ _=>rfl)) AM (AN _)) (AF (AJ (AR T.f0 (Ca T) (BB hr) (AS (AK AO (AH 0) AC (fun _ _=>rfl)) AB)))) AU)
   (AD (Ak (AQ Aj (AK AO (AH 0) AC (fun _ _=>rfl)) AM (AN _)) (AF (AJ (AR T.f0 (Ca T) (BB hr) (B4 (Al (AG AM (AS (AK AO (AH 0) AC (fun _ _=>rfl)) (AA (AH 1) AB)))) AB)))) AU)
   (AF (AJ (AR T.f6 (KC T G hD) (hr.mono (by omega)) (Ai (AR T.f2 (Ir T) (BB hr) (AA (AH 0) AB)) (AA (AH 2) AB)))))))),?_⟩
  try dsimp only[A6,An]
  rcases okk with⟨vv,rfl⟩ | ⟨zf,rfl⟩ | ⟨z,c,d,lg⟩
  ·obtain⟨a,rfl,q,ha,hq⟩:=JF hv
   refine⟨_,rfl,a,_,_,_,rfl,rfl,Af.of ha,rfl,rfl,true,(by nofun),Az ?_⟩
   refine⟨_,rfl,a,_,_,_,rfl,rfl,Af.of ha,rfl,.ref q,rfl,fun x H' hx s'=>k x H' ⟨_,hx,.cons (.cons ⟨q,rfl,HP.kp hq (Kp.same s')⟩ .nil) .nil⟩ s'⟩
  ·obtain⟨a,rfl,ha0⟩:=JF hv
   have ha:H a=some (.tup [vS "fault",.str zf]):=ha0
   refine⟨_,rfl,a,_,_,_,rfl,rfl,Af.of ha,Ag,rfl,false,(by nofun),Ah ?_⟩
   refine⟨_,rfl,a,_,_,_,rfl,rfl,Af.of ha,Ag,rfl,true,(by nofun),Az ?_⟩
   refine⟨_,rfl,a,_,_,_,rfl,rfl,Af.of ha,OQ,_,rfl,As,fun p hp=>⟨.ref p,rfl,fun x H2 hx s2=>k x H2 ⟨_,hx,.cons (.cons ((hy.fltS hp).kp (Kp.same s2)) .nil) .nil⟩ ((AI.new hp).trans s2)⟩⟩
  ·cases id hv with
   | @lf a l hl=>
    obtain⟨w_,q,u_,r,ha,hw,_⟩:=Ng hl lg.b
    have n1:decide (V.str w_=vS "value")=false:=by rcases hw with rfl | rfl <;> nofun
    have n2:decide (V.str w_=vS "fault")=false:=by rcases hw with rfl | rfl <;> nofun
    refine⟨_,rfl,a,_,_,_,rfl,rfl,Af.of ha,Ag,rfl,false,congrArg V.bl n1,Ah ?_⟩
    refine⟨_,rfl,a,_,_,_,rfl,rfl,Af.of ha,Ag,rfl,false,congrArg V.bl n2,Ah ?_⟩
    refine⟨_,rfl,.ref a,l,z,c,d,rfl,hv,lg.b,fun p hp=>⟨_,rfl,?_⟩⟩
    refine⟨p,z,c.r,c.c,d.r,d.c,rfl,⟨AE,lg.nm,lg.r0,lg.r1,lg.r16,lg.c0,lg.c1,lg.c8⟩,hD _ _ (DR.of (AI.new hp)) hd,lg.dm,fun x H' hx s=>k x H' ?_ ((AI.new hp).trans s)⟩
    rw[IW lg]
    unfold Rl
    rw[lg.b]
    exact hx
theorem Kk:AW ["value","outer"] ["value","outer"] (AL Et):=A9
theorem KD (T:Txt w K mg t){o:Addr}{fo:Vl→Vl}(G2:FV P w K mg base 3 o (Og fo)):Av P w K mg base Bj 4 t.c5 t.c6 ["value","outer"] (Uu o fo):=by
 have D:=T.f8
 refine D.fn.okX Kk ?_ (fun cdv A outer s H vs Q E hr h Z hZ=>?_)
 ·rintro _ _ _ _ ⟨u,v,rfl,_⟩
  rfl
 ·obtain⟨u,v,rfl,hv,okv,k⟩:=h
  refine hZ ⟨_,((AF (AJ (B3 (AQ Aj (AK AO (AH 0) AC (fun _ _=>rfl)) AM (AN _)) (AH 0) (Jf (k:=3) (AH 1) (BB hr) (AA (AH 0) AB)))))),?_⟩
  try dsimp only[A6,An]
  obtain⟨q,xs,rfl,hq,_⟩:=hv.hd
  unfold TU at k
  refine⟨_,rfl,q,_,_,_,rfl,rfl,Af.of hq,Ag,rfl,Fe v,rfl,Ba (fun c=>?_) (fun c=>?_)⟩
  ·rw[if_pos c]at k
   exact⟨_,rfl,k _ _ hv (AI.refl _)⟩
  ·rw[if_neg c]at k
   exact⟨_,rfl,o,_,rfl,G2,_,rfl,.ref q,v,rfl,hv,okv,c,k⟩
theorem ET:AW ["formula","tables","cell","outer","kind","first"] ["formula","tables","cell","outer"] (AL EL):=A9
theorem Iu (T:Txt w K mg t){o:Addr}{fo:Vl→Vl}(G2:FV P w K mg base 3 o (Og fo)):Av P w K mg base Bj 8 t.c7 t.c8 ["formula","tables","cell","outer"] (XM o fo):=by
 have D:=T.f9
 refine D.fn.okX ET ?_ (fun cdv A outer s H vs Q E hr h Z hZ=>?_)
 ·rintro _ _ _ _ ⟨y,l,a,us,hm,rfl,_⟩
  rfl
 ·obtain⟨y,l,a,us,hm,rfl,hl,hy,kk⟩:=h
  refine hZ ⟨_,((AD (Ac (i:=4) ET.nd rfl (Or.inl rfl) (AK AO (AH 0) AC (fun _ _=>rfl)))
   (AD (Ac (i:=5) ET.nd rfl (Or.inl rfl) (AK Ay (AH 1) AC (fun _ _=>rfl)))
   (AD (Ak (AQ Aj (AH 4) AM (AN _)) (AF (AJ (AR T.fo (L1 T) (BB hr) (AA (AH 5) (AA (AH 2) AB))))) AU)
   (AD (Ak (AQ Aj (AH 4) AM (AN _)) (AF (AJ (AR T.fp (Kf T) (BB hr) (AA (AH 5) AB)))) AU)
   (AD (Ak (DO (AQ Aj (AH 4) AM (AN _)) (Cc (AQ Aj (AH 4) AM (AN _)))).pt (AF (AJ (AR T.fq (Ny T) (BB hr) (AA (AH 5) (CU (A3 Aj (AH 4) AM (AN _)) AB))))) AU)
   (AD (Ak (AQ Aj (AH 4) AM (AN _)) (AF (AJ (AR T.fr (L3 T) (BB hr) (AA (AH 5) (AS (AK AO (AH 0) AC (fun _ _=>rfl)) (AS (AK AO (AK AO (AK Ay (AH 1) AC (fun _ _=>rfl)) AC (fun _ _=>rfl)) AC (fun _ _=>rfl)) (AS (AK Ay (AH 1) AC (fun _ _=>rfl)) (AA (AH 2) AB)))))))) AU)
   (AD (Ak (AQ Aj (AH 4) AM (AN _)) (AF (AJ (AR T.ft (M8 T) (BB hr) (AS (AK AO (AK AO (AH 5) AC (fun _ _=>rfl)) AC (fun _ _=>rfl)) (AS (AK Ay (AH 1) AC (fun _ _=>rfl)) (AS (AK AO (AK AO (AK Ay (AH 1) AC (fun _ _=>rfl)) AC (fun _ _=>rfl)) AC (fun _ _=>rfl)) (AA (AH 2) AB))))))) AU)
   (AF (AJ (AR T.f8 (KD T G2) (hr.mono (by omega)) (AS (AK AO (AK AO (AH 5) AC (fun _ _=>rfl)) AC (fun _ _=>rfl)) (AA (AH 3) AB))))))))))))),?_⟩
  try dsimp only[A6,An]
  rcases kk with⟨z_,r,x0,m,hz4,ha,rfl,t0,⟨w_,rm,w3,l3,okm⟩,k⟩ | ⟨r,x0,m,ha,rfl,t0,⟨w_,rm,w3,l3,okm⟩,k⟩ | ⟨s_,v0,v1,v2,x0,x1,x2,m0,m1,m2,ha,rfl,t0,t1,t2,⟨w0,r0,w03,l03,ok0⟩,⟨w1,r1,w13,l13,ok1⟩,⟨w2,r2,w23,l23,ok2⟩,el,ew,k⟩ | ⟨r,x0,x1,x2,m0,m1,m2,ha,rfl,t0,t1,t2,⟨w0,r0,w03,l03,ok0⟩,⟨w1,r1,w13,l13,ok1⟩,⟨w2,r2,w23,l23,ok2⟩,k⟩
  ·have nok:=G3.ns ⟨w_,rm,w3,l3,okm⟩
   refine⟨_,rfl,a,_,_,_,rfl,rfl,Af.of ha,Ag,?_⟩
   refine⟨_,rfl,l,_,_,_,rfl,rfl,Ax.of hl,rfl,?_⟩
   rcases Nr hz4 with rfl | rfl | rfl | rfl
   ·refine Gc rfl ?_
    refine⟨_,rfl,_,rfl,x0,y,m,w_,hm,100,100,rfl,t0,rm,(by omega),(by omega),nok,hy,fun z H' hz s=>k z H' ?_ s⟩
    unfold Ro
    rw[if_pos rfl]
    exact hz
   ·refine Bg rfl ?_
    refine Gc rfl ?_
    refine⟨_,rfl,x0,m,w_,rfl,t0,rm,(by omega),(by omega),fun z H' hz s=>k z H' ?_ s⟩
    unfold Ro
    rw[if_neg (by nofun),if_pos rfl]
    exact hz
   ·refine Bg rfl ?_
    refine Bg rfl ?_
    refine Uf rfl ?_
    refine⟨_,rfl,_,rfl,rfl,x0,false,m,w_,(by rw[show decide (V.str (Str.ofString "least")=V.str (Str.ofString "most"))=false by nofun];rfl),t0,rm,(by omega),(by omega),okm,fun z H' hz s=>k z H' ?_ s⟩
    unfold Ro
    rw[if_neg (by nofun),if_neg (by nofun),show decide (Str.ofString "least"=Str.ofString "most")=false by nofun]
    exact hz
   ·refine Bg rfl ?_
    refine Bg rfl ?_
    refine Ug rfl ?_
    refine⟨_,rfl,_,rfl,rfl,x0,true,m,w_,(by rw[show decide (V.str (Str.ofString "most")=V.str (Str.ofString "most"))=true by nofun];rfl),t0,rm,(by omega),(by omega),okm,fun z H' hz s=>k z H' ?_ s⟩
    unfold Ro
    rw[if_neg (by nofun),if_neg (by nofun),show decide (Str.ofString "most"=Str.ofString "most")=true by nofun]
    exact hz
  ·refine⟨_,rfl,a,_,_,_,rfl,rfl,Af.of ha,Ag,?_⟩
   refine⟨_,rfl,l,_,_,_,rfl,rfl,Ax.of hl,rfl,?_⟩
   refine Bg rfl ?_
   refine Bg rfl ?_
   refine RA rfl ?_
   refine Bg rfl ?_
   refine Bg rfl ?_
   obtain⟨b0,u0,_,rt0,c0,y0,rfl,e1,e2,v0,rfl⟩:=t0.hd0 rm
   exact⟨_,rfl,b0,_,_,_,rfl,rfl,Af.of e1,Ag,c0,_,_,_,rfl,rfl,Af.of e2,Ag,_,rfl,_,hd0 m,rfl,v0,Jt rm okm,k⟩
  ·refine⟨_,rfl,a,_,_,_,rfl,rfl,Af.of ha,Ag,?_⟩
   refine⟨_,rfl,l,_,_,_,rfl,rfl,Ax.of hl,rfl,?_⟩
   refine Bg rfl ?_
   refine Bg rfl ?_
   refine RA rfl ?_
   refine Gc rfl ?_
   have rr:Bp m2 w0:=by
    have e1:wd m0=w0:=r0.wd
    have e2:wd m2=w2:=r2.wd
    rw[← e1,ew,e2];exact r2
   have nok:=G3.chz (s:=s_) (k:=hd0 m1) (hm:=hm) (m:=m0) ⟨w2,r2,w23,l23,ok2⟩
   have okh:=Jt r1 ok1
   obtain⟨b1,u1,_,rt1,c1,y1,rfl,e1,e2,vv1,rfl⟩:=t1.hd0 r1
   refine⟨_,rfl,_,rfl,a,_,_,_,rfl,rfl,Af.of ha,OR,_,rfl,l,_,_,_,rfl,rfl,Ax.of hl,rfl,b1,_,_,_,rfl,rfl,Af.of e1,Ag,c1,_,_,_,rfl,rfl,Af.of e2,Ag,_,rfl,l,_,_,_,rfl,rfl,Ax.of hl,rfl,_,rfl,?_⟩
   exact⟨x0,_,x2,y,s_,m0,m2,hd0 m1,w0,hm,100,100,rfl,t0,vv1,t2,hy,r0,rr,el,(by omega),(by omega),ok0,okh,nok,k⟩
  ·refine⟨_,rfl,a,_,_,_,rfl,rfl,Af.of ha,Ag,?_⟩
   refine⟨_,rfl,l,_,_,_,rfl,rfl,Ax.of hl,rfl,?_⟩
   refine Bg rfl ?_
   refine Bg rfl ?_
   refine RA rfl ?_
   refine Bg rfl ?_
   refine Gc rfl ?_
   obtain⟨b0,u0,_,rt0,c0,y0,rfl,e1,e2,vv0,rfl⟩:=t0.hd0 r0
   obtain⟨b2,u2,_,rt2,c2,y2,rfl,e3,e4,vv2,rfl⟩:=t2.hd0 r2
   refine⟨_,rfl,b0,_,_,_,rfl,rfl,Af.of e1,Ag,c0,_,_,_,rfl,rfl,Af.of e2,Ag,_,rfl,l,_,_,_,rfl,rfl,Ax.of hl,rfl,_,rfl,l,_,_,_,rfl,rfl,Ax.of hl,rfl,b2,_,_,_,rfl,rfl,Af.of e3,Ag,c2,_,_,_,rfl,rfl,Af.of e4,Ag,_,rfl,?_⟩
   exact⟨_,x1,_,y,hd0 m0,hd0 m2,m1,w1,hm,rfl,vv0,t1,vv2,hy,r1,(by omega),(by omega),k⟩
theorem E5:AW ["formula","tables","cell","shows","outer","kind"] ["formula","tables","cell","shows","outer"] (AL DH):=A9
theorem Hl (T:Txt w K mg t){Dp:Hp→Prop}{dom:Str→Int→Int→Prop}{g:Str→Int→Int→Vl}{fo:Vl→Vl}{hm:Hm}{f o:Addr}(G:FV P w K mg base 1 f (ST Dp dom g))(G2:FV P w K mg base 3 o (Og fo))(hD:∀ H H',DR H H'→Dp H→Dp H'):Av P w K mg base Bj 10 t.c9 t.da ["formula","tables","cell","shows","outer"] (XN f o Dp dom g fo hm):=by
 have D:=T.ga
 refine D.fn.okX E5 ?_ (fun cdv A outer s H vs Q E hr h Z hZ=>?_)
 ·rintro _ _ _ _ ⟨v,y,fm,l,us,n,rfl,_⟩
  rfl
 ·obtain⟨v,y,fm,l,us,n,rfl,hv,fo_,ok,hd,hl,tb,hy,ho,k⟩:=h
  refine hZ ⟨_,((AD (Ac (i:=5) E5.nd rfl (Or.inl rfl) (AK AO (AH 0) AC (fun _ _=>rfl)))
   (AD (Ak (AQ Aj (AT Ab (by rfl) T.gz PySem.boot_len (AA (AH 1) AB)) AC (AN _)) (AF (AJ (AR T.f7 (Kj T G hD) (hr.mono (by omega)) (AA (AH 0) (AA (AH 2) (AA (AH 3) AB)))))) AU)
   (AD (Ak (AQ Aj (AH 5) AM (AN _)) (AF (AJ (AR T.fx (Fc T) (BB hr) (AS (AK AO (AH 0) AC (fun _ _=>rfl)) (AS (AK Ay (AH 1) AC (fun _ _=>rfl)) (AS (AK Ay (AH 1) AC (fun _ _=>rfl)) (AA (AH 2) AB))))))) AU)
   (AD (Ak (AQ Aj (AH 5) AM (AN _)) (AF (AJ (AR T.fx (Fc T) (BB hr) (AG AM (Ai (AR T.f0 (Ca T) (BB hr) (AA (JC T.hk) AB)) (AS (AK Ay (AH 1) AC (fun _ _=>rfl)) (AA (AH 2) AB))))))) AU)
   (AD (Ak (AQ Aj (AH 5) AM (AN _)) (AF (AJ (AR T.fu (Io T) (BB hr) (AS (AK AO (AK AO (AK Ay (AH 1) AC (fun _ _=>rfl)) AC (fun _ _=>rfl)) AC (fun _ _=>rfl)) (AS (AK Ay (AH 1) AC (fun _ _=>rfl)) (AS (AK Ay (AH 1) AC (fun _ _=>rfl)) (AA (AH 2) AB))))))) AU)
   (AD (Ak (AQ Aj (AH 5) AM (AN _)) (AF (AJ (AR T.fw (Iq T) (BB hr) (AS (AK Ay (AH 1) AC (fun _ _=>rfl)) AB)))) AU)
   (AD (Ak (AQ Aj (AH 5) AM (AN _)) (AF (AJ (AY Rz (AK Ay (AH 1) AC (fun _ _=>rfl)) (AK Ay (AH 1) AC (fun _ _=>rfl))))) AU)
   (AD (Ak (AQ Aj (AH 5) AM (AN _)) (AF (AJ (AR T.fy (Kg T) (BB hr) (AS (AK AO (AH 0) AC (fun _ _=>rfl)) (AS (AK AO (AH 0) AC (fun _ _=>rfl)) (AS (AK AO (AK AO (AK Ay (AH 1) AC (fun _ _=>rfl)) AC (fun _ _=>rfl)) AC (fun _ _=>rfl)) (AS (AK AO (AK AO (AK Ay (AH 1) AC (fun _ _=>rfl)) AC (fun _ _=>rfl)) AC (fun _ _=>rfl)) (AA (AH 2) AB)))))))) AU)
   (AF (AJ (AR T.f0 (Ca T) (BB hr) (Ai (AR T.f9 (Iu T G2) (hr.mono (by omega)) (AA (AH 0) (AA (AH 1) (AA (AH 2) (AA (AH 4) AB))))) AB))))))))))))),?_⟩
  try dsimp only[A6,An]
  refine LG fun X hX=>?_
  rcases ok with⟨lf,rfl,lg_⟩ | ⟨s_,fa,fb,rfl,⟨wa,ra,la2,la1,oka⟩,⟨wb,rb,lb2,lb1,okb⟩,ft⟩ | ⟨fa,rfl,⟨wa,ra,la2,la1,oka⟩⟩ | ⟨fa,fb,fc,rfl,⟨wa,ra,_,_,oka⟩,⟨wb,rb,lb2,lb1,okb⟩,⟨wc,rc,lc2,lc1,okc⟩,ft⟩ | ⟨fa,rfl,⟨wa,ra,la2,la1,oka⟩⟩ | ⟨fa,fb,rfl,⟨wa,ra,la2,la1,oka⟩,⟨wb,rb,lb2,lb1,okb⟩⟩ | ⟨h_,w_,fa,fb,rfl,h1,h16,w1,w8,⟨wa,ra,la2,la1,oka⟩,⟨wb,rb,lb2,lb1,okb⟩⟩ | ⟨z_,fa,rfl,hz4,ga⟩ | ⟨fa,rfl,ga⟩ | ⟨s_,fa,fb,fc,rfl,ga,gb,gc,el,ew⟩ | ⟨fa,fb,fc,rfl,ga,gb,gc⟩
  ·obtain⟨a,rfl,ha⟩:=JF hv
   obtain⟨w_,r,haa,_⟩:=ha.pp
   have tb':Paired (Bm H) us []:=tb
   cases tb'
   rw[BV]at k
   refine hX ?_
   refine⟨_,rfl,a,_,_,_,rfl,rfl,Af.of haa,Ag,?_⟩
   refine⟨_,rfl,l,_,rfl,.inl (Ax.of hl),rfl,true,(by simp),Az ?_⟩
   exact⟨_,rfl,_,rfl,_,rfl,.ref a,y,lf,hm,rfl,hv,lg_,hd,hy,k⟩
  ·have tb':Paired (Bm H) us [Au fo g hm fa,Au fo g hm fb]:=tb
   cases tb' with
   | @cons x0 _ _ _ t0 tb'=>
    cases tb' with
    | @cons x1 _ _ _ t1 tb'=>
     cases tb'
     cases hv with
     | @nd a t _ us _ ha ht hl' hh=>
      have ha':H a=some (.tup (vS "op"::.str s_::us)):=ha
      rw[Oh]at k
      obtain⟨m0,r0,v0⟩:=t0
      obtain⟨m1,r1,v1⟩:=t1
      refine hX ?_
      refine KR rfl (Af.of ha') ?_
      refine El rfl (Ax.of hl) ?_
      refine Gc rfl ?_
      refine⟨_,rfl,a,_,_,_,rfl,rfl,Af.of ha',OQ,_,rfl,l,_,_,_,rfl,rfl,Ax.of hl,rfl,_,rfl,l,_,_,_,rfl,rfl,Ax.of hl,rfl,_,rfl,?_⟩
      exact W1 (E:=E0) r0 r1 (BE v0 ra) (BE v1 rb) (Paired.length v0) (Paired.length v1) ra.wd rb.wd ft (by omega) (by omega) (by omega) (by omega) hy (fun j k=>.inl ⟨_,_,Dr v0 ra j k,Dr v1 rb j k,HQ ra oka j k,HQ rb okb j k,rfl⟩) k
  ·have tb':Paired (Bm H) us [Au fo g hm fa]:=tb
   cases tb' with
   | @cons x0 _ _ _ t0 tb'=>
    cases tb'
    cases hv with
    | @nd a t _ us _ ha ht hl' hh=>
     have ha':H a=some (.tup (vS "neg"::us)):=ha
     rw[Lv]at k
     obtain⟨m0,r0,v0⟩:=t0
     refine hX ?_
     refine KR rfl (Af.of ha') ?_
     refine El rfl (Ax.of hl) ?_
     refine Bg rfl ?_
     refine Gc rfl ?_
     refine fun qn hqn=>⟨.ref qn,rfl,fun xn H1 hxn s1=>⟨_,rfl,l,_,_,_,rfl,rfl,Ax.of (s1 _ _ hl),rfl,_,rfl,?_⟩⟩
     have v0':By H1 m0 (Au fo g hm fa):=By.kp v0 (Kp.same s1)
     exact W1 (E:=E0) (m:=[[.num 0 1]]) hxn (r0.kp (Kp.same s1)) (TJ _) (BE v0' ra) rfl (Paired.length v0') rfl ra.wd (.inr (.inr ⟨rfl,rfl⟩)) (by decide) (by omega) (by decide) (by omega) (hy.kp (Kp.same s1)) (fun j k=>.inr ⟨rfl,⟨qn,RM j k,hqn⟩,_,Dr v0' ra j k,HQ ra oka j k,by rw[RM]⟩) fun w H' hw s'=>k w H' hw (s1.trans s')
  ·have tb':Paired (Bm H) us [Au fo g hm fa,Au fo g hm fb,Au fo g hm fc]:=tb
   cases tb' with
   | @cons x0 _ _ _ t0 tb'=>
    cases tb' with
    | @cons x1 _ _ _ t1 tb'=>
     cases tb' with
     | @cons x2 _ _ _ t2 tb'=>
      cases tb'
      cases hv with
      | @nd a t _ us _ ha ht hl' hh=>
       have ha':H a=some (.tup (vS "if"::us)):=ha
       rw[Oj]at k
       obtain⟨m1,r1,v1⟩:=t1
       obtain⟨m2,r2,v2⟩:=t2
       obtain⟨b0,u0,_,rt0,c0,y0,rfl,e1,e2,v0,rfl⟩:=t0.hd0 ra
       refine hX ?_
       refine KR rfl (Af.of ha') ?_
       refine El rfl (Ax.of hl) ?_
       refine Bg rfl ?_
       refine Bg rfl ?_
       refine Gc rfl ?_
       refine⟨_,rfl,l,_,_,_,rfl,rfl,Ax.of hl,rfl,b0,_,_,_,rfl,rfl,Af.of e1,Ag,c0,_,_,_,rfl,rfl,Af.of e2,Ag,_,rfl,l,_,_,_,rfl,rfl,Ax.of hl,rfl,_,rfl,l,_,_,_,rfl,rfl,Ax.of hl,rfl,_,rfl,?_⟩
       exact⟨_,x1,x2,y,_,m1,m2,_,_,_,_,hm,rfl,v0,r1,r2,v1,v2,rb,rc,ft,(by omega),(by omega),(by omega),(by omega),hy,k⟩
  ·have tb':Paired (Bm H) us [Au fo g hm fa]:=tb
   cases tb' with
   | @cons x0 _ _ _ t0 tb'=>
    cases tb'
    cases hv with
    | @nd a t _ us _ ha ht hl' hh=>
     have ha':H a=some (.tup (vS "turn"::us)):=ha
     rw[JJ]at k
     obtain⟨m0,r0,v0⟩:=t0
     refine hX ?_
     refine KR rfl (Af.of ha') ?_
     refine El rfl (Ax.of hl) ?_
     refine Bg rfl ?_
     refine Bg rfl ?_
     refine Bg rfl ?_
     refine Gc rfl ?_
     refine⟨_,rfl,l,_,_,_,rfl,rfl,Ax.of hl,rfl,x0,m0,_,rfl,r0,BE v0 ra,(by omega),(by rw[Paired.length v0];omega),fun z H1 hz s1=>?_⟩
     refine k z H1 ⟨_,hz,?_⟩ s1
     rw[show wd (Au fo g hm fa)=_ from ra.wd]
     exact By.kp (Nu v0 ra) (Kp.same s1)
  ·have tb':Paired (Bm H) us [Au fo g hm fa,Au fo g hm fb]:=tb
   cases tb' with
   | @cons x0 _ _ _ t0 tb'=>
    cases tb' with
    | @cons x1 _ _ _ t1 tb'=>
     cases tb'
     cases hv with
     | @nd a t _ us _ ha ht hl' hh=>
      have ha':H a=some (.tup (vS "stack"::us)):=ha
      rw[Hc]at k
      obtain⟨m0,⟨q0,us0,rfl,hq0,p0⟩,v0⟩:=t0
      obtain⟨m1,⟨q1,us1,rfl,hq1,p1⟩,v1⟩:=t1
      have l0:us0.length=(Au fo g hm fa).length:=(Paired.length p0).trans (Paired.length v0)
      have l1:us1.length=(Au fo g hm fb).length:=(Paired.length p1).trans (Paired.length v1)
      have g0:=ra.len
      have g1:=rb.len
      refine hX ?_
      refine KR rfl (Af.of ha') ?_
      refine El rfl (Ax.of hl) ?_
      refine Bg rfl ?_
      refine Bg rfl ?_
      refine Bg rfl ?_
      refine Bg rfl ?_
      refine Gc rfl ?_
      refine⟨_,rfl,l,_,_,_,rfl,rfl,Ax.of hl,rfl,_,rfl,l,_,_,_,rfl,rfl,Ax.of hl,rfl,q0,q1,us0,us1,rfl,rfl,Af.of hq0,Af.of hq1,(fun z=>by rw[z]at l0;simp at l0;omega),Cn (by omega),?_⟩
      refine⟨fun z=>absurd z (fun z=>by rw[z]at l1;simp at l1;omega),fun _ q hq=>?_⟩
      refine k _ _ ⟨m0++m1,⟨q,us0++us1,rfl,AE,?_⟩,?_⟩ (AI.new hq)
      ·exact Lr (Paired.imp' (fun _ _ ⟨c,e,y⟩=>⟨c,e,AI.new hq _ _ y⟩) p0) (Paired.imp' (fun _ _ ⟨c,e,y⟩=>⟨c,e,AI.new hq _ _ y⟩) p1)
      ·exact Lr (By.kp v0 (Kp.new hq)) (By.kp v1 (Kp.new hq))
  ·have tb':Paired (Bm H) us [Au fo g hm fa,Au fo g hm fb]:=tb
   cases tb' with
   | @cons x0 _ _ _ t0 tb'=>
    cases tb' with
    | @cons x1 _ _ _ t1 tb'=>
     cases tb'
     cases hv with
     | @nd a t _ us _ ha ht hl' hh=>
      have ha':H a=some (.tup (vS "grid"::.int h_::.int w_::us)):=ha
      rw[JI]at k
      obtain⟨q0,us0,x0',rt0,b0,y0,rfl,hq0,hb0,vv0,_⟩:=t0.hd0 ra
      obtain⟨q1,us1,x1',rt1,b1,y1,rfl,hq1,hb1,vv1,_⟩:=t1.hd0 rb
      refine hX ?_
      refine KR rfl (Af.of ha') ?_
      refine El rfl (Ax.of hl) ?_
      refine Bg rfl ?_
      refine Bg rfl ?_
      refine Bg rfl ?_
      refine Bg rfl ?_
      refine Bg rfl ?_
      refine Gc rfl ?_
      refine⟨_,rfl,a,_,_,_,rfl,rfl,Af.of ha',OQ,_,rfl,a,_,_,_,rfl,rfl,Af.of ha',OR,_,rfl,l,_,_,_,rfl,rfl,Ax.of hl,rfl,q0,_,_,_,rfl,rfl,Af.of hq0,Ag,b0,_,_,_,rfl,rfl,Af.of hb0,Ag,_,rfl,l,_,_,_,rfl,rfl,Ax.of hl,rfl,q1,_,_,_,rfl,rfl,Af.of hq1,Ag,b1,_,_,_,rfl,rfl,Af.of hb1,Ag,_,rfl,?_⟩
      exact⟨h_,w_,y0,y1,y,_,_,hm,rfl,h1,(by omega),w1,(by omega),vv0,vv1,Jt ra oka,Jt rb okb,hy,ho,k⟩
  ·have tb':Paired (Bm H) us [Au fo g hm fa]:=tb
   cases tb' with
   | @cons x0 _ _ _ t0 tb'=>
    cases tb'
    cases hv with
    | @nd a t _ us _ ha ht hl' hh=>
     have ha':H a=some (.tup (.str z_::us)):=ha
     rw[Oi hz4]at k
     refine hX ?_
     refine KR rfl (Af.of ha') ?_
     refine El rfl (Ax.of hl) ?_
     refine⟨_,rfl,rfl,false,LI hz4 (by simp),Ah ?_⟩
     refine⟨_,rfl,rfl,false,LI hz4 (by simp),Ah ?_⟩
     refine⟨_,rfl,rfl,false,LI hz4 (by simp),Ah ?_⟩
     refine⟨_,rfl,rfl,false,LI hz4 (by simp),Ah ?_⟩
     refine⟨_,rfl,rfl,false,LI hz4 (by simp),Ah ?_⟩
     refine⟨_,rfl,rfl,false,LI hz4 (by simp),Ah ?_⟩
     refine⟨_,rfl,_,rfl,_,rfl,_,rfl,y,l,a,_,hm,rfl,hl,hy,.inl ⟨z_,us,x0,_,hz4,ha',rfl,t0,ga,fun z H1 hz s1=>?_⟩⟩
     refine⟨z,rfl,fun x H2 hx s2=>k x H2 ⟨_,hx,.cons (.cons (hz.kp (Kp.same s2)) .nil) .nil⟩ (s1.trans s2)⟩
  ·have tb':Paired (Bm H) us [Au fo g hm fa]:=tb
   cases tb' with
   | @cons x0 _ _ _ t0 tb'=>
    cases tb'
    cases hv with
    | @nd a t _ us _ ha ht hl' hh=>
     have ha':H a=some (.tup (vS "outer"::us)):=ha
     rw[Hb]at k
     refine hX ?_
     refine KR rfl (Af.of ha') ?_
     refine El rfl (Ax.of hl) ?_
     refine Bg rfl ?_
     refine Bg rfl ?_
     refine Bg rfl ?_
     refine Bg rfl ?_
     refine Bg rfl ?_
     refine Bg rfl ?_
     refine⟨_,rfl,_,rfl,_,rfl,_,rfl,y,l,a,_,hm,rfl,hl,hy,.inr (.inl ⟨us,x0,_,ha',rfl,t0,ga,fun z H1 hz s1=>?_⟩)⟩
     refine⟨z,rfl,fun x H2 hx s2=>k x H2 ⟨_,hx,.cons (.cons (hz.kp (Kp.same s2)) .nil) .nil⟩ (s1.trans s2)⟩
  ·have tb':Paired (Bm H) us [Au fo g hm fa,Au fo g hm fb,Au fo g hm fc]:=tb
   cases tb' with
   | @cons x0 _ _ _ t0 tb'=>
    cases tb' with
    | @cons x1 _ _ _ t1 tb'=>
     cases tb' with
     | @cons x2 _ _ _ t2 tb'=>
      cases tb'
      cases hv with
      | @nd a t _ us _ ha ht hl' hh=>
       obtain⟨u0,u1,u2,rfl⟩:=Xk (show us.length=3 from hl')
       have ha':H a=some (.tup [vS "sumif",u0,.str s_,u1,u2]):=ha
       rw[Ha]at k
       refine hX ?_
       refine KR rfl (Af.of ha') ?_
       refine El rfl (Ax.of hl) ?_
       refine Bg rfl ?_
       refine Bg rfl ?_
       refine Bg rfl ?_
       refine Bg rfl ?_
       refine Bg rfl ?_
       refine Bg rfl ?_
       refine⟨_,rfl,_,rfl,_,rfl,_,rfl,y,l,a,_,hm,rfl,hl,hy,.inr (.inr (.inl ⟨s_,u0,u1,u2,x0,x1,x2,_,_,_,ha',rfl,t0,t1,t2,ga,gb,gc,el,ew,fun z H1 hz s1=>?_⟩))⟩
       refine⟨z,rfl,fun x H2 hx s2=>k x H2 ⟨_,hx,.cons (.cons (hz.kp (Kp.same s2)) .nil) .nil⟩ (s1.trans s2)⟩
  ·have tb':Paired (Bm H) us [Au fo g hm fa,Au fo g hm fb,Au fo g hm fc]:=tb
   cases tb' with
   | @cons x0 _ _ _ t0 tb'=>
    cases tb' with
    | @cons x1 _ _ _ t1 tb'=>
     cases tb' with
     | @cons x2 _ _ _ t2 tb'=>
      cases tb'
      cases hv with
      | @nd a t _ us _ ha ht hl' hh=>
       have ha':H a=some (.tup (vS "find"::us)):=ha
       rw[JK]at k
       refine hX ?_
       refine KR rfl (Af.of ha') ?_
       refine El rfl (Ax.of hl) ?_
       refine Bg rfl ?_
       refine Bg rfl ?_
       refine Bg rfl ?_
       refine Bg rfl ?_
       refine Bg rfl ?_
       refine Bg rfl ?_
       refine⟨_,rfl,_,rfl,_,rfl,_,rfl,y,l,a,_,hm,rfl,hl,hy,.inr (.inr (.inr ⟨us,x0,x1,x2,_,_,_,ha',rfl,t0,t1,t2,ga,gb,gc,fun z H1 hz s1=>?_⟩))⟩
       refine⟨z,rfl,fun x H2 hx s2=>k x H2 ⟨_,hx,.cons (.cons (hz.kp (Kp.same s2)) .nil) .nil⟩ (s1.trans s2)⟩
theorem N1:AW ["opened","cell","shows","outer"] ["opened","cell","shows","outer"] (AL Gv):=A9
theorem Ei (T:Txt w K mg t){Dp:Hp→Prop}{dom:Str→Int→Int→Prop}{g:Str→Int→Int→Vl}{fo:Vl→Vl}{f o:Addr}(G:FV P w K mg base 1 f (ST Dp dom g))(G2:FV P w K mg base 3 o (Og fo))(hD:∀ H H',DR H H'→Dp H→Dp H')(hC:PySem.W.CodeHd base t.gb t.ep)(hB:BM mg base):Av P w K mg base Bj 13 t.db t.dc ["opened","cell","shows","outer"] (Ju t.ep f o Dp dom g fo):=by
 have D:=T.gb
 refine D.fn.okCX N1 ?_ (fun cdv A outer s H vs Q E hcd hr h Z hZ=>?_)
 ·rintro _ _ _ _ ⟨v,y,fm,n,hm,rfl,_⟩
  rfl
 ·obtain⟨v,y,fm,n,hm,rfl,hv,fo_,h8,okA,hd,hy,ho,ht,k⟩:=h
  refine hZ ⟨_,((AF (AJ (Fv (k:=12) (BB hr) (by rfl) T.f4.gl T.f4.fn.kp T.f4.b (Ai (AR T.f3 (L4 T) (BB hr) (AA (AH 0) AB)) (Cr (FC (clos:=[("shows",s.heap.objs.size+2),("outer",s.heap.objs.size+3),("cell",s.heap.objs.size+1)]) rfl (by with_unfolding_all rfl) (hcd.symm.trans T.hw) hC hB) AB)))))),?_⟩
  try dsimp only[A6,An]
  refine⟨_,rfl,v,fm,0,n,rfl,hv,fo_,h8,fun l ws H1 hl0 hl fms s1=>?_⟩
  refine⟨ht.sm s1,fun lf H2 nf keep tab lam=>?_⟩
  obtain⟨ps,hP,_⟩:=ht.sm s1
  have d2:DR H1 H2:=DR.tab hP keep
  have dd:DR H (L2.del qR H2):=((DR.of s1).trans d2).trans (DR.del qR H2)
  obtain⟨c',ctv,hlf,hcd'⟩:=lam
  refine⟨qR,RE lf Bm (Au fo g hm) (okN dom g fo hm) (fun H=>Dp H∧DP H y hm),fun base' W=>?_,?_⟩
  ·refine IM T (fun H H' v b s x=>x.kp s) (fun H H' s x=>⟨hD _ _ s x.1,x.2.kp s.kp⟩) ?_
   refine W.lam (k:=10) (ps:=["formula","tables"]) (fv:=["cell","shows","outer"]) (js:=[1,2,3]) hlf hcd' ⟨rfl,rfl,rfl,by nofun,(List.forall_mem_cons.mpr ⟨rfl,(List.forall_mem_cons.mpr ⟨rfl,(List.forall_mem_nil _)⟩)⟩),by nofun,by nofun,(List.forall_mem_cons.mpr ⟨⟨rfl,rfl,rfl⟩,(List.forall_mem_cons.mpr ⟨⟨rfl,rfl,rfl⟩,(List.forall_mem_cons.mpr ⟨⟨rfl,rfl,rfl⟩,(List.forall_mem_nil _)⟩)⟩)⟩),(List.forall_mem_cons.mpr ⟨rfl,(List.forall_mem_cons.mpr ⟨rfl,(List.forall_mem_cons.mpr ⟨rfl,(List.forall_mem_nil _)⟩)⟩)⟩),(.cons rfl (.cons rfl (.cons rfl .nil)))⟩ (fun us hl=>by obtain⟨_,_,rfl⟩:=Xj hl;rfl) (fun vs H Q E h=>?_) (fun A outer s H vs Q E hr h=>?_)
   ·obtain⟨_,_,_,_,_,rfl,_⟩:=h
    rfl
   ·obtain⟨v',f',l',us',n',rfl,hv',fo',ok',⟨hd',hy'⟩,hl',tb',k'⟩:=h
    refine⟨_,(AR T.ga (Hl (hm:=hm) T (W.fv G) (W.fv G2) hD) (hr.mono (by omega)) (AA (AH 0) (AA (AH 1) (AA (AH 2) (AA (AH 3) (AA (AH 4) AB)))))),?_⟩
    exact⟨_,rfl,_,rfl,_,rfl,_,rfl,_,rfl,v',y,f',l',us',n',rfl,hv',fo',ok',hd',hl',tb',hy',ho,k'⟩
  ·have d3:=d2.trans (DR.del qR H2)
   refine⟨l,fm,ws,n,rfl,d3 _ _ hl rfl,CK.kp fms d3.kp,fo_,h8,okA,⟨hD _ _ dd hd,hy.kp dd.kp⟩,fun x H3 hx s3 hn=>?_⟩
   exact k x _ (hx.kp (Kp.back hn)) (fun b o hb e=>MZ s3 _ _ (keep b o hb (s1 _ _ e))) (tab.sm (MZ s3))
theorem DN:AW ["_law_top","_law_bottom","_law_one","_law_other"] ["_law_top","_law_bottom"] (AL Eu):=A9
theorem DC (T:Txt w K mg t):Av P w K mg base Bj 1 t.dd t.de ["_law_top","_law_bottom"] Wf:=by
 have D:=T.gc
 refine D.fn.okX DN ?_ (fun cdv A outer s H vs Q E hr h Z hZ=>?_)
 ·rintro _ _ _ _ ⟨t_,b,rfl,_⟩
  rfl
 ·obtain⟨t_,b,rfl,hb1,hz,k⟩:=h
  refine hZ ⟨_,((AD (Ac (i:=2) DN.nd rfl (Or.inl rfl) (AT Ex (by rfl) T.ha E1 (AA (AH 0) AB)))
   (AD (Ac (i:=3) DN.nd rfl (Or.inl rfl) (AH 1))
   (AD (JO PassesOwn.never (AQ Kq (AH 3) AC (AN _)) (AF (Tm (i:=2) (j:=3) rfl DN.nd rfl rfl (by decide) rfl rfl (AA (AH 3) (AV (AY Cd (AH 2) (AH 3)) AB)) rfl)))
   (AF (AJ (Al (AG AM (AV (AY Fn (AH 0) (AH 2)) (AV (AY Fn (AH 1) (AH 2)) AB)))))))))),?_⟩
  try dsimp only[A6,An]
  have hb:b≠0:=by omega
  refine⟨_,rfl,t_,rfl,?_⟩
  refine⟨_,rfl,?_⟩
  refine ME (fun σ H'=>H'=H∧∃(m n:Nat),σ=[some (.int t_),some (.int b),some (.int m),some (.int n)]∧Nat.gcd m n=Nat.gcd t_.natAbs b.natAbs)
   (fun σ _=>S5 σ) ⟨rfl,t_.natAbs,b.natAbs,by rw[← Lb t_,show((b.natAbs:Nat):Int)=b by omega];rfl,rfl⟩ ?_ (fun σ H Q Q' hq ⟨v,e,i,j,z1,z2,c,e2,q⟩=>⟨v,e,i,j,z1,z2,c,e2,hq _ _ q⟩)
  rintro σ H' ⟨rfl,m,n,rfl,hg⟩
  refine⟨_,rfl,_,_,rfl,rfl,_,rfl,?_⟩
  refine Ba (fun hc=>?_) (fun hc=>?_)
  ·have hn:(0:Int)<(n:Int):=by simpa using hc
   refine⟨_,rfl,_,rfl,_,rfl,_,_,rfl,rfl,hn,_,_,rfl,?_⟩
   refine⟨⟨rfl,n,m%n,?_,by rw[Mi];exact hg⟩,?_⟩
   ·rw[Int.natCast_emod];rfl
   ·show((m:Int)%(n:Int)).toNat<((n:Int)).toNat
    have h1:=Int.emod_lt_of_pos (m:Int) hn
    have h2:=Int.emod_nonneg (m:Int) (show(n:Int)≠0 by omega)
    omega
  ·have hn':¬ (0:Int)<(n:Int):=by simpa using hc
   have hn:n=0:=by omega
   subst hn
   rw[Nat.gcd_zero_right]at hg
   subst hg
   have h0:=LC (t:=t_) hb
   have h1:=S6 (t:=t_) hb hz
   unfold CP CB at k
   have e:dv t_ b=((Nat.gcd t_.natAbs b.natAbs:Nat):Int):=if_neg (by omega)
   rw[e]at k h0 h1
   exact⟨_,rfl,_,rfl,_,_,rfl,rfl,⟨h0,h1⟩,_,rfl,_,rfl,_,_,rfl,rfl,⟨h0,h1⟩,As,k⟩
theorem KE:AW ["_law_script","_law_k"] ["_law_script","_law_k"] (AL EM):=A9
theorem Dd (T:Txt w K mg t):Av P w K mg base Bj 1 t.df t.dg ["_law_script","_law_k"] (Wc K):=by
 have D:=T.gd
 refine D.fn.okX KE ?_ (fun cdv A outer s H vs Q E hr h Z hZ=>?_)
 ·rintro _ _ _ _ ⟨a,ns,i,rfl,_⟩
  rfl
 ·obtain⟨a,ns,i,rfl,hS,h0,k⟩:=h
  refine hZ ⟨_,((AD (Ak (AQ FS (AH 1) (AT Ab (by rfl) T.gz PySem.boot_len (AA (AH 0) AB)) (AN _)) (AF (AJ (AK Ay (AH 0) (AH 1) (fun _ _=>rfl)))) AU)
   (AF (AJ AC)))),?_⟩
  try dsimp only[A6,An]
  refine⟨_,rfl,_,rfl,a,_,rfl,.inl hS,_,_,rfl,rfl,_,rfl,Ba (fun c1=>?_) (fun c1=>k 0)⟩
  have hlt:i<(ns.length:Int):=by have:=of_decide_eq_true c1;rw[List.length_map]at this;exact this
  obtain⟨v,hv⟩:=Q2 (ns:=ns) h0 hlt
  exact⟨_,rfl,_,rfl,a,_,_,_,rfl,rfl,hS,hv,k v⟩
theorem N2:AW ["_law_script"] ["_law_script"] (AL Gw):=A9
theorem NA (T:Txt w K mg t):Av P w K mg base Bj 2 t.dh t.di ["_law_script"] (Wd K):=by
 have D:=T.ge
 refine D.fn.okX N2 ?_ (fun cdv A outer s H vs Q E hr h Z hZ=>?_)
 ·rintro _ _ _ _ ⟨a,ns,rfl,_⟩
  rfl
 ·obtain⟨a,ns,rfl,hS,h63,k⟩:=h
  refine hZ ⟨_,((AF (AJ (Bq (AA (AH 0) (CU (A3 Aj (AY Cd (AR T.gd (Dd T) (BB hr) (AA (AH 0) (AG AC AB))) AC) AC (AN _)) (AG AC (AG AC AB)))))))),?_⟩
  try dsimp only[A6,An]
  refine⟨_,rfl,_,rfl,a,ns,0,rfl,hS,(by decide),fun v=>⟨_,_,rfl,rfl,(by show(0:Int)<_;decide),rfl,(by show 4≤sizeLine;decide),fun p hp=>?_⟩⟩
  exact k p _ hp ⟨_,0,0,AE,(AI.new hp).seq hS,by decide,by decide,h63⟩ (AI.new hp)
theorem DQ:AW ["_law_pen_here","_law_most","_law_count","_law_drawn","_law_mixing"] ["_law_pen_here","_law_most"] (AL F9):=A9
theorem Ae (T:Txt w K mg t):Av P w K mg base Bj 2 t.dj t.dk ["_law_pen_here","_law_most"] (We K):=by
 have D:=T.gf
 refine D.fn.okX DQ ?_ (fun cdv A outer s H vs Q E hr h Z hZ=>?_)
 ·rintro _ _ _ _ ⟨p,m,n,S,rfl,_⟩
  rfl
 ·obtain⟨p,m,n,S,rfl,hm,hz,hpen,hn,k⟩:=h
  refine hZ ⟨_,((AD (Ac (i:=2) DQ.nd rfl (Or.inl rfl) (AK Ay (AH 0) AC (fun _ _=>rfl)))
   (AD (NH (AY A0 (AH 2) AC) (NG (AH 0) AC JT))
   (AD (Ak (BR (AK Ay (AH 0) AC (fun _ _=>rfl))) (AD (Ak (AQ Aj (AY Cd (AH 2) AC) AC (AN _)) (AF (NH (AR T.gd (Dd T) (BB hr) (AS (AK Ay (AH 0) AC (fun _ _=>rfl)) (AV (AY A0 AC (AY LN (AH 2) AC)) AB))) (NG (AH 0) AC JT))) AU)
   (AD (Ac (i:=3) DQ.nd rfl (Or.inl rfl) (AY Cd (AK Ay (AH 0) AC (fun _ _=>rfl)) (AH 1)))
   (AD (NH (AY Fn (AK Ay (AH 0) AC (fun _ _=>rfl)) (AH 1)) (NG (AH 0) AC JT))
   (AF (AJ (AH 3)))))) AU)
   (AD (Ac (i:=4) DQ.nd rfl (Or.inl rfl) (AY Cd (AY BQ (AY A0 (AY Cd (AR T.gd (Dd T) (BB hr) (AS (AK Ay (AH 0) AC (fun _ _=>rfl)) (AV (AY A0 AC (AY Cd (AH 2) AC)) AB))) AC) AC) (AY A0 AC (AY BQ AC (AH 2)))) AC))
   (AD (Ac (i:=4) DQ.nd rfl (Or.inl rfl) (AY Cd (AY BQ (AH 4) (AY A0 (AY A0 (AY Cd (AH 4) AC) (AH 2)) AC)) AC))
   (AF (AJ (AY Cd (AY LN (AY Cd (AY BQ (AH 4) (AY A0 (AY Cd (AH 4) AC) AC)) AC) AC) (AH 1)))))))))),?_⟩
  try dsimp only[A6,An]
  obtain⟨a,ns⟩:=S
  obtain⟨b,c,r,hp,hS,hc0,hc1,h63⟩:=hpen
  dsimp only at hp hS h63
  refine⟨_,rfl,p,_,_,_,rfl,rfl,Ax.of hp,rfl,?_⟩
  refine⟨_,rfl,_,_,rfl,rfl,_,rfl,p,_,_,2,rfl,rfl,hp,rfl,?_⟩
  have hp1:upd H p (.lst [.ref a,.bl b,.int (c+1),.int r]) p=some (.lst [.ref a,.bl b,.int (c+1),.int r]):=AE
  have kp1:Aw p H (upd H p (.lst [.ref a,.bl b,.int (c+1),.int r])):=Aw.upd
  show _
  generalize hH1:upd H p (.lst [.ref a,.bl b,.int (c+1),.int r])=H1 at hp1 kp1
  have hH1':upd H p (.lst (([.ref a,.bl b,.int c,.int r]:List V).set 2 (.int (c+1))))=H1:=hH1
  have hS1:=Ax.kl hS hp kp1
  have fin:∀(r' x:Int) (H2:Hp),0≤x→x<m→H2 p=some (.lst [.ref a,.bl b,.int (c+1),.int r'])→Aw p H H2→Q (.int x) H2:=fun r' x H2 x0 x1 h2 kp=>
   k x H2 x0 x1 ⟨b,c+1,r',h2,Ax.kl hS hp kp,by omega,by omega,h63⟩ kp
  rw[hH1']
  refine⟨_,rfl,p,_,_,_,rfl,rfl,Ax.of hp1,rfl,b,rfl,?_⟩
  cases b with
  | true=>
   refine Az ?_
   have last:∀(r':Int) (H2:Hp),H2 p=some (.lst [.ref a,.bl true,.int (c+1),.int r'])→Aw p H H2→Q (.int (r'%m)) (upd H2 p (.lst [.ref a,.bl true,.int (c+1),.int (r'.fdiv m)])):=fun r' H2 h2 kp=>
    fin (r'.fdiv m) (r'%m) (upd H2 p (.lst [.ref a,.bl true,.int (c+1),.int (r'.fdiv m)])) (Int.emod_nonneg _ (by omega)) (Int.emod_lt_of_pos _ hm) AE (kp.trans Aw.upd)
   refine⟨_,rfl,_,_,rfl,rfl,(by show(0:Int)<_;decide),rfl,_,rfl,Ba (fun c2=>?_) (fun c2=>?_)⟩
   ·refine⟨_,rfl,p,_,_,_,rfl,rfl,Ax.of hp1,rfl,_,rfl,_,_,rfl,rfl,⟨by decide,by decide⟩,_,_,rfl,rfl,a,ns,_,rfl,hS1,(by omega),fun v=>⟨_,rfl,p,_,_,3,rfl,rfl,hp1,rfl,?_⟩⟩
    have hp2:upd H1 p (.lst [.ref a,.bl true,.int (c+1),.int v]) p=some (.lst [.ref a,.bl true,.int (c+1),.int v]):=AE
    refine⟨_,rfl,p,_,_,_,rfl,rfl,Ax.of hp2,rfl,_,rfl,_,_,rfl,rfl,hm,?_⟩
    refine⟨_,rfl,p,_,_,_,rfl,rfl,Ax.of hp2,rfl,_,rfl,_,_,rfl,rfl,⟨by omega,hz⟩,_,rfl,p,_,_,3,rfl,rfl,hp2,rfl,?_⟩
    exact⟨_,rfl,last v _ hp2 (kp1.trans Aw.upd)⟩
   ·refine⟨_,rfl,p,_,_,_,rfl,rfl,Ax.of hp1,rfl,_,rfl,_,_,rfl,rfl,hm,?_⟩
    refine⟨_,rfl,p,_,_,_,rfl,rfl,Ax.of hp1,rfl,_,rfl,_,_,rfl,rfl,⟨by omega,hz⟩,_,rfl,p,_,_,3,rfl,rfl,hp1,rfl,?_⟩
    exact⟨_,rfl,last r _ hp1 kp1⟩
  | false=>
   refine Ah ?_
   refine⟨_,rfl,p,_,_,_,rfl,rfl,Ax.of hp1,rfl,_,rfl,_,_,rfl,rfl,(by show(0:Int)<_;decide),_,_,rfl,rfl,a,ns,_,rfl,hS1,(by omega),fun v=>?_⟩
   have n1:=Int.emod_nonneg v (show(2147483629:Int)≠0 by decide)
   have n2:=Int.emod_lt_of_pos v (show(0:Int)<2147483629 by decide)
   refine⟨_,_,rfl,rfl,(by show(0:Int)<_;decide),?_⟩
   generalize v%2147483629=y at n1 n2 ⊢
   have m1:=Int.emod_nonneg ((y+1)*(48271+69621*c)) (show(2147483647:Int)≠0 by decide)
   have m2:=Int.emod_lt_of_pos ((y+1)*(48271+69621*c)) (show(0:Int)<2147483647 by decide)
   refine⟨_,_,rfl,rfl,_,rfl,_,_,rfl,rfl,⟨A5 (by decide) (by decide),A5 (by omega) (by omega)⟩,_,_,rfl,rfl,_,_,rfl,rfl,⟨A5 (by omega) (by omega),A5 (by omega) (by omega)⟩,_,_,rfl,rfl,(by show(0:Int)<_;decide),?_⟩
   generalize (y+1)*(48271+69621*c)%2147483647=x at m1 m2 ⊢
   have q1:=Int.emod_nonneg (x*(x%65521+c+3)) (show(2147483629:Int)≠0 by decide)
   have q2:=Int.emod_lt_of_pos (x*(x%65521+c+3)) (show(0:Int)<2147483629 by decide)
   refine⟨_,rfl,_,rfl,_,_,rfl,rfl,(by show(0:Int)<_;decide),_,rfl,_,_,rfl,rfl,_,_,rfl,rfl,_,_,rfl,rfl,⟨A5 (by omega) (by omega),A5 (by omega) (by omega)⟩,_,_,rfl,rfl,(by show(0:Int)<_;decide),?_⟩
   generalize x*(x%65521+c+3)%2147483629=w' at q1 q2 ⊢
   refine⟨_,rfl,_,rfl,_,_,rfl,rfl,(by show(0:Int)<_;decide),_,_,rfl,rfl,_,_,rfl,rfl,⟨A5 (by omega) (by omega),A5 (by omega) (by omega)⟩,_,_,rfl,rfl,(by show(0:Int)<_;decide),_,_,rfl,rfl,⟨by decide,by decide⟩,_,rfl,_,_,rfl,rfl,hm,?_⟩
   exact fin r _ H1 (Int.emod_nonneg _ (by omega)) (Int.emod_lt_of_pos _ hm) hp1 kp1
theorem Hn:AW ["_law_pen_here"] ["_law_pen_here"] (AL Cy):=A9
theorem EU (T:Txt w K mg t):Av P w K mg base Bj 3 t.dl t.dm ["_law_pen_here"] (Wg K):=by
 have D:=T.gg
 refine D.fn.okX Hn ?_ (fun cdv A outer s H vs Q E hr h Z hZ=>?_)
 ·rintro _ _ _ _ ⟨p,n,S,rfl,_⟩
  rfl
 ·obtain⟨p,n,S,rfl,hpen,hn,k⟩:=h
  refine hZ ⟨_,((AF (AJ (Al (AS (AK Ay (Bq (AG AM (AG AM AB))) (AR T.gf (Ae T) (BB hr) (AA (AH 0) (AG AC AB))) (fun _ _=>rfl)) (AV (AY A0 AC (AR T.gf (Ae T) (BB hr) (AA (AH 0) (AG AC AB)))) (AV (AY A0 AC (AR T.gf (Ae T) (BB hr) (AA (AH 0) (AG AC AB)))) AB))))))),?_⟩
  try dsimp only[A6,An]
  refine⟨BG,fun l hl=>?_⟩
  refine⟨_,rfl,p,_,_,S,rfl,(by show(0:Int)<_;decide),A5 (by decide) (by decide),(hpen.same (AI.new hl)),(by omega),fun r1 H1 a1 b1 pen1 kp1=>?_⟩
  obtain⟨hl1,kq1⟩:=Xy hpen hl kp1
  obtain⟨v,hv,hvm⟩:=ZD (x:=vS "main") (y:=vS "b") a1 b1
  obtain⟨z,rfl,nz⟩:∃ z,v=V.str z∧Nm z:=by
   rcases hvm with rfl | rfl
   ·exact⟨_,rfl,SW⟩
   ·exact⟨_,rfl,Yr⟩
  refine⟨l,_,_,_,rfl,rfl,Ax.of hl1,hv,?_⟩
  refine⟨_,rfl,p,_,_,S,rfl,(by show(0:Int)<_;decide),A5 (by decide) (by decide),pen1,(by omega),fun r2 H2 a2 b2 pen2 kp2=>⟨_,_,rfl,rfl,?_⟩⟩
  refine⟨_,rfl,p,_,_,S,rfl,(by show(0:Int)<_;decide),A5 (by decide) (by decide),pen2,(by omega),fun r3 H3 a3 b3 pen3 kp3=>⟨_,_,rfl,rfl,As,fun q hq=>?_⟩⟩
  exact k q ⟨z,1+r2,1+r3⟩ _ AE nz (by show 1≤1+r2;omega) (by show 1+r2≤16;omega) (by show 1≤1+r3;omega) (by show 1+r3≤8;omega) (pen3.same (AI.new hq)) (((kq1.trans kp2).trans kp3).trans (AI.keep (AI.new hq)))
theorem Cm:AW ["_law_pen_here","_law_way","_law_edge"] ["_law_pen_here"] (AL Ch):=A9
theorem GV (T:Txt w K mg t):Av P w K mg base Bj 3 t.dn t.dp ["_law_pen_here"] (Wi K):=by
 have D:=T.gh
 refine D.fn.okX Cm ?_ (fun cdv A outer s H vs Q E hr h Z hZ=>?_)
 ·rintro _ _ _ _ ⟨p,n,S,rfl,_⟩
  rfl
 ·obtain⟨p,n,S,rfl,hpen,hn,k⟩:=h
  refine hZ ⟨_,((AD (Ac (i:=1) Cm.nd rfl (Or.inl rfl) (AR T.gf (Ae T) (BB hr) (AA (AH 0) (AG AC AB))))
   (AD (Ak (AQ Aj (AH 1) AC (AN _)) (AF (AJ (AR T.gc (DC T) (BB hr) (AV (AY BH (AR T.gf (Ae T) (BB hr) (AA (AH 0) (AV (AY BQ AC (AY JP AC AC)) AB))) (AY JP AC AC)) (AV (AY A0 AC (AR T.gf (Ae T) (BB hr) (AA (AH 0) (AV (AY JP AC AC) AB)))) AB))))) AU)
   (AD (Ac (i:=2) Cm.nd rfl (Or.inl rfl) (AY BH (AY BH (AY JP AC AC) AC) (AR T.gf (Ae T) (BB hr) (AA (AH 0) (AG AC AB)))))
   (AD (Ak (AQ Aj (AH 1) AC (AN _)) (AF (AJ (Al (AG AM (AV (AY BQ (AH 2) (AK Ay (Bq (AG AC (QG (P6 NK AC) AB))) (AR T.gf (Ae T) (BB hr) (AA (AH 0) (AG AC AB))) (fun _ _=>rfl))) (AG AC AB)))))) AU)
   (AF (AJ (AR T.gc (DC T) (BB hr) (AV (AY A0 AC (AR T.gf (Ae T) (BB hr) (AA (AH 0) (AG AC AB)))) (AA (AH 2) AB)))))))))),?_⟩
  try dsimp only[A6,An]
  have e30:=SY
  refine⟨_,rfl,p,_,_,S,rfl,(by show(0:Int)<_;decide),A5 (by decide) (by decide),hpen,(by omega),fun r1 H1 a1 b1 pen1 kp1=>⟨_,rfl,rfl,_,rfl,Ba (fun c1=>?_) (fun c1=>?_)⟩⟩
  ·refine⟨_,rfl,_,_,rfl,rfl,⟨by decide,by decide,by decide⟩,_,_,rfl,rfl,⟨(OL (n:=200) (by decide)).mono (by decide),(OL (n:=200) (by decide)).mono (by decide)⟩,p,_,_,S,rfl,(by show(0:Int)<_;decide),(OL (n:=200) (by decide)).mono (by decide),pen1,(by omega),fun r2 H2 a2 b2 pen2 kp2=>?_⟩
   refine⟨_,_,rfl,rfl,⟨by decide,by decide,by decide⟩,_,_,rfl,rfl,_,rfl,_,_,rfl,rfl,⟨by decide,by decide,by decide⟩,p,_,_,S,rfl,(by show(0:Int)<_;decide),(OL (n:=200) (by decide)).mono (by decide),pen2,(by omega),fun r3 H3 a3 b3 pen3 kp3=>⟨_,_,rfl,rfl,?_⟩⟩
   rw[ZW]at b2 ⊢
   rw[p9]at b3
   refine⟨_,_,rfl,(by omega),Pm (by omega) (by omega),fun q hq=>k _ _ _ SX (Lm (by omega) (by omega) (by omega)) ((pen3.same (AI.new hq)).mono (by omega)) (((kp1.trans kp2).trans kp3).trans (AI.keep (AI.new hq)))⟩
  ·refine⟨_,_,rfl,rfl,⟨by decide,by decide,by decide⟩,_,_,rfl,rfl,_,rfl,p,_,_,S,rfl,(by show(0:Int)<_;decide),A5 (by decide) (by decide),pen1,(by omega),fun r2 H2 a2 b2 pen2 kp2=>⟨_,_,rfl,rfl,?_⟩⟩
   rw[ZX]
   refine⟨_,rfl,rfl,_,rfl,Ba (fun c2=>?_) (fun c2=>?_)⟩
   ·refine⟨_,rfl,1,rfl,BG,fun l hl=>⟨_,rfl,p,_,_,S,rfl,(by show(0:Int)<_;decide),A5 (by decide) (by decide),(pen2.same (AI.new hl)),(by omega),fun r3 H3 a3 b3 pen3 kp3=>?_⟩⟩
    obtain⟨hl3,kq3⟩:=Xy pen2 hl kp3
    obtain⟨v,hv,hvm⟩:=ZD (x:=.int 1) (y:=.int (-1)) a3 b3
    obtain⟨z,rfl,nz⟩:∃ z:Int,v=V.int z∧(z=1∨z = -1):=by
     rcases hvm with rfl | rfl
     ·exact⟨_,rfl,.inl rfl⟩
     ·exact⟨_,rfl,.inr rfl⟩
    refine⟨l,_,_,_,rfl,rfl,Ax.of hl3,hv,_,_,rfl,rfl,⟨Pm (by omega) (by omega),Pm (by omega) (by omega)⟩,As,fun q hq=>?_⟩
    refine k _ _ _ SX (Gk ?_) ((pen3.same (AI.new hq)).mono (by omega)) (((kp1.trans kp2).trans kq3).trans (AI.keep (AI.new hq)))
    rcases nz with rfl | rfl
    ·rw[Int.mul_one];omega
    ·rw[Int.mul_neg,Int.mul_one];omega
   ·refine⟨_,rfl,p,_,_,S,rfl,(by show(0:Int)<_;decide),A5 (by decide) (by decide),pen2,(by omega),fun r3 H3 a3 b3 pen3 kp3=>⟨_,_,rfl,rfl,_,rfl,?_⟩⟩
    exact⟨_,_,rfl,(by omega),Pm (by omega) (by omega),fun q hq=>k _ _ _ SX (Lm (by omega) (by omega) (by omega)) ((pen3.same (AI.new hq)).mono (by omega)) (((kp1.trans kp2).trans kp3).trans (AI.keep (AI.new hq)))⟩
theorem B2:AW ["_law_pen_here","_law_way","_law_some","_law_words"] ["_law_pen_here"] (AL Ci):=A9
theorem GW (T:Txt w K mg t):Av P w K mg base Bj 4 t.dq t.dr ["_law_pen_here"] (Wh K):=by
 have D:=T.gi
 refine D.fn.okX B2 ?_ (fun cdv A outer s H vs Q E hr h Z hZ=>?_)
 ·rintro _ _ _ _ ⟨p,n,S,rfl,_⟩
  rfl
 ·obtain⟨p,n,S,rfl,hpen,hn,k⟩:=h
  refine hZ ⟨_,((AD (Ac (i:=1) B2.nd rfl (Or.inl rfl) (AR T.gf (Ae T) (BB hr) (AA (AH 0) (AG AC AB))))
   (AD (Ak (AQ FS (AH 1) AC (AN _)) (AF (AJ (Al (AG AM AB)))) AU)
   (AD (Ak (AQ FS (AH 1) AC (AN _)) (AF (AJ (AR T.gc (DC T) (BB hr) (AV (AY BH (AR T.gf (Ae T) (BB hr) (AA (AH 0) (AG AC AB))) AC) (AV (AY A0 AC (AR T.gf (Ae T) (BB hr) (AA (AH 0) (AG AC AB)))) AB))))) AU)
   (AD (Ak (AQ Aj (AH 1) AC (AN _)) (AF (AJ (AR T.gh (GV T) (BB hr) (AA (AH 0) AB)))) AU)
   (AD (Ak (AQ FS (AH 1) AC (AN _)) (AD (Ac (i:=2) B2.nd rfl (Or.inl rfl) (Bq (AG AM (AG AM (AG AM (AG AM (AG AM (AG AM (AG AM (AG AM AB))))))))))
   (AF (AJ (Al (AG AM (AS (AK Ay (AH 2) (AR T.gf (Ae T) (BB hr) (AA (AH 0) (AG AC AB))) (fun _ _=>rfl)) AB)))))) AU)
   (AD (Ak (AQ FS (AH 1) AC (AN _)) (AF (AJ (Al (AG AM (CU (A3 Aj (AR T.gf (Ae T) (BB hr) (AA (AH 0) (AG AC AB))) AC (AN _)) AB))))) AU)
   (AD (Ac (i:=3) B2.nd rfl (Or.inl rfl) (Bq (AG AM (AG AM (AG AM (AG AM (AG AM (AG AM (AG AM (AG AM (AG AM AB)))))))))))
   (AF (AJ (Al (AG AM (AS (AK Ay (AH 3) (AR T.gf (Ae T) (BB hr) (AA (AH 0) (AG AC AB))) (fun _ _=>rfl)) (Ai (AR T.gg (EU T) (BB hr) (AA (AH 0) AB)) AB)))))))))))))),?_⟩
  try dsimp only[A6,An]
  have e30:=SY
  refine⟨_,rfl,p,_,_,S,rfl,(by show(0:Int)<_;decide),A5 (by decide) (by decide),hpen,(by omega),fun r1 H1 a1 b1 pen1 kp1=>⟨_,rfl,_,_,rfl,rfl,_,rfl,Ba (fun c1=>?_) (fun c1=>?_)⟩⟩
  ·exact⟨(by show 1≤sizeLine;decide),fun q hq=>k (.ref q) .none _ ⟨q,rfl,AE⟩ trivial ((pen1.same (AI.new hq)).mono (by omega)) (kp1.trans (AI.keep (AI.new hq)))⟩
  refine⟨_,rfl,_,_,rfl,rfl,_,rfl,Ba (fun c2=>?_) (fun c2=>?_)⟩
  ·refine⟨_,rfl,p,_,_,S,rfl,(by show(0:Int)<_;decide),A5 (by decide) (by decide),pen1,(by omega),fun r2 H2 a2 b2 pen2 kp2=>⟨_,_,rfl,rfl,_,rfl,p,_,_,S,rfl,(by show(0:Int)<_;decide),A5 (by decide) (by decide),pen2,(by omega),fun r3 H3 a3 b3 pen3 kp3=>⟨_,_,rfl,rfl,?_⟩⟩⟩
   exact⟨_,_,rfl,(by omega),Pm (by omega) (by omega),fun q hq=>k _ _ _ SX (Lm (by omega) (by omega) (by omega)) ((pen3.same (AI.new hq)).mono (by omega)) (((kp1.trans kp2).trans kp3).trans (AI.keep (AI.new hq)))⟩
  refine⟨_,rfl,rfl,_,rfl,Ba (fun c3=>?_) (fun c3=>?_)⟩
  ·exact⟨_,rfl,p,_,S,rfl,pen1,(by omega),fun u v H' hv ok pen' kp'=>k u v H' hv ok (pen'.mono (by omega)) (kp1.trans kp')⟩
  refine⟨_,rfl,_,_,rfl,rfl,_,rfl,Ba (fun c4=>?_) (fun c4=>?_)⟩
  ·refine⟨(by show 8≤sizeLine;decide),fun l hl=>⟨_,rfl,_,rfl,p,_,_,S,rfl,(by show(0:Int)<_;decide),A5 (by decide) (by decide),(pen1.same (AI.new hl)),(by omega),fun r2 H2 a2 b2 pen2 kp2=>?_⟩⟩
   obtain⟨hl2,kq2⟩:=Xy pen1 hl kp2
   obtain⟨v,hv,hvm⟩:=ZE (xs:=Ln) a2 b2
   obtain⟨z,rfl,nz⟩:=Nh v hvm
   exact⟨l,_,_,_,rfl,rfl,Ax.of hl2,hv,BG,fun q hq=>k (.ref q) (.txt z) _ ⟨q,rfl,AE⟩ nz ((pen2.same (AI.new hq)).mono (by omega)) ((kp1.trans kq2).trans (AI.keep (AI.new hq)))⟩
  refine⟨_,rfl,_,_,rfl,rfl,_,rfl,Ba (fun c5=>?_) (fun c5=>?_)⟩
  ·exact⟨_,rfl,p,_,_,S,rfl,(by show(0:Int)<_;decide),A5 (by decide) (by decide),pen1,(by omega),fun r2 H2 a2 b2 pen2 kp2=>⟨rfl,BG,fun q hq=>k (.ref q) (.tru _) _ ⟨q,rfl,AE⟩ trivial ((pen2.same (AI.new hq)).mono (by omega)) ((kp1.trans kp2).trans (AI.keep (AI.new hq)))⟩⟩
  ·refine⟨(by show 9≤sizeLine;decide),fun l hl=>⟨_,rfl,_,rfl,p,_,_,S,rfl,(by show(0:Int)<_;decide),A5 (by decide) (by decide),(pen1.same (AI.new hl)),(by omega),fun r2 H2 a2 b2 pen2 kp2=>?_⟩⟩
   obtain⟨hl2,kq2⟩:=Xy pen1 hl kp2
   obtain⟨v,hv,hvm⟩:=ZE (xs:=Ct.map V.str) a2 b2
   obtain⟨w',rfl,nz⟩:=Ni hvm
   refine⟨l,_,_,_,rfl,rfl,Ax.of hl2,hv,_,rfl,p,_,S,rfl,pen2,(by omega),fun q h H3 hq nm x1 x2 x3 x4 pen3 kp3=>⟨As,fun q2 hq2=>?_⟩⟩
   exact k (.ref q2) (.flt w' h.z h.r h.c) _ ⟨q2,rfl,q,AE,AI.new hq2 _ _ hq⟩ ⟨nz,nm,x1,x2,x3,x4⟩ ((pen3.same (AI.new hq2)).mono (by omega)) (((kp1.trans kq2).trans kp3).trans (AI.keep (AI.new hq2)))
theorem G1:AW ["_law_pen_here","_law_high","_law_wide"] ["_law_pen_here","_law_high","_law_wide"] (AL Cj):=A9
theorem GX (T:Txt w K mg t):Av P w K mg base Bj 5 t.ds t.dt ["_law_pen_here","_law_high","_law_wide"] (Wk K):=by
 have D:=T.gj
 refine D.fn.okX G1 ?_ (fun cdv A outer s H vs Q E hr h Z hZ=>?_)
 ·rintro _ _ _ _ ⟨p,h_,w_,n,S,rfl,_⟩
  rfl
 ·obtain⟨p,h_,w_,n,S,rfl,h1,h6,w1,w6,hpen,hn,k⟩:=h
  refine hZ ⟨_,((AF (AJ (Bu (fv:=["_law_pen_here","_law_wide"]) (js:=[0,2]) (cl:=[("_law_wide",s.heap.objs.size+2),("_law_pen_here",s.heap.objs.size+1)]) rfl (by with_unfolding_all rfl) ⟨rfl,by nofun,by nofun,rfl,by nofun,by nofun,(List.forall_mem_cons.mpr ⟨⟨rfl,rfl,rfl⟩,(List.forall_mem_cons.mpr ⟨⟨rfl,rfl,rfl⟩,(List.forall_mem_nil _)⟩)⟩),(List.forall_mem_cons.mpr ⟨rfl,(List.forall_mem_cons.mpr ⟨rfl,(List.forall_mem_nil _)⟩)⟩),(.cons rfl (.cons rfl .nil))⟩ (DE rfl T.g0 (AA (AH 1) AB)) (fun _ _ _ _ _=>CI) (fun _ _ _ _ _=>(Bu (fv:=["_law_pen_here"]) (js:=[1]) (cl:=[("_law_pen_here",s.heap.objs.size+1)]) rfl (by with_unfolding_all rfl) ⟨rfl,by nofun,by nofun,rfl,by nofun,by nofun,(List.forall_mem_cons.mpr ⟨⟨rfl,rfl,rfl⟩,(List.forall_mem_nil _)⟩),(List.forall_mem_cons.mpr ⟨rfl,(List.forall_mem_nil _)⟩),(.cons rfl .nil)⟩ (DE rfl T.g0 (AA (AH 2) AB)) (fun _ _ _ _ _=>CI) (fun _ _ _ _ _=>(AR T.gi (GW T) (BB hr) (AA (AH 1) AB))))))))),?_⟩
  try dsimp only[A6,An]
  refine⟨_,rfl,_,rfl,(by omega),(by omega),fun D hD=>?_⟩
  have hDp:=hpen.ne hD
  have pen0:Bd K S (upd H D (.lst [])) p n:=hpen.same (AI.new hD)
  refine⟨fun i m H4=>m=h_-i∧i≤h_∧∃(bs:List Addr) (rows:List (List V)) (ms:List (List Vl)),H4 D=some (.lst (bs.map V.ref))∧bs.Nodup∧(∀ b∈bs,H b=none∧b≠D)∧Mp H4 bs rows∧By H4 rows ms∧ms.length=i∧Xz ms w_∧Bd K S H4 p (n+i*60)∧Aw p H H4,
   ⟨h_,rfl,Nat.zero_le _,[],[],[],AE,List.nodup_nil,fun b z=>absurd z (by simp),.nil,.nil,rfl,fun r z=>absurd z (by simp),pen0.mono (by omega),AI.keep (AI.new hD)⟩,?_⟩
  rintro i m H4 ⟨rfl,hi,bs,rows,ms,hD4,nd4,fr4,ls4,vt4,len4,ok4,pen4,kp4⟩
  have bl:bs.length=i:=by rw[Paired.length ls4,Paired.length vt4,len4]
  have hi60:i*60≤6*60:=Nat.mul_le_mul_right 60 (by omega)
  by_cases hlt:i<h_
  ·refine .inr ⟨hlt,fun x H' y=>?_⟩
   obtain⟨e4,rfl⟩:=y
   subst e4
   refine⟨_,rfl,_,rfl,(by omega),(by omega),fun D2 hD2=>?_⟩
   have n2:=pen4.ne hD2
   have nDD:D2≠D:=fun z=>by rw[z,hD4]at hD2;cases hD2
   have hD2b:D2∉bs:=fun z=>by
    obtain⟨j,hj⟩:=List.getElem?_of_mem z
    obtain⟨row,_,e⟩:=Ar ls4 hj
    rw[hD2]at e;cases e
   refine⟨fun j m H5=>m=w_-j∧j≤w_∧∃(us:List V) (vs:List Vl),H5 D2=some (.lst us)∧Br H5 us vs∧vs.length=j∧(∀ v∈vs,Ap v)∧Bd K S H5 p (n+i*60+j*8)∧Aw p H' H5,
    ⟨w_,rfl,Nat.zero_le _,[],[],AE,.nil,rfl,fun r z=>absurd z (by simp),(pen4.same (AI.new hD2)).mono (by omega),AI.keep (AI.new hD2)⟩,?_⟩
   rintro j m H5 ⟨rfl,hj,us,vs,hD5,vs5,len5,ok5,pen5,kp5⟩
   have ul:us.length=j:=by rw[Paired.length vs5,len5]
   have hj8:j*8≤6*8:=Nat.mul_le_mul_right 8 (by omega)
   by_cases hlt2:j<w_
   ·refine .inr ⟨hlt2,fun x H6 y=>?_⟩
    obtain⟨e6,rfl⟩:=y
    subst e6
    refine⟨_,rfl,p,_,S,rfl,pen5,(by omega),fun u v H7 hv okv pen7 kp7=>?_⟩
    have hD7:=kp7 _ _ n2 hD5
    refine⟨us,hD7,B5 (by omega),w_-(j+1),(by omega),rfl,hlt2,us++[u],vs++[v],AE,?_,(by rw[List.length_append,len5];rfl),fun z hz=>?_,?_,fun b o hb e=>?_⟩
    ·exact Dx (Br.kp (Br.kp vs5 (pen5.kp kp7)) (CQ hD7)) (hv.kp (CQ hD7))
    ·rcases List.mem_append.mp hz with z1 | z1
     ·exact ok5 z z1
     ·rw[List.mem_singleton.mp z1];exact okv
    ·exact(pen4.put hD2 pen7).mono (by omega)
    ·rw[AX (AZ e hD2)];exact kp7 _ _ hb (kp5 _ _ hb e)
   ·have ej:j=w_:=by omega
    subst ej
    have kpa:=kp4.trans kp5
    refine .inl ⟨Nat.le_refl _,bs.map V.ref,kp5 _ _ hDp hD4,B5 (by rw[List.length_map];omega),h_-(i+1),(by omega),rfl,hlt,bs++[D2],rows++[us],ms++[vs],?_,?_,fun b hb=>?_,?_,?_,(by rw[List.length_append,len4];rfl),fun r hr'=>?_,?_,fun b o hb e=>?_⟩
    ·rw[AE,List.map_append];rfl
    ·exact List.nodup_append.mpr ⟨nd4,by simp,fun a ha b hb=>by rw[List.mem_singleton.mp hb];exact fun z=>hD2b (z▸ha)⟩
    ·rcases List.mem_append.mp hb with z | z
     ·exact fr4 b z
     ·rw[List.mem_singleton.mp z];exact⟨kp4.fresh n2 hD2,nDD⟩
    ·refine Dx (Nj ls4 fun b row hb e=>?_) (by rw[AX nDD];exact hD5)
     rw[AX (fr4 b hb).2]
     exact kp5 _ _ (fun z=>by have:=(fr4 b hb).1;rw[z]at this;obtain⟨_,eo⟩:=hpen.ob;rw[this]at eo;cases eo) e
    ·have kk:Kp H' (upd H5 D (.lst (bs.map V.ref++[.ref D2]))):=(pen4.kp kp5).trans (CQ (kp5 _ _ hDp hD4))
     exact Dx (By.kp vt4 kk) (Br.kp vs5 (CQ (kp5 _ _ hDp hD4)))
    ·rcases List.mem_append.mp hr' with z | z
     ·exact ok4 r z
     ·rw[List.mem_singleton.mp z];exact⟨len5,ok5⟩
    ·exact(hpen.put hD pen5).mono (by omega)
    ·rw[AX (AZ e hD)];exact kpa _ _ hb e
  ·have ei:i=h_:=by omega
   subst ei
   refine .inl ⟨Nat.le_refl _,k D bs rows ms H4 hD (fun b hb=>(fr4 b hb).1) ⟨hD4,nd4,fun z=>?_,fun z=>(fr4 D z).2 rfl,hDp,ls4,vt4⟩ len4 ok4 (pen4.mono (by omega)) kp4⟩
   have:=(fr4 p z).1
   obtain⟨_,eo⟩:=hpen.ob
   rw[this]at eo;cases eo
theorem BY:AW ["_law_known","_law_sheet","_law_table","_law_high","_law_wide","_law_j","_law_row","_law_k","_law_one","_law_first"] ["_law_known","_law_sheet","_law_table","_law_high","_law_wide"] (AL GA):=A9
theorem Ho (T:Txt w K mg t):Av P w K mg base Bj 1 t.du t.dv ["_law_known","_law_sheet","_law_table","_law_high","_law_wide"] (U4 K):=by
 have D:=T.gk
 refine D.fn.okX BY ?_ (fun cdv A outer s H vs Q E hr h Z hZ=>?_)
 ·rintro _ _ _ _ ⟨kn,l,z,hi,wi,kvs,us,rows,h_,w_,rfl,_⟩
  rfl
 ·obtain⟨kn,l,z,hi,wi,kvs,us,rows,h_,w_,rfl,hkn,hk5,hcase,hlen,h1,h16,w1,w8,hw,k⟩:=h
  have hu1:=FU hr
  rcases hcase with⟨hl,ls⟩ | ⟨hl,ls⟩
  ·have ul:us.length=h_:=by rw[Paired.length ls,hlen]
   have nkl:l≠kn:=BJ hl hkn (by intro z;cases z)
   have nkb:∀ b row,H b=some (.lst row)→b≠kn:=fun b row e=>BJ e hkn (by intro z;cases z)
   refine hZ ⟨_,((AD (B0 PassesOwn.never rfl (OF rfl T.hb Cq (AA (AH 2) AB)) (Fi rfl (Bf (BA (i:=5) BY.nd rfl (Or.inl rfl)) (Bf (BA (i:=6) BY.nd rfl (Or.inl rfl)) EZ)))
   (AF (B0 PassesOwn.never rfl (OF rfl T.hb Cq (AA (AH 6) AB)) (Fi rfl (Bf (BA (i:=7) BY.nd rfl (Or.inl rfl)) (Bf (BA (i:=8) BY.nd rfl (Or.inl rfl)) EZ)))
   (AF (LX hu1 (AH 0) (Al (AA (AH 1) (AV (AY A0 (AY A0 (AH 3) (AH 5)) AC) (AV (AY A0 (AY A0 (AH 4) (AH 7)) AC) AB)))) (AH 8) rfl)))))
   (AD (Ac (i:=9) BY.nd rfl (Or.inl rfl) (Al (AV (AY A0 (AH 3) AC) (AV (AY A0 (AH 4) AC) (AG CS (AG CS AB))))))
   (AD (Ak (Dv (AQ Aj (AT Ab (by rfl) T.gz PySem.boot_len (AA (AH 2) AB)) AC (AN _)) (EY (AQ Aj (AT Ab (by rfl) T.gz PySem.boot_len (AS (AK Ay (AH 2) AC (fun _ _=>rfl)) AB)) AC (AN _)))).pt (AF (AJ (Al (AG AM (AA (AH 1) (AA (AH 9) AB)))))) AU)
   (AF (AJ (Al (AG AM (AA (AH 1) (AA (AH 9) (B4 (Al (AV (AY A0 (AH 3) (AT Ab (by rfl) T.gz PySem.boot_len (AA (AH 2) AB))) (AV (AY A0 (AH 4) (AT Ab (by rfl) T.gz PySem.boot_len (AS (AK Ay (AH 2) AC (fun _ _=>rfl)) AB))) (AG CS (AG CS AB))))) AB))))))))))),?_⟩
   try dsimp only[A6,An]
   refine Bb fun N hN=>?_
   refine⟨_,rfl,l,rfl,⟨_,Ax.of hl⟩,?_⟩
   refine MT (xs:=us) (fun i σ H2=>∃ x5 x6 x7 x8 kv2,σ=[some (.ref kn),some (.str z),some (.ref l),some (.int hi),some (.int wi),x5,x6,x7,x8,none]∧H2 kn=some (.dT kv2)∧kv2.length≤kvs.length+i*w_∧Ff kv2 z hi wi rows i 0∧Ii kvs kv2 z∧Oq kvs kv2 rows∧Aw kn H H2)
    ⟨none,none,none,none,kvs,rfl,hkn,by omega,fun a b row v _ _ h3=>by omega,fun _ _=>rfl,Oq.refl _ _,Aw.refl _ _⟩ ?_ ?_ ?_
   ·rintro i σ H2 _ ⟨x5,x6,x7,x8,kv2,rfl,_,_,_,_,_,kp2⟩
    exact Ax.of (kp2 _ _ nkl hl)
   ·rintro i x σ H2 b hx ⟨x5,x6,x7,x8,kv2,rfl,hk2,len2,la2,el2,gr2,kp2⟩ hb
    obtain⟨row,hrow,b0,rfl,hbr⟩:=Ar ls hx
    have hi16:i<h_:=by have:=(List.getElem?_eq_some_iff.mp hx).1;omega
    have hiw:i*w_≤16*8:=Nat.mul_le_mul (by omega) w8
    have rl:=hw row (List.mem_of_getElem? hrow)
    have s3:AI H2 (upd H2 b (.tup [.int i,.ref b0])):=AI.new hb
    have hb3:upd H2 b (.tup [.int i,.ref b0]) b=some (.tup [.int i,.ref b0]):=AE
    generalize upd H2 b (.tup [.int i,.ref b0])=H3 at *
    have hk3:=s3 _ _ hk2
    have kp3:Aw kn H H3:=kp2.trans (AI.keep s3)
    refine⟨b,_,rfl,Af.of hb3,rfl,_,_,rfl,_,_,rfl,rfl,?_⟩
    refine⟨_,rfl,b0,rfl,⟨_,Ax.of (kp3 _ _ (nkb _ _ hbr) hbr)⟩,?_⟩
    refine MT (xs:=row) (fun j σ H4=>∃ x7 x8 kv4,σ=[some (.ref kn),some (.str z),some (.ref l),some (.int hi),some (.int wi),some (.int i),some (.ref b0),x7,x8,none]∧H4 kn=some (.dT kv4)∧kv4.length≤kvs.length+i*w_+j∧Ff kv4 z hi wi rows i j∧Ii kvs kv4 z∧Oq kvs kv4 rows∧Aw kn H H4)
     ⟨x7,x8,kv2,rfl,hk3,by omega,la2,el2,gr2,kp3⟩ ?_ ?_ ?_
    ·rintro j σ H4 _ ⟨x7,x8,kv4,rfl,_,_,_,_,_,kp4⟩
     exact Ax.of (kp4 _ _ (nkb _ _ hbr) hbr)
    ·rintro j v σ H4 b4 hv ⟨x7,x8,kv4,rfl,hk4,len4,la4,el4,gr4,kp4⟩ hb4
     have hj:j<w_:=by have:=(List.getElem?_eq_some_iff.mp hv).1;omega
     have s5:AI H4 (upd H4 b4 (.tup [.int j,v])):=AI.new hb4
     have hb5:upd H4 b4 (.tup [.int j,v]) b4=some (.tup [.int j,v]):=AE
     generalize upd H4 b4 (.tup [.int j,v])=H5 at *
     have hk5':=s5 _ _ hk4
     refine⟨b4,_,rfl,Af.of hb5,rfl,_,_,rfl,_,_,rfl,rfl,?_⟩
     refine⟨_,rfl,_,rfl,_,rfl,_,rfl,_,rfl,_,_,rfl,rfl,_,_,rfl,rfl,_,rfl,_,rfl,_,_,rfl,rfl,_,_,rfl,rfl,As,fun q hq=>?_⟩
     have nq:kn≠q:=AZ hk5' hq
     refine⟨kn,_,rfl,LW.t (k:=cK z (hi+i+1) (wi+j+1)) (AI.new hq _ _ hk5') AE (B5 (by omega)),?_⟩
     refine⟨_,_,_,rfl,AE,?_,la4.next hrow hv,el4.put,gr4.put hrow hv,fun b' o hb' e=>?_⟩
     ·have:=Eb kv4 (cK z (hi+i+1) (wi+j+1)) v
      omega
     ·rw[AX hb'];exact AI.new hq _ _ (s5 _ _ (kp4 _ _ hb' e))
    ·rintro σ H4 ⟨x7,x8,kv4,rfl,hk4,len4,la4,el4,gr4,kp4⟩
     exact⟨_,_,_,_,kv4,rfl,hk4,by rw[Nat.succ_mul];omega,la4.row hrow (Nat.le_refl _),el4,gr4,kp4⟩
   ·rintro σ H2 ⟨x5,x6,x7,x8,kv2,rfl,hk2,len2,la2,el2,gr2,kp2⟩
    refine hN _ _ ?_
    rw[ul]at len2 la2
    have hl2:=kp2 _ _ nkl hl
    refine⟨_,rfl,_,_,rfl,rfl,_,rfl,_,_,rfl,rfl,(by show 4≤sizeLine;decide),fun q hq=>?_⟩
    have s3:AI H2 (upd H2 q (.tup (Fx ⟨hi+1,wi+1,true,false⟩))):=AI.new hq
    have hq3:upd H2 q (.tup (Fx ⟨hi+1,wi+1,true,false⟩)) q=some (.tup (Fx ⟨hi+1,wi+1,true,false⟩)):=AE
    generalize upd H2 q (.tup (Fx ⟨hi+1,wi+1,true,false⟩))=H3 at *
    have hl3:=s3 _ _ hl2
    obtain⟨u0,ut,rfl⟩:=CF (l:=us) (by omega)
    obtain⟨r0,rt,rfl⟩:=CF (l:=rows) (by omega)
    obtain⟨b0,rfl,hb0⟩:∃ c,u0=.ref c∧H c=some (.lst r0):=by cases ls with | cons h _=>exact h
    have hb3:=s3 _ _ (kp2 _ _ (nkb _ _ hb0) hb0)
    have r0l:=hw r0 List.mem_cons_self
    have kp3:Aw kn H H3:=kp2.trans (AI.keep s3)
    have e1':(((V.ref b0::ut).length:Nat):Int)=h_:=by omega
    have e2':(r0.length:Int)=w_:=by omega
    have rng:∀ u,H3 u=none→∀ a,upd H3 u (.tup (Fx ⟨hi+(V.ref b0::ut).length,wi+r0.length,false,false⟩)) a=none→Q (.ref a) (upd (upd H3 u (.tup (Fx ⟨hi+(V.ref b0::ut).length,wi+r0.length,false,false⟩))) a (.tup [vS "range",.str z,.ref q,.ref u])):=fun u hu' a ha=>
     k a (.rng (some z) ⟨hi+1,wi+1,true,false⟩ ⟨hi+(V.ref b0::ut).length,wi+r0.length,false,false⟩) _ _ kv2 _ (AI.new ha _ _ (AI.new hu' _ _ (s3 _ _ hk2))) len2 la2 el2 gr2 ⟨q,u,AE,AI.new ha _ _ (AI.new hu' _ _ hq3),AI.new ha _ _ AE⟩ rfl rfl rfl (by show hi+_=hi+h_;rw[e1']) (by show wi+_=wi+w_;rw[e2']) (kp3.trans (AI.keep ((AI.new hu').trans (AI.new ha))))
    refine⟨_,rfl,l,_,rfl,.inl (Ax.of hl3),rfl,_,rfl,?_⟩
    refine Ba (fun c1=>?_) (fun c1=>Ah ?_)
    ·refine⟨_,rfl,l,_,_,_,rfl,rfl,Ax.of hl3,Ag,b0,_,rfl,.inl (Ax.of hb3),rfl,_,rfl,Ba (fun c2=>?_) (fun c2=>?_)⟩
     ·have e1:(((V.ref b0::ut).length:Nat):Int)=1:=by have:=of_decide_eq_true c1;injection this
      have e2:(r0.length:Int)=1:=by have:=of_decide_eq_true c2;injection this
      refine⟨_,rfl,_,rfl,As,fun a ha=>?_⟩
      exact k a (.cell (some z) ⟨hi+1,wi+1,true,false⟩) _ _ kv2 _ (AI.new ha _ _ (s3 _ _ hk2)) len2 la2 el2 gr2 ⟨q,AE,AI.new ha _ _ hq3⟩ rfl rfl rfl (by show hi+1=hi+h_;omega) (by show wi+1=wi+w_;omega) (kp3.trans (AI.keep (AI.new ha)))
     ·exact⟨_,rfl,_,rfl,_,rfl,_,rfl,l,_,rfl,.inl (Ax.of hl3),_,_,rfl,rfl,_,rfl,_,rfl,l,_,_,_,rfl,rfl,Ax.of hl3,Ag,b0,_,rfl,.inl (Ax.of hb3),_,_,rfl,rfl,(by show 4≤sizeLine;decide),fun u hu'=>⟨(by show 4≤sizeLine;decide),rng u hu'⟩⟩
    ·exact⟨_,rfl,_,rfl,_,rfl,_,rfl,l,_,rfl,.inl (Ax.of hl3),_,_,rfl,rfl,_,rfl,_,rfl,l,_,_,_,rfl,rfl,Ax.of hl3,Ag,b0,_,rfl,.inl (Ax.of hb3),_,_,rfl,rfl,(by show 4≤sizeLine;decide),fun u hu'=>⟨(by show 4≤sizeLine;decide),rng u hu'⟩⟩
  ·have ul:us.length=h_:=by rw[Paired.length ls,hlen]
   have nkl:l≠kn:=BJ hl hkn (by intro z;cases z)
   have nkb:∀ b row,H b=some (.tup row)→b≠kn:=fun b row e=>BJ e hkn (by intro z;cases z)
   refine hZ ⟨_,((AD (B0 PassesOwn.never rfl (Jh rfl T.hb Cq (AA (AH 2) AB)) (Fi rfl (Bf (BA (i:=5) BY.nd rfl (Or.inl rfl)) (Bf (BA (i:=6) BY.nd rfl (Or.inl rfl)) EZ)))
   (AF (B0 PassesOwn.never rfl (Jh rfl T.hb Cq (AA (AH 6) AB)) (Fi rfl (Bf (BA (i:=7) BY.nd rfl (Or.inl rfl)) (Bf (BA (i:=8) BY.nd rfl (Or.inl rfl)) EZ)))
   (AF (LX hu1 (AH 0) (Al (AA (AH 1) (AV (AY A0 (AY A0 (AH 3) (AH 5)) AC) (AV (AY A0 (AY A0 (AH 4) (AH 7)) AC) AB)))) (AH 8) rfl)))))
   (AD (Ac (i:=9) BY.nd rfl (Or.inl rfl) (Al (AV (AY A0 (AH 3) AC) (AV (AY A0 (AH 4) AC) (AG CS (AG CS AB))))))
   (AD (Ak (Dv (AQ Aj (AT Ab (by rfl) T.gz PySem.boot_len (AA (AH 2) AB)) AC (AN _)) (EY (AQ Aj (AT Ab (by rfl) T.gz PySem.boot_len (AS (AK AO (AH 2) AC (fun _ _=>rfl)) AB)) AC (AN _)))).pt (AF (AJ (Al (AG AM (AA (AH 1) (AA (AH 9) AB)))))) AU)
   (AF (AJ (Al (AG AM (AA (AH 1) (AA (AH 9) (B4 (Al (AV (AY A0 (AH 3) (AT Ab (by rfl) T.gz PySem.boot_len (AA (AH 2) AB))) (AV (AY A0 (AH 4) (AT Ab (by rfl) T.gz PySem.boot_len (AS (AK AO (AH 2) AC (fun _ _=>rfl)) AB))) (AG CS (AG CS AB))))) AB))))))))))),?_⟩
   try dsimp only[A6,An]
   refine Bb fun N hN=>?_
   refine⟨_,rfl,l,rfl,⟨_,Af.of hl⟩,?_⟩
   refine Hz (xs:=us) (fun i σ H2=>∃ x5 x6 x7 x8 kv2,σ=[some (.ref kn),some (.str z),some (.ref l),some (.int hi),some (.int wi),x5,x6,x7,x8,none]∧H2 kn=some (.dT kv2)∧kv2.length≤kvs.length+i*w_∧Ff kv2 z hi wi rows i 0∧Ii kvs kv2 z∧Oq kvs kv2 rows∧Aw kn H H2)
    ⟨none,none,none,none,kvs,rfl,hkn,by omega,fun a b row v _ _ h3=>by omega,fun _ _=>rfl,Oq.refl _ _,Aw.refl _ _⟩ ?_ ?_ ?_
   ·rintro i σ H2 _ ⟨x5,x6,x7,x8,kv2,rfl,_,_,_,_,_,kp2⟩
    exact Af.of (kp2 _ _ nkl hl)
   ·rintro i x σ H2 b hx ⟨x5,x6,x7,x8,kv2,rfl,hk2,len2,la2,el2,gr2,kp2⟩ hb
    obtain⟨row,hrow,b0,rfl,hbr⟩:=Ar ls hx
    have hi16:i<h_:=by have:=(List.getElem?_eq_some_iff.mp hx).1;omega
    have hiw:i*w_≤16*8:=Nat.mul_le_mul (by omega) w8
    have rl:=hw row (List.mem_of_getElem? hrow)
    have s3:AI H2 (upd H2 b (.tup [.int i,.ref b0])):=AI.new hb
    have hb3:upd H2 b (.tup [.int i,.ref b0]) b=some (.tup [.int i,.ref b0]):=AE
    generalize upd H2 b (.tup [.int i,.ref b0])=H3 at *
    have hk3:=s3 _ _ hk2
    have kp3:Aw kn H H3:=kp2.trans (AI.keep s3)
    refine⟨b,_,rfl,Af.of hb3,rfl,_,_,rfl,_,_,rfl,rfl,?_⟩
    refine⟨_,rfl,b0,rfl,⟨_,Af.of (kp3 _ _ (nkb _ _ hbr) hbr)⟩,?_⟩
    refine Hz (xs:=row) (fun j σ H4=>∃ x7 x8 kv4,σ=[some (.ref kn),some (.str z),some (.ref l),some (.int hi),some (.int wi),some (.int i),some (.ref b0),x7,x8,none]∧H4 kn=some (.dT kv4)∧kv4.length≤kvs.length+i*w_+j∧Ff kv4 z hi wi rows i j∧Ii kvs kv4 z∧Oq kvs kv4 rows∧Aw kn H H4)
     ⟨x7,x8,kv2,rfl,hk3,by omega,la2,el2,gr2,kp3⟩ ?_ ?_ ?_
    ·rintro j σ H4 _ ⟨x7,x8,kv4,rfl,_,_,_,_,_,kp4⟩
     exact Af.of (kp4 _ _ (nkb _ _ hbr) hbr)
    ·rintro j v σ H4 b4 hv ⟨x7,x8,kv4,rfl,hk4,len4,la4,el4,gr4,kp4⟩ hb4
     have hj:j<w_:=by have:=(List.getElem?_eq_some_iff.mp hv).1;omega
     have s5:AI H4 (upd H4 b4 (.tup [.int j,v])):=AI.new hb4
     have hb5:upd H4 b4 (.tup [.int j,v]) b4=some (.tup [.int j,v]):=AE
     generalize upd H4 b4 (.tup [.int j,v])=H5 at *
     have hk5':=s5 _ _ hk4
     refine⟨b4,_,rfl,Af.of hb5,rfl,_,_,rfl,_,_,rfl,rfl,?_⟩
     refine⟨_,rfl,_,rfl,_,rfl,_,rfl,_,rfl,_,_,rfl,rfl,_,_,rfl,rfl,_,rfl,_,rfl,_,_,rfl,rfl,_,_,rfl,rfl,As,fun q hq=>?_⟩
     have nq:kn≠q:=AZ hk5' hq
     refine⟨kn,_,rfl,LW.t (k:=cK z (hi+i+1) (wi+j+1)) (AI.new hq _ _ hk5') AE (B5 (by omega)),?_⟩
     refine⟨_,_,_,rfl,AE,?_,la4.next hrow hv,el4.put,gr4.put hrow hv,fun b' o hb' e=>?_⟩
     ·have:=Eb kv4 (cK z (hi+i+1) (wi+j+1)) v
      omega
     ·rw[AX hb'];exact AI.new hq _ _ (s5 _ _ (kp4 _ _ hb' e))
    ·rintro σ H4 ⟨x7,x8,kv4,rfl,hk4,len4,la4,el4,gr4,kp4⟩
     exact⟨_,_,_,_,kv4,rfl,hk4,by rw[Nat.succ_mul];omega,la4.row hrow (Nat.le_refl _),el4,gr4,kp4⟩
   ·rintro σ H2 ⟨x5,x6,x7,x8,kv2,rfl,hk2,len2,la2,el2,gr2,kp2⟩
    refine hN _ _ ?_
    rw[ul]at len2 la2
    have hl2:=kp2 _ _ nkl hl
    refine⟨_,rfl,_,_,rfl,rfl,_,rfl,_,_,rfl,rfl,(by show 4≤sizeLine;decide),fun q hq=>?_⟩
    have s3:AI H2 (upd H2 q (.tup (Fx ⟨hi+1,wi+1,true,false⟩))):=AI.new hq
    have hq3:upd H2 q (.tup (Fx ⟨hi+1,wi+1,true,false⟩)) q=some (.tup (Fx ⟨hi+1,wi+1,true,false⟩)):=AE
    generalize upd H2 q (.tup (Fx ⟨hi+1,wi+1,true,false⟩))=H3 at *
    have hl3:=s3 _ _ hl2
    obtain⟨u0,ut,rfl⟩:=CF (l:=us) (by omega)
    obtain⟨r0,rt,rfl⟩:=CF (l:=rows) (by omega)
    obtain⟨b0,rfl,hb0⟩:∃ c,u0=.ref c∧H c=some (.tup r0):=by cases ls with | cons h _=>exact h
    have hb3:=s3 _ _ (kp2 _ _ (nkb _ _ hb0) hb0)
    have r0l:=hw r0 List.mem_cons_self
    have kp3:Aw kn H H3:=kp2.trans (AI.keep s3)
    have e1':(((V.ref b0::ut).length:Nat):Int)=h_:=by omega
    have e2':(r0.length:Int)=w_:=by omega
    have rng:∀ u,H3 u=none→∀ a,upd H3 u (.tup (Fx ⟨hi+(V.ref b0::ut).length,wi+r0.length,false,false⟩)) a=none→Q (.ref a) (upd (upd H3 u (.tup (Fx ⟨hi+(V.ref b0::ut).length,wi+r0.length,false,false⟩))) a (.tup [vS "range",.str z,.ref q,.ref u])):=fun u hu' a ha=>
     k a (.rng (some z) ⟨hi+1,wi+1,true,false⟩ ⟨hi+(V.ref b0::ut).length,wi+r0.length,false,false⟩) _ _ kv2 _ (AI.new ha _ _ (AI.new hu' _ _ (s3 _ _ hk2))) len2 la2 el2 gr2 ⟨q,u,AE,AI.new ha _ _ (AI.new hu' _ _ hq3),AI.new ha _ _ AE⟩ rfl rfl rfl (by show hi+_=hi+h_;rw[e1']) (by show wi+_=wi+w_;rw[e2']) (kp3.trans (AI.keep ((AI.new hu').trans (AI.new ha))))
    refine⟨_,rfl,l,_,rfl,.inr (Af.of hl3),rfl,_,rfl,?_⟩
    refine Ba (fun c1=>?_) (fun c1=>Ah ?_)
    ·refine⟨_,rfl,l,_,_,_,rfl,rfl,Af.of hl3,Ag,b0,_,rfl,.inr (Af.of hb3),rfl,_,rfl,Ba (fun c2=>?_) (fun c2=>?_)⟩
     ·have e1:(((V.ref b0::ut).length:Nat):Int)=1:=by have:=of_decide_eq_true c1;injection this
      have e2:(r0.length:Int)=1:=by have:=of_decide_eq_true c2;injection this
      refine⟨_,rfl,_,rfl,As,fun a ha=>?_⟩
      exact k a (.cell (some z) ⟨hi+1,wi+1,true,false⟩) _ _ kv2 _ (AI.new ha _ _ (s3 _ _ hk2)) len2 la2 el2 gr2 ⟨q,AE,AI.new ha _ _ hq3⟩ rfl rfl rfl (by show hi+1=hi+h_;omega) (by show wi+1=wi+w_;omega) (kp3.trans (AI.keep (AI.new ha)))
     ·exact⟨_,rfl,_,rfl,_,rfl,_,rfl,l,_,rfl,.inr (Af.of hl3),_,_,rfl,rfl,_,rfl,_,rfl,l,_,_,_,rfl,rfl,Af.of hl3,Ag,b0,_,rfl,.inr (Af.of hb3),_,_,rfl,rfl,(by show 4≤sizeLine;decide),fun u hu'=>⟨(by show 4≤sizeLine;decide),rng u hu'⟩⟩
    ·exact⟨_,rfl,_,rfl,_,rfl,_,rfl,l,_,rfl,.inr (Af.of hl3),_,_,rfl,rfl,_,rfl,_,rfl,l,_,_,_,rfl,rfl,Af.of hl3,Ag,b0,_,rfl,.inr (Af.of hb3),_,_,rfl,rfl,(by show 4≤sizeLine;decide),fun u hu'=>⟨(by show 4≤sizeLine;decide),rng u hu'⟩⟩
theorem Iv:AW ["_law_pen_here","_law_known","_law_sheet","_law_table"] ["_law_pen_here","_law_known","_law_sheet","_law_table"] (AL DX):=A9
theorem IN (T:Txt w K mg t):Av P w K mg base Bj 3 t.dw t.dx ["_law_pen_here","_law_known","_law_sheet","_law_table"] (U5 K):=by
 have D:=T.gl
 refine D.fn.okX Iv ?_ (fun cdv A outer s H vs Q E hr h Z hZ=>?_)
 ·rintro _ _ _ _ ⟨p,kn,l,z,kvs,bs,rows,h_,w_,n,S,rfl,_⟩
  rfl
 ·obtain⟨p,kn,l,z,kvs,bs,rows,h_,w_,n,S,rfl,hpen,hn,hkn,hk8,hl,lp,npb,ls,hlen,h1,h16,w1,w8,hw,k⟩:=h
  refine hZ ⟨_,((AF (AJ (AR T.gk (Ho T) (BB hr) (AA (AH 1) (AA (AH 2) (AA (AH 3) (Ai (AR T.gf (Ae T) (BB hr) (AA (AH 0) (AV (AY BH AC (AT Ab (by rfl) T.gz PySem.boot_len (AA (AH 3) AB))) AB))) (Ai (AR T.gf (Ae T) (BB hr) (AA (AH 0) (AV (AY BH AC (AT Ab (by rfl) T.gz PySem.boot_len (AS (AK Ay (AH 3) AC (fun _ _=>rfl)) AB))) AB))) AB))))))))),?_⟩
  try dsimp only[A6,An]
  have bl:bs.length=h_:=by rw[Paired.length ls,hlen]
  have nkp:kn≠p:=by obtain⟨_,eo⟩:=hpen.ob;exact BJ hkn eo (by intro z;cases z)
  have e1:(((bs.map V.ref).length:Nat):Int)=h_:=by rw[List.length_map];omega
  refine⟨_,rfl,_,rfl,_,rfl,_,rfl,_,rfl,l,_,rfl,.inl (Ax.of hl),_,_,rfl,rfl,p,_,_,S,rfl,(by rw[e1];omega),(by rw[e1];exact A5 (by omega) (by omega)),hpen,(by omega),fun r1 H1 a1 b1 pen1 kp1=>?_⟩
  rw[e1]at b1
  have hl1:=kp1 _ _ lp hl
  obtain⟨b0,bt,rfl⟩:=CF (l:=bs) (by omega)
  obtain⟨r0,rt,rfl⟩:=CF (l:=rows) (by omega)
  have ls1:Mp H1 (b0::bt) (r0::rt):=Nj ls fun b row hb e=>kp1 _ _ (fun z=>npb (z▸hb)) e
  have hb0:H1 b0=some (.lst r0):=by cases ls1 with | cons h _=>exact h
  have r0l:=hw r0 List.mem_cons_self
  refine⟨_,rfl,_,rfl,l,_,_,_,rfl,rfl,Ax.of hl1,Ag,b0,_,rfl,.inl (Ax.of hb0),_,_,rfl,rfl,p,_,_,S,rfl,(by rw[r0l];omega),(by rw[r0l];exact A5 (by omega) (by omega)),pen1,(by omega),fun r2 H2 a2 b2 pen2 kp2=>?_⟩
  rw[r0l]at b2
  have kp12:=kp1.trans kp2
  have ls2:Mp H2 (b0::bt) (r0::rt):=Nj ls fun b row hb e=>kp12 _ _ (fun z=>npb (z▸hb)) e
  have hk2:=kp12 _ _ nkp hkn
  refine⟨kn,l,z,r1,r2,kvs,_,r0::rt,h_,w_,rfl,hk2,hk8,.inl ⟨kp12 _ _ lp hl,TY ls2⟩,hlen,h1,h16,w1,w8,hw,fun a lf c d kvs' H' x1 x2 x3 _ x4 x5 x6 x7 x8 x9 x10 kp'=>?_⟩
  exact k a lf c d r1 r2 kvs' H' x1 x2 x3 x4 x5 x6 x7 x8 x9 x10 a1 (by omega) a2 (by omega) (pen2.kx hk2 kp') (fun b o hb hb' e=>kp' _ _ hb' (kp12 _ _ hb e))
theorem EV:AW ["_law_told","_law_due"] ["_law_told","_law_due"] (AL Cl):=A9
theorem GY (T:Txt w K mg t):∀ n:Nat,Av P w K mg base Bj (n+1) t.dy t.dz ["_law_told","_law_due"] (Wl n):=by
 have D:=T.gm
 intro n
 induction n with
 | zero=>
  refine D.fn.okX EV ?_ (fun cdv A outer s H vs Q E hr h Z hZ=>?_)
  ·rintro _ _ _ _ ⟨u,v,tr,rfl,_⟩
   rfl
  ·obtain⟨u,v,tr,rfl,h1,h2,k⟩:=h
   have hu1:=FU hr
   have ih:Av P w K mg base Bj 0 t.dy t.dz ["_law_told","_law_due"] (fun _ _ _ _=>False):=⟨fun _ _ _ _ z=>z.elim,fun _ _ _ _ _ _ _ _ _ _ _ _ _ z=>z.elim⟩
   refine hZ ⟨_,((AD (Ak (BR (AT Am (by rfl) T.g1 Aa (AA (AH 1) (AA (BP T.g5 Bc) AB)))) (AD (Ak (DO (Ej (BR (AT Am (by rfl) T.g1 Aa (AA (AH 0) (AA (BP T.g5 Bc) AB))))) (Cc (AQ MG (AT Ab (by rfl) T.gz PySem.boot_len (AA (AH 0) AB)) (AT Ab (by rfl) T.gz PySem.boot_len (AA (AH 1) AB)) (AN _)))).pt (AF (AJ CS)) AU)
   (AF (AJ (AT (Fr rfl) (by rfl) T.g9 Ft (CJ (Bu (fv:=["_law_told","_law_due"]) (js:=[0,1]) (cl:=[("_law_told",s.heap.objs.size+1),("_law_due",s.heap.objs.size+2)]) rfl (by with_unfolding_all rfl) ⟨rfl,by nofun,by nofun,rfl,by nofun,by nofun,(List.forall_mem_cons.mpr ⟨⟨rfl,rfl,rfl⟩,(List.forall_mem_cons.mpr ⟨⟨rfl,rfl,rfl⟩,(List.forall_mem_nil _)⟩)⟩),(List.forall_mem_cons.mpr ⟨rfl,(List.forall_mem_cons.mpr ⟨rfl,(List.forall_mem_nil _)⟩)⟩),(.cons rfl (.cons rfl .nil))⟩ (DE rfl T.g0 (Ai (AT Ab (by rfl) T.gz PySem.boot_len (AA (AH 1) AB)) AB)) (fun _ _ _ _ _=>CI) (fun _ _ _ _ _=>(AR T.gm ih (hr.mono (by omega)) (AS (AK Dn (AH 1) (AH 0) (fun _ _=>rfl)) (AS (AK Dn (AH 2) (AH 0) (fun _ _=>rfl)) AB))))) AB))))) AU)
   (AD (Ak (DO (BR (AT Am (by rfl) T.g1 Aa (AA (AH 1) (AA (BP T.g3 B8) AB)))) (Cc (BR (AT Am (by rfl) T.g1 Aa (AA (AH 0) (AA (BP T.g3 B8) AB)))))).pt (AF (AJ (BX (AT Am (by rfl) T.g1 Aa (AA (AH 1) (AA (BP T.g3 B8) AB))) (BX (AT Am (by rfl) T.g1 Aa (AA (AH 0) (AA (BP T.g3 B8) AB))) (B9 (A3 Aj (AH 0) (AH 1) (AN _))))))) AU)
   (AD (Ak (BR (AT Am (by rfl) T.g1 Aa (AA (AH 1) (AA (BP T.g2 CV) AB)))) (AF (AJ (BX (AT Am (by rfl) T.g1 Aa (AA (AH 0) (AA (BP T.g2 CV) AB))) (B9 (A3 Aj (AH 0) (AH 1) (AN _)))))) AU)
   (AF (AJ (BX (AT Am (by rfl) T.g1 Aa (AA (AH 0) (AA (BP T.g4 E2) AB))) (B9 (A3 Aj (AH 0) (AH 1) (AN _)))))))))),?_⟩
   try dsimp only[A6,An]
   refine LG fun X hX=>?_
   cases h1 with
   | bl b=>
    cases h2
    refine hX ?_
    refine⟨_,rfl,_,_,_,_,false,rfl,.bl _,rfl,(fun _=>.inr trivial),T.ht,false,rfl,Ah ?_⟩
    refine⟨_,rfl,_,_,_,_,true,rfl,.bl _,rfl,(fun _=>.inr trivial),BK _ _,true,rfl,Az (Az ?_)⟩
    refine⟨_,rfl,_,_,_,_,true,rfl,.bl _,rfl,(fun _=>.inr trivial),BK _ _,true,rfl,Az ?_⟩
    refine⟨_,rfl,_,_,_,_,true,rfl,.bl _,rfl,(fun _=>.inr trivial),BK _ _,true,rfl,Az ?_⟩
    exact⟨_,rfl,_,rfl,rfl,Qt (by simp) (k _ (AI.refl _))⟩
   | int i=>
    cases h2
    refine hX ?_
    refine⟨_,rfl,_,_,_,_,false,rfl,.int _,rfl,(fun _=>.inr trivial),T.hr,false,rfl,Ah ?_⟩
    refine⟨_,rfl,_,_,_,_,false,rfl,.int _,rfl,(fun _=>.inr trivial),T.hs,false,rfl,Ah ?_⟩
    refine⟨_,rfl,_,_,_,_,false,rfl,.int _,rfl,(fun _=>.inr trivial),T.hs,false,rfl,Ah ?_⟩
    refine⟨_,rfl,_,_,_,_,true,rfl,.int _,rfl,(fun _=>.inr trivial),BK _ _,true,rfl,Az ?_⟩
    refine⟨_,rfl,_,_,_,_,true,rfl,.int _,rfl,(fun _=>.inr trivial),BK _ _,true,rfl,Az ?_⟩
    exact⟨_,rfl,_,rfl,rfl,Qt (by simp) (k _ (AI.refl _))⟩
   | str z=>
    cases h2
    refine hX ?_
    refine⟨_,rfl,_,_,_,_,false,rfl,.str _,rfl,(fun _=>.inr trivial),T.hq,false,rfl,Ah ?_⟩
    refine⟨_,rfl,_,_,_,_,false,rfl,.str _,rfl,(fun _=>.inr trivial),T.hu,false,rfl,Ah ?_⟩
    refine⟨_,rfl,_,_,_,_,false,rfl,.str _,rfl,(fun _=>.inr trivial),T.hu,false,rfl,Ah ?_⟩
    refine⟨_,rfl,_,_,_,_,false,rfl,.str _,rfl,(fun _=>.inr trivial),T.hv,false,rfl,Ah ?_⟩
    refine⟨_,rfl,_,_,_,_,true,rfl,.str _,rfl,(fun _=>.inr trivial),BK _ _,true,rfl,Az ?_⟩
    exact⟨_,rfl,_,rfl,rfl,Qt (by simp) (k _ (AI.refl _))⟩
 | succ n ih=>
  refine D.fn.okX EV ?_ (fun cdv A outer s H vs Q E hr h Z hZ=>?_)
  ·rintro _ _ _ _ ⟨u,v,tr,rfl,_⟩
   rfl
  ·obtain⟨u,v,tr,rfl,h1,h2,k⟩:=h
   have hu1:=FU hr
   refine hZ ⟨_,((AD (Ak (BR (AT Am (by rfl) T.g1 Aa (AA (AH 1) (AA (BP T.g5 Bc) AB)))) (AD (Ak (DO (Ej (BR (AT Am (by rfl) T.g1 Aa (AA (AH 0) (AA (BP T.g5 Bc) AB))))) (Cc (AQ MG (AT Ab (by rfl) T.gz PySem.boot_len (AA (AH 0) AB)) (AT Ab (by rfl) T.gz PySem.boot_len (AA (AH 1) AB)) (AN _)))).pt (AF (AJ CS)) AU)
   (AF (AJ (AT (Fr rfl) (by rfl) T.g9 Ft (CJ (Bu (fv:=["_law_told","_law_due"]) (js:=[0,1]) (cl:=[("_law_told",s.heap.objs.size+1),("_law_due",s.heap.objs.size+2)]) rfl (by with_unfolding_all rfl) ⟨rfl,by nofun,by nofun,rfl,by nofun,by nofun,(List.forall_mem_cons.mpr ⟨⟨rfl,rfl,rfl⟩,(List.forall_mem_cons.mpr ⟨⟨rfl,rfl,rfl⟩,(List.forall_mem_nil _)⟩)⟩),(List.forall_mem_cons.mpr ⟨rfl,(List.forall_mem_cons.mpr ⟨rfl,(List.forall_mem_nil _)⟩)⟩),(.cons rfl (.cons rfl .nil))⟩ (DE rfl T.g0 (Ai (AT Ab (by rfl) T.gz PySem.boot_len (AA (AH 1) AB)) AB)) (fun _ _ _ _ _=>CI) (fun _ _ _ _ _=>(AR T.gm ih (hr.mono (by omega)) (AS (AK Dn (AH 1) (AH 0) (fun _ _=>rfl)) (AS (AK Dn (AH 2) (AH 0) (fun _ _=>rfl)) AB))))) AB))))) AU)
   (AD (Ak (DO (BR (AT Am (by rfl) T.g1 Aa (AA (AH 1) (AA (BP T.g3 B8) AB)))) (Cc (BR (AT Am (by rfl) T.g1 Aa (AA (AH 0) (AA (BP T.g3 B8) AB)))))).pt (AF (AJ (BX (AT Am (by rfl) T.g1 Aa (AA (AH 1) (AA (BP T.g3 B8) AB))) (BX (AT Am (by rfl) T.g1 Aa (AA (AH 0) (AA (BP T.g3 B8) AB))) (B9 (A3 Aj (AH 0) (AH 1) (AN _))))))) AU)
   (AD (Ak (BR (AT Am (by rfl) T.g1 Aa (AA (AH 1) (AA (BP T.g2 CV) AB)))) (AF (AJ (BX (AT Am (by rfl) T.g1 Aa (AA (AH 0) (AA (BP T.g2 CV) AB))) (B9 (A3 Aj (AH 0) (AH 1) (AN _)))))) AU)
   (AF (AJ (BX (AT Am (by rfl) T.g1 Aa (AA (AH 0) (AA (BP T.g4 E2) AB))) (B9 (A3 Aj (AH 0) (AH 1) (AN _)))))))))),?_⟩
   try dsimp only[A6,An]
   refine LG fun X hX=>?_
   cases h1 with
   | bl b=>
    cases h2
    refine hX ?_
    refine⟨_,rfl,_,_,_,_,false,rfl,.bl _,rfl,(fun _=>.inr trivial),T.ht,false,rfl,Ah ?_⟩
    refine⟨_,rfl,_,_,_,_,true,rfl,.bl _,rfl,(fun _=>.inr trivial),BK _ _,true,rfl,Az (Az ?_)⟩
    refine⟨_,rfl,_,_,_,_,true,rfl,.bl _,rfl,(fun _=>.inr trivial),BK _ _,true,rfl,Az ?_⟩
    refine⟨_,rfl,_,_,_,_,true,rfl,.bl _,rfl,(fun _=>.inr trivial),BK _ _,true,rfl,Az ?_⟩
    exact⟨_,rfl,_,rfl,rfl,Qt (by simp) (k _ (AI.refl _))⟩
   | int i=>
    cases h2
    refine hX ?_
    refine⟨_,rfl,_,_,_,_,false,rfl,.int _,rfl,(fun _=>.inr trivial),T.hr,false,rfl,Ah ?_⟩
    refine⟨_,rfl,_,_,_,_,false,rfl,.int _,rfl,(fun _=>.inr trivial),T.hs,false,rfl,Ah ?_⟩
    refine⟨_,rfl,_,_,_,_,false,rfl,.int _,rfl,(fun _=>.inr trivial),T.hs,false,rfl,Ah ?_⟩
    refine⟨_,rfl,_,_,_,_,true,rfl,.int _,rfl,(fun _=>.inr trivial),BK _ _,true,rfl,Az ?_⟩
    refine⟨_,rfl,_,_,_,_,true,rfl,.int _,rfl,(fun _=>.inr trivial),BK _ _,true,rfl,Az ?_⟩
    exact⟨_,rfl,_,rfl,rfl,Qt (by simp) (k _ (AI.refl _))⟩
   | str z=>
    cases h2
    refine hX ?_
    refine⟨_,rfl,_,_,_,_,false,rfl,.str _,rfl,(fun _=>.inr trivial),T.hq,false,rfl,Ah ?_⟩
    refine⟨_,rfl,_,_,_,_,false,rfl,.str _,rfl,(fun _=>.inr trivial),T.hu,false,rfl,Ah ?_⟩
    refine⟨_,rfl,_,_,_,_,false,rfl,.str _,rfl,(fun _=>.inr trivial),T.hu,false,rfl,Ah ?_⟩
    refine⟨_,rfl,_,_,_,_,false,rfl,.str _,rfl,(fun _=>.inr trivial),T.hv,false,rfl,Ah ?_⟩
    refine⟨_,rfl,_,_,_,_,true,rfl,.str _,rfl,(fun _=>.inr trivial),BK _ _,true,rfl,Az ?_⟩
    exact⟨_,rfl,_,rfl,rfl,Qt (by simp) (k _ (AI.refl _))⟩
   | @tup a us ts _ e1 l1 n1 hh1=>
    cases h2 with
    | @tup b vs _ _ e2 l2 n2 hh2=>
     have ll:us.length=vs.length:=n1.trans n2.symm
     refine hX ?_
     refine⟨_,rfl,_,_,_,_,true,rfl,.tup e2,rfl,(fun _=>.inr trivial),BK _ _,true,rfl,Az ?_⟩
     refine⟨_,rfl,_,_,_,_,true,rfl,.tup e1,rfl,(fun _=>.inr trivial),BK _ _,true,rfl,Ah ?_⟩
     refine⟨_,rfl,a,us,rfl,.inr (Af.of e1),_,rfl,b,vs,rfl,.inr (Af.of e2),rfl,false,(by simp[ll]),Ah ?_⟩
     refine⟨_,rfl,b,vs,rfl,.inr (Af.of e2),_,rfl,(by omega),(by omega),fun D hD=>?_⟩
     have sD:∀ o,AI H (upd H D o):=fun o=>AI.new hD
     refine⟨fun i m H4=>m=vs.length-i∧i≤vs.length∧H4 D=some (.lst ((List.replicate i true).map V.bl))∧AI H H4,⟨vs.length,rfl,Nat.zero_le _,AE,sD _⟩,?_⟩
     rintro i m H4 ⟨rfl,hi,hD4,s4⟩
     by_cases hlt:i<vs.length
     ·refine .inr ⟨(by show i<(vs.length:Int).toNat;omega),fun x H' y=>?_⟩
      obtain⟨e4,rfl⟩:=y
      subst e4
      have hu1:us[i]?=some (us[i]'(by omega)):=List.getElem?_eq_getElem (by omega)
      have hv1:vs[i]?=some (vs[i]):=List.getElem?_eq_getElem hlt
      have ht1:ts[i]?=some (ts[i]'(by omega)):=List.getElem?_eq_getElem (by omega)
      refine⟨_,rfl,_,rfl,a,_,_,_,rfl,rfl,Af.of (s4 _ _ e1),(by rw[Int.zero_add];exact DK hu1),_,rfl,_,rfl,b,_,_,_,rfl,rfl,Af.of (s4 _ _ e2),(by rw[Int.zero_add];exact DK hv1),?_⟩
      refine⟨_,_,_,rfl,(hh1 _ _ _ hu1 ht1).kp (Kp.same s4),(hh2 _ _ _ hv1 ht1).kp (Kp.same s4),fun H5 s5=>?_⟩
      refine⟨_,s5 _ _ hD4,B5 (by rw[List.length_map,List.length_replicate];omega),vs.length-(i+1),(by omega),rfl,hlt,?_,fun b' o e=>?_⟩
      ·rw[AE,List.replicate_succ',List.map_append];rfl
      ·rw[AX (AZ e hD)];exact s5 _ _ (s4 _ _ e)
     ·have ei:i=vs.length:=by omega
      subst ei
      refine .inl ⟨(by show(vs.length:Int).toNat≤vs.length;omega),D,List.replicate vs.length true,rfl,Ax.of hD4,?_⟩
      rw[RH]
      exact k _ s4
theorem Iw:AW ["thing"] ["thing"] (AL DY):=A9
theorem IO (T:Txt w K mg t):Av P w K mg base Bj 1 t.d0 t.d1 ["thing"] WG:=by
 have D:=T.gn
 refine D.fn.okX Iw ?_ (fun cdv A outer s H vs Q E hr h Z hZ=>?_)
 ·rintro _ _ _ _ ⟨z,rfl,_⟩
  rfl
 ·obtain⟨z,rfl,nm,k⟩:=h
  refine hZ ⟨_,((AD (Ak (DO (Ej (BR (AT Am (by rfl) T.g1 Aa (AA (AH 0) (AA (BP T.g4 E2) AB))))) (DO (AQ FS (AT E6 (by rfl) T.gz PySem.boot_len (AA (AH 0) AB)) AC (AN _)) (Cc (AQ Kq (AT E6 (by rfl) T.gz PySem.boot_len (AA (AH 0) AB)) (HL T.hm) (AN _))))).pt (AF (AJ CS)) AU)
   (AF (AJ (AT (Fr rfl) (by rfl) T.g9 Ft (CJ (Bu (fv:=[]) (js:=[]) (cl:=[]) rfl (by with_unfolding_all rfl) ⟨rfl,by nofun,by nofun,rfl,by nofun,by nofun,(List.forall_mem_nil _),(List.forall_mem_nil _),.nil⟩ (QI (AH 0)) (fun _ _ _ _ _=>CI) (fun _ _ _ _ _=>(A3 Qu (AH 0) (Lc T.hl) rfl))) AB)))))),?_⟩
  try dsimp only[A6,An]
  have h1:=nm.lo
  have h2:=nm.hi
  have hz:z.length≤sizeLine:=Cn (by omega)
  refine⟨_,rfl,_,_,_,_,true,rfl,.str _,rfl,(fun _=>.inr trivial),BK _ _,true,rfl,Ah ?_⟩
  refine⟨_,rfl,z,rfl,hz,_,_,rfl,rfl,false,(by simp;omega),Ah ?_⟩
  refine⟨_,rfl,z,rfl,hz,_,_,rfl,rfl,false,(by simp;omega),Ah ?_⟩
  refine⟨_,rfl,z,rfl,fun D hD=>?_⟩
  obtain⟨W,w0,turn⟩:=Jk (z:=z) (Str.ofString "abcdefghijklmnopqrstuvwxyz") (by omega) hD
  refine⟨W,w0,fun i m' H' w'=>?_⟩
  rcases turn i m' H' w' with⟨st,rfl⟩ | h
  case inr=>exact .inr ⟨h.1,fun x H2 y=>h.2 _ _ x H2 y⟩
  refine .inl ⟨st,?_⟩
  exact⟨D,_,rfl,Ax.of AE,Qt (congrArg V.bl (PX (UT nm))) (k _ (AI.new hD))⟩
theorem NB:AW ["thing","last"] ["thing","last"] (AL GB):=A9
theorem Hq (T:Txt w K mg t):Av P w K mg base Bj 2 t.d2 t.d3 ["thing","last"] UU:=by
 have D:=T.go
 refine D.fn.okX NB ?_ (fun cdv A outer s H vs Q E hr h Z hZ=>?_)
 ·rintro _ _ _ _ ⟨i,l,rfl,_⟩
  rfl
 ·obtain⟨i,l,rfl,h0,h1,k⟩:=h
  refine hZ ⟨_,((AF (AJ (BX (AR T.eu (IZ T) (BB hr) (AA (AH 0) AB)) (BX (A3 MH AC (AH 0) (AN _)) (B9 (A3 MH (AH 0) (AH 1) (AN _)))))))),?_⟩
  try dsimp only[A6,An]
  refine⟨_,rfl,i,rfl,true,rfl,Az ?_⟩
  refine⟨_,rfl,_,_,rfl,rfl,true,(by simp[h0]),Az ?_⟩
  exact⟨_,rfl,_,rfl,_,_,rfl,rfl,Qt (by simp[h1]) k⟩
theorem P0:AW ["thing"] ["thing"] (AL IK):=A9
theorem N3 (T:Txt w K mg t):Av P w K mg base Bj 3 t.d4 t.d5 ["thing"] WH:=by
 have D:=T.gp
 refine D.fn.okX P0 ?_ (fun cdv A outer s H vs Q E hr h Z hZ=>?_)
 ·rintro _ _ _ _ ⟨p,z,r,c,rfl,_⟩
  rfl
 ·obtain⟨p,z,r,c,rfl,hp,k⟩:=h
  refine hZ ⟨_,((AD (Ak (DO (Ej (BR (AT Am (by rfl) T.g1 Aa (AA (AH 0) (AA (BP T.g5 Bc) AB))))) (Cc (AQ MG (AT Ab (by rfl) T.gz PySem.boot_len (AA (AH 0) AB)) AC (AN _)))).pt (AF (AJ CS)) AU)
   (AF (AJ (BX (AR T.gn (IO T) (BB hr) (AS (AK AO (AH 0) AC (fun _ _=>rfl)) AB)) (BX (AR T.go (Hq T) (BB hr) (AS (AK AO (AH 0) AC (fun _ _=>rfl)) (AA (HL T.hn) AB))) (B9 (AR T.go (Hq T) (BB hr) (AS (AK AO (AH 0) AC (fun _ _=>rfl)) (AA (HL T.ho) AB)))))))))),?_⟩
  try dsimp only[A6,An]
  refine⟨_,rfl,_,_,_,_,true,rfl,.tup hp.ob,rfl,(fun _=>.inr trivial),BK _ _,true,rfl,Ah ?_⟩
  refine⟨_,rfl,p,_,rfl,.inr (Af.of hp.ob),rfl,false,(by simp),Ah ?_⟩
  refine⟨_,rfl,p,_,_,_,rfl,rfl,Af.of hp.ob,rfl,z,rfl,hp.nm,fun H1 s1=>⟨true,rfl,Az ?_⟩⟩
  have hp1:=hp.same s1
  refine⟨_,rfl,p,_,_,_,rfl,rfl,Af.of hp1.ob,rfl,r,16,rfl,hp.r0,hp.r1,true,rfl,Az ?_⟩
  exact⟨_,rfl,p,_,_,_,rfl,rfl,Af.of hp1.ob,rfl,c,8,rfl,hp.c0,hp.c1,k _ s1⟩
theorem Ix:AW ["thing"] ["thing"] (AL DZ):=A9
theorem IP (T:Txt w K mg t):Av P w K mg base Bj 1 t.d6 t.d7 ["thing"] Yj:=by
 have D:=T.gq
 refine D.fn.okX Ix ?_ (fun cdv A outer s H vs Q E hr h Z hZ=>?_)
 ·rintro _ _ _ _ ⟨w,rfl,_⟩
  rfl
 ·obtain⟨w,rfl,hw,k⟩:=h
  refine hZ ⟨_,((AF (AJ (BX (AT Am (by rfl) T.g1 Aa (AA (AH 0) (AA (BP T.g4 E2) AB))) (B9 (A3 Kx (AH 0) (JC T.hp) rfl)))))),?_⟩
  try dsimp only[A6,An]
  refine⟨_,rfl,_,_,_,_,true,rfl,.str _,rfl,(fun _=>.inr trivial),BK _ _,true,rfl,Az ?_⟩
  exact⟨_,rfl,fun a ha=>⟨a,_,rfl,.inr (ha _),rfl,Mm,Qt (by rw[Q1 hw];rfl) k⟩⟩
theorem KF:AW ["thing","kind"] ["thing"] (AL Gx):=A9
theorem NC (T:Txt w K mg t):Av P w K mg base Bj 4 t.d8 t.d9 ["thing"] WL:=by
 have D:=T.gr
 refine D.fn.okX KF ?_ (fun cdv A outer s H vs Q E hr h Z hZ=>?_)
 ·rintro _ _ _ _ ⟨p,v,rfl,_⟩
  rfl
 ·obtain⟨p,v,rfl,ok,hp,k⟩:=h
  refine hZ ⟨_,((AD (Ak (DO (Ej (BR (AT Am (by rfl) T.g1 Aa (AA (AH 0) (AA (BP T.g5 Bc) AB))))) (DO (AQ Aj (AT Ab (by rfl) T.gz PySem.boot_len (AA (AH 0) AB)) AC (AN _)) (Cc (Ej (BR (AT Am (by rfl) T.g1 Aa (AS (AK AO (AH 0) AC (fun _ _=>rfl)) (AA (BP T.g4 E2) AB)))))))).pt (AF (AJ CS)) AU)
   (AD (Ac (i:=1) KF.nd rfl (Or.inl rfl) (AK AO (AH 0) AC (fun _ _=>rfl)))
   (AD (Ak (AQ Aj (AH 1) AM (AN _)) (AF (AJ (A3 Aj (AT Ab (by rfl) T.gz PySem.boot_len (AA (AH 0) AB)) AC (AN _)))) AU)
   (AD (Ak (AQ Aj (AH 1) AM (AN _)) (AF (AJ (BX (A3 Aj (AT Ab (by rfl) T.gz PySem.boot_len (AA (AH 0) AB)) AC (AN _)) (B9 (AR T.e4 (EQ T) (BB hr) (AS (AK AO (AH 0) AC (fun _ _=>rfl)) (AS (AK AO (AH 0) AC (fun _ _=>rfl)) AB))))))) AU)
   (AD (Ak (AQ Aj (AH 1) AM (AN _)) (AF (AJ (BX (A3 Aj (AT Ab (by rfl) T.gz PySem.boot_len (AA (AH 0) AB)) AC (AN _)) (B9 (AR T.e9 (J0 T) (BB hr) (AS (AK AO (AH 0) AC (fun _ _=>rfl)) AB)))))) AU)
   (AD (Ak (AQ Aj (AH 1) AM (AN _)) (AF (AJ (BX (A3 Aj (AT Ab (by rfl) T.gz PySem.boot_len (AA (AH 0) AB)) AC (AN _)) (B9 (AT Am (by rfl) T.g1 Aa (AS (AK AO (AH 0) AC (fun _ _=>rfl)) (AA (BP T.g3 B8) AB))))))) AU)
   (AD (Ak (AQ Aj (AH 1) AM (AN _)) (AF (AJ (BX (A3 Aj (AT Ab (by rfl) T.gz PySem.boot_len (AA (AH 0) AB)) AC (AN _)) (BX (AR T.gq (IP T) (BB hr) (AS (AK AO (AH 0) AC (fun _ _=>rfl)) AB)) (B9 (AR T.gp (N3 T) (BB hr) (AS (AK AO (AH 0) AC (fun _ _=>rfl)) AB))))))) AU)
   (AF (AJ CS)))))))))),?_⟩
  try dsimp only[A6,An]
  cases v with
  | none=>
   have ob:H p=some (.tup [.str (Str.ofString "none")]):=hp
   refine⟨_,rfl,_,_,_,_,true,rfl,.tup ob,rfl,(fun _=>.inr trivial),BK _ _,true,rfl,Ah ?_⟩
   refine⟨_,rfl,p,_,rfl,.inr (Af.of ob),rfl,false,(by simp),Ah ?_⟩
   refine⟨_,rfl,p,_,_,_,rfl,rfl,Af.of ob,rfl,_,_,_,_,true,rfl,.str _,rfl,(fun _=>.inr trivial),BK _ _,true,rfl,Ah ?_⟩
   refine⟨_,rfl,p,_,_,_,rfl,rfl,Af.of ob,rfl,?_⟩
   refine⟨_,rfl,rfl,true,(by nofun),Az ?_⟩
   exact⟨_,rfl,p,_,rfl,.inr (Af.of ob),rfl,Qt (VM rfl) (k _ (AI.refl _))⟩
  | num t b=>
   have ob:H p=some (.tup [.str (Str.ofString "number"),.int t,.int b]):=hp
   refine⟨_,rfl,_,_,_,_,true,rfl,.tup ob,rfl,(fun _=>.inr trivial),BK _ _,true,rfl,Ah ?_⟩
   refine⟨_,rfl,p,_,rfl,.inr (Af.of ob),rfl,false,(by simp),Ah ?_⟩
   refine⟨_,rfl,p,_,_,_,rfl,rfl,Af.of ob,rfl,_,_,_,_,true,rfl,.str _,rfl,(fun _=>.inr trivial),BK _ _,true,rfl,Ah ?_⟩
   refine⟨_,rfl,p,_,_,_,rfl,rfl,Af.of ob,rfl,?_⟩
   refine⟨_,rfl,rfl,false,(by nofun),Ah ?_⟩
   refine⟨_,rfl,rfl,true,(by nofun),Az ?_⟩
   refine⟨_,rfl,p,_,rfl,.inr (Af.of ob),rfl,true,VM rfl,Az ?_⟩
   exact⟨_,rfl,p,_,_,_,rfl,rfl,Af.of ob,rfl,_,rfl,p,_,_,_,rfl,rfl,Af.of ob,rfl,t,b,rfl,ok.1,(by rw[JG.mpr ok.2.1,JG.mpr ok.2.2];exact k _ (AI.refl _))⟩
  | txt z=>
   have ob:H p=some (.tup [.str (Str.ofString "text"),.str z]):=hp
   refine⟨_,rfl,_,_,_,_,true,rfl,.tup ob,rfl,(fun _=>.inr trivial),BK _ _,true,rfl,Ah ?_⟩
   refine⟨_,rfl,p,_,rfl,.inr (Af.of ob),rfl,false,(by simp),Ah ?_⟩
   refine⟨_,rfl,p,_,_,_,rfl,rfl,Af.of ob,rfl,_,_,_,_,true,rfl,.str _,rfl,(fun _=>.inr trivial),BK _ _,true,rfl,Ah ?_⟩
   refine⟨_,rfl,p,_,_,_,rfl,rfl,Af.of ob,rfl,?_⟩
   refine⟨_,rfl,rfl,false,(by nofun),Ah ?_⟩
   refine⟨_,rfl,rfl,false,(by nofun),Ah ?_⟩
   refine⟨_,rfl,rfl,true,(by nofun),Az ?_⟩
   refine⟨_,rfl,p,_,rfl,.inr (Af.of ob),rfl,true,VM rfl,Az ?_⟩
   exact⟨_,rfl,p,_,_,_,rfl,rfl,Af.of ob,rfl,z,rfl,(by have:=ok.1;omega),fun H' s'=>(by rw[Su ok];exact k H' s')⟩
  | tru b=>
   have ob:H p=some (.tup [.str (Str.ofString "truth"),.bl b]):=hp
   refine⟨_,rfl,_,_,_,_,true,rfl,.tup ob,rfl,(fun _=>.inr trivial),BK _ _,true,rfl,Ah ?_⟩
   refine⟨_,rfl,p,_,rfl,.inr (Af.of ob),rfl,false,(by simp),Ah ?_⟩
   refine⟨_,rfl,p,_,_,_,rfl,rfl,Af.of ob,rfl,_,_,_,_,true,rfl,.str _,rfl,(fun _=>.inr trivial),BK _ _,true,rfl,Ah ?_⟩
   refine⟨_,rfl,p,_,_,_,rfl,rfl,Af.of ob,rfl,?_⟩
   refine⟨_,rfl,rfl,false,(by nofun),Ah ?_⟩
   refine⟨_,rfl,rfl,false,(by nofun),Ah ?_⟩
   refine⟨_,rfl,rfl,false,(by nofun),Ah ?_⟩
   refine⟨_,rfl,rfl,true,(by nofun),Az ?_⟩
   refine⟨_,rfl,p,_,rfl,.inr (Af.of ob),rfl,true,VM rfl,Az ?_⟩
   exact⟨_,rfl,p,_,_,_,rfl,rfl,Af.of ob,rfl,_,_,_,_,true,rfl,.bl _,rfl,(fun _=>.inr trivial),BK _ _,k _ (AI.refl _)⟩
  | flt w z r c=>
   obtain⟨hw,nm,r0,r1,c0,c1⟩:=ok
   obtain⟨q,ob,oq⟩:=hp
   refine⟨_,rfl,_,_,_,_,true,rfl,.tup ob,rfl,(fun _=>.inr trivial),BK _ _,true,rfl,Ah ?_⟩
   refine⟨_,rfl,p,_,rfl,.inr (Af.of ob),rfl,false,(by simp),Ah ?_⟩
   refine⟨_,rfl,p,_,_,_,rfl,rfl,Af.of ob,rfl,_,_,_,_,true,rfl,.str _,rfl,(fun _=>.inr trivial),BK _ _,true,rfl,Ah ?_⟩
   refine⟨_,rfl,p,_,_,_,rfl,rfl,Af.of ob,rfl,?_⟩
   refine⟨_,rfl,rfl,false,(by nofun),Ah ?_⟩
   refine⟨_,rfl,rfl,false,(by nofun),Ah ?_⟩
   refine⟨_,rfl,rfl,false,(by nofun),Ah ?_⟩
   refine⟨_,rfl,rfl,false,(by nofun),Ah ?_⟩
   refine⟨_,rfl,rfl,true,(by nofun),Az ?_⟩
   refine⟨_,rfl,p,_,rfl,.inr (Af.of ob),rfl,true,VM rfl,Az ?_⟩
   refine⟨_,rfl,p,_,_,_,rfl,rfl,Af.of ob,rfl,w,rfl,hw,true,rfl,Az ?_⟩
   exact⟨_,rfl,p,_,_,_,rfl,rfl,Af.of ob,rfl,q,z,r,c,rfl,⟨oq,nm,r0,r1,c0,c1⟩,k⟩
theorem Iy:AW ["_law_one"] ["_law_one"] (AL Da):=A9
theorem IQ (T:Txt w K mg t):Av P w K mg base Bj 1 t.ea t.eb ["_law_one"] XV:=by
 have D:=T.gs
 refine D.fn.okX Iy ?_ (fun cdv A outer s H vs Q E hr h Z hZ=>?_)
 ·rintro _ _ _ _ ⟨u,v,rfl,_⟩
  rfl
 ·obtain⟨u,v,rfl,hv,k⟩:=h
  refine hZ ⟨_,((AD (Ak (Dv (AQ Aj (AK AO (AH 0) AC (fun _ _=>rfl)) AM (AN _)) (EY (AQ Kq (AT (Kr rfl) (by rfl) T.hd Mj (Ai (AT Ex (by rfl) T.ha E1 (AS (AK AO (AH 0) AC (fun _ _=>rfl)) AB)) (AS (AK AO (AH 0) AC (fun _ _=>rfl)) AB))) AC (AN _)))).pt (AF (AJ (Al (AG AM (AG AC (AG AC AB)))))) AU)
   (AF (AJ (AH 0))))),?_⟩
  try dsimp only[A6,An]
  obtain⟨q,xs,rfl,hq,_⟩:=hv.hd
  refine⟨_,rfl,q,_,_,_,rfl,rfl,Af.of hq,Ag,rfl,_,rfl,Ba (fun c=>?_) (fun c=>Ah ?_)⟩
  ·obtain⟨_,ez,hz⟩:=id hv
   cases ez
   obtain⟨t_,b_,rfl⟩:=hz.num_of c
   have hq':H q=some (.tup [vS "number",.int t_,.int b_]):=hz
   refine⟨_,rfl,q,_,_,_,rfl,rfl,Af.of hq',rfl,t_,rfl,_,rfl,q,_,_,_,rfl,rfl,Af.of hq',rfl,_,_,rfl,_,_,rfl,rfl,M3 t_ b_,rfl,Ba (fun d=>?_) (fun d=>?_)⟩
   ·refine⟨As,fun p hp=>k _ _ ?_ (AI.new hp)⟩
    rw[LK d]
    exact⟨p,rfl,AE⟩
   ·refine⟨_,rfl,k _ _ ?_ (AI.refl _)⟩
    rw[LL d]
    exact hv
  ·refine⟨_,rfl,k _ _ ?_ (AI.refl _)⟩
   cases v with
   | num t b=>exact absurd (by show decide (V.str (Str.ofString "number")=vS "number")=true;nofun) c
   | none=>exact hv
   | txt z=>exact hv
   | tru b=>exact hv
   | flt w z r c=>exact hv
theorem GI:AW ["_law_pen_here","_law_known","_law_high","_law_wide","_law_sheet","_law_table"] ["_law_pen_here","_law_known","_law_high","_law_wide"] (AL GC):=A9
theorem Hr (T:Txt w K mg t):Av P w K mg base Bj 6 t.ec t.ed ["_law_pen_here","_law_known","_law_high","_law_wide"] (U6 K):=by
 have D:=T.gt
 refine D.fn.okX GI ?_ (fun cdv A outer s H vs Q E hr h Z hZ=>?_)
 ·rintro _ _ _ _ ⟨p,kn,h_,w_,n,S,kvs,rfl,_⟩
  rfl
 ·obtain⟨p,kn,h_,w_,n,S,kvs,rfl,h1,h3,w1,w3,hpen,hn,hkn,hk7,k⟩:=h
  refine hZ ⟨_,((AD (Ac (i:=4) GI.nd rfl (Or.inl rfl) (AY CH (AY CH AM (AK Hx AM (AY Cd (AY LN (AT K5 (by rfl) T.gz PySem.boot_len (AA (AH 1) AB)) AC) AC) (fun _ _=>rfl))) (AK Hx AM (AY Cd (AT K5 (by rfl) T.gz PySem.boot_len (AA (AH 1) AB)) AC) (fun _ _=>rfl))))
   (AD (Ak (Dv (AQ Aj (AH 2) AC (AN _)) (Dv (AQ Aj (AH 3) AC (AN _)) (EY (AQ Aj (AR T.gf (Ae T) (BB hr) (AA (AH 0) (AG AC AB))) AC (AN _))))).pt (AF (AJ (AK Ay (Bq (B4 (Al (AG AM (B4 (Al (AG AM (Ai (AR T.gf (Ae T) (BB hr) (AA (AH 0) (AG AC AB))) (AG AC AB)))) AB))) (B4 (Al (AG AM (AG AM AB))) AB))) (Bw Ey (by rfl) T.g2 CV (CU (A3 Aj (AR T.gf (Ae T) (BB hr) (AA (AH 0) (AG AC AB))) AC (AN _)) AB)) (fun _ _=>rfl)))) AU)
   (AD (Ac (i:=5) GI.nd rfl (Or.inl rfl) (AR T.gj (GX T) (BB hr) (AA (AH 0) (AA (AH 2) (AA (AH 3) AB)))))
   (AF (AJ (AR T.gl (IN T) (BB hr) (AA (AH 0) (AA (AH 1) (AA (AH 4) (CJ (Bu (fv:=[]) (js:=[]) (cl:=[]) rfl (by with_unfolding_all rfl) ⟨rfl,by nofun,by nofun,rfl,by nofun,by nofun,(List.forall_mem_nil _),(List.forall_mem_nil _),.nil⟩ (Dl (AH 5)) (fun _ _ _ _ _=>CI) (fun _ _ _ _ _=>(by exact(Bu (fv:=[]) (js:=[]) (cl:=[]) rfl (by with_unfolding_all rfl) ⟨rfl,by nofun,by nofun,rfl,by nofun,by nofun,(List.forall_mem_nil _),(List.forall_mem_nil _),.nil⟩ (by exact(Re (AH 0))) (fun _ _ _ _ _=>CI) (fun _ _ _ _ _=>(by exact(AR T.gs (IQ T) (BB hr) (AA (AH 0) AB)))))))) AB))))))))))),?_⟩
  try dsimp only[A6,An]
  obtain⟨ca,hca,na⟩:=XZ (r:=((kvs.length:Int) / 8)%8) (by omega) (by omega)
  obtain⟨cb,hcb,nb⟩:=XZ (r:=(kvs.length:Int)%8) (by omega) (by omega)
  refine⟨_,rfl,kn,kvs,rfl,.inl hkn.ob,_,_,rfl,rfl,⟨by decide,by decide⟩,_,_,rfl,rfl,(by show(0:Int)<8;decide),_,_,ca,rfl,rfl,(by nofun),hca,_,_,rfl,rfl,U9,?_⟩
  refine⟨_,rfl,kn,kvs,rfl,.inl hkn.ob,_,_,rfl,rfl,(by show(0:Int)<8;decide),_,_,cb,rfl,rfl,(by nofun),hcb,_,_,rfl,rfl,VA,?_⟩
  have nm:=Sq na nb
  generalize Str.ofString "s"++(⟨#[ca]⟩:Str)++⟨#[cb]⟩=z at *
  dsimp only[Ew]
  refine Lx (fun σ H1=>σ=[some (.ref p),some (.ref kn),some (.int h_),some (.int w_),some (.str z),none]∧Bd K S H1 p (n+1)∧Aw p H H1) (fun N hN=>?_) ?_
  ·refine⟨_,rfl,rfl,_,rfl,Ba (fun c1=>?_) (fun c1=>Ah (hN _ _ ⟨rfl,hpen.mono (by omega),Aw.refl _ _⟩))⟩
   refine⟨_,rfl,rfl,_,rfl,Ba (fun c2=>?_) (fun c2=>Ah (hN _ _ ⟨rfl,hpen.mono (by omega),Aw.refl _ _⟩))⟩
   have e1:(h_:Int)=1:=by have:=of_decide_eq_true c1;injection this
   have e2:(w_:Int)=1:=by have:=of_decide_eq_true c2;injection this
   refine⟨_,rfl,p,_,_,S,rfl,(by show(0:Int)<_;decide),A5 (by decide) (by decide),hpen,(by omega),fun r1 H1 a1 b1 pen1 kp1=>⟨rfl,_,rfl,Ba (fun c3=>?_) (fun c3=>hN _ _ ⟨rfl,pen1,kp1⟩)⟩⟩
   have g0:=(Bz.refl hpen hkn).kx pen1 kp1
   refine⟨_,rfl,p,_,_,S,rfl,(by show(0:Int)<_;decide),A5 (by decide) (by decide),pen1,(by omega),fun r2 H2 a2 b2 pen2 kp2=>⟨As,fun q1 hq1=>⟨BG,fun q2 hq2=>⟨BG,fun q3 hq3=>⟨BG,fun lx hlx=>?_⟩⟩⟩⟩⟩
   have g2:=g0.kx pen2 kp2
   have s1:=AI.new (o:=.tup [vS "number",.int r2,.int 1]) hq1
   have e4:upd H2 q1 (.tup [vS "number",.int r2,.int 1]) q1=some (.tup [vS "number",.int r2,.int 1]):=AE
   generalize upd H2 q1 (.tup [vS "number",.int r2,.int 1])=H3 at *
   have s2:=AI.new (o:=.tup [vS "value",.ref q1]) hq2
   have e5:upd H3 q2 (.tup [vS "value",.ref q1]) q2=some (.tup [vS "value",.ref q1]):=AE
   generalize upd H3 q2 (.tup [vS "value",.ref q1])=H4 at *
   have s3:=AI.new (o:=.tup [vS "fault",vS "gone"]) hq3
   have e6:upd H4 q3 (.tup [vS "fault",vS "gone"]) q3=some (.tup [vS "fault",vS "gone"]):=AE
   generalize upd H4 q3 (.tup [vS "fault",vS "gone"])=H5 at *
   have s4:=AI.new (o:=.lst [.ref q2,.ref q3]) hlx
   have e7:upd H5 lx (.lst [.ref q2,.ref q3]) lx=some (.lst [.ref q2,.ref q3]):=AE
   have nlx:lx≠p:=(((g2.same s1).same s2).same s3).pen.ne hlx
   generalize upd H5 lx (.lst [.ref q2,.ref q3])=H6 at *
   have g6:=(((g2.same s1).same s2).same s3).same s4
   refine⟨_,rfl,p,_,_,S,rfl,(by show(0:Int)<_;decide),A5 (by decide) (by decide),g6.pen,(by omega),fun r7 H7 a7 b7 pen7 kp7=>⟨rfl,?_⟩⟩
   have g7:=(g6.kx pen7 kp7).mono (c':=n+410) (k':=9) (by omega) (by omega)
   have k7:=g6.pen.kp kp7
   by_cases c4:decide (V.int r7=V.int 1)=true
   ·refine .inr ⟨true,congrArg (fun b=>[V.bl b]) c4,lx,_,_,_,rfl,rfl,Ax.of (kp7 _ _ nlx e7),rfl,?_⟩
    exact k _ (.flt (Str.ofString "gone")) kvs _ (.lf (show FD H7 q3 (.flt (Str.ofString "gone"))from k7 _ _ (s4 _ _ e6))) (.inl ⟨by omega,by omega,.inr ⟨_,rfl,by nofun⟩⟩) g7
   ·refine .inr ⟨false,congrArg (fun b=>[V.bl b]) (Bool.eq_false_iff.mpr c4),lx,_,_,_,rfl,rfl,Ax.of (kp7 _ _ nlx e7),rfl,?_⟩
    exact k _ (.val (.num r2 1)) kvs _ (.lf (show FD H7 q2 (.val (.num r2 1))from⟨q1,k7 _ _ (s4 _ _ (s3 _ _ e5)),k7 _ _ (s4 _ _ (s3 _ _ (s2 _ _ e4)))⟩)) (.inl ⟨by omega,by omega,.inl ⟨_,rfl,Gk (by have:=SY;omega),⟨rfl,by omega,by omega⟩⟩⟩) g7
  ·rintro σ H1 ⟨rfl,pen1,kp1⟩
   have g1:=(Bz.refl hpen hkn).kx pen1 kp1
   refine⟨_,rfl,_,rfl,_,rfl,p,h_,w_,_,S,rfl,h1,(by omega),w1,(by omega),pen1,(by omega),fun l0 bs0 rows0 m0 H2 hl0 hb0 lt0 ml0 ok0 pen2 kp2=>?_⟩
   have g2:=g1.kx pen2 kp2
   have tt0:=TT.of lt0 ml0 ok0 h1 (show h_≤16 by omega) w1 (show w_≤8 by omega)
   refine⟨_,rfl,_,rfl,_,rfl,?_⟩
   have bl_b:bs0.length=h_:=(Paired.length tt0.d.ls).trans tt0.d.len
   refine⟨_,rfl,l0,rfl,⟨_,Ax.of tt0.d.ob⟩,fun D_b hD_b=>?_⟩
   refine⟨fun j mm H=>mm=h_-j∧j≤h_∧∃ bs rows,RD H2 H D_b bs rows (CC (fun j k=>IX (cy .none m0 j k)) j w_),⟨h_,rfl,Nat.zero_le _,[],[],RD.nil hD_b⟩,?_⟩
   rintro j mm HJ_b ⟨rfl,hj,bs_b,rows_b,rd_b⟩
   have tj_b:=tt0.same rd_b.s
   by_cases hlt:j<h_
   ·obtain⟨b_,r_,hb_,hbr_,lr_,_,_⟩:=tj_b.at j 0
    rw[Nat.mod_eq_of_lt hlt]at hb_
    have hx:(bs0.map V.ref)[j]?=some (.ref b_):=by rw[List.getElem?_map,hb_];rfl
    refine .inr ⟨⟨_,_,Ax.of tj_b.d.ob,hx⟩,fun x' H' y=>?_⟩
    obtain⟨e4,y⟩:=y
    subst e4
    have hx':=y _ (Ax.of tj_b.d.ob)
    rw[hx]at hx'
    cases hx'
    refine⟨_,rfl,b_,rfl,⟨_,Ax.of hbr_⟩,fun D2 hD2=>?_⟩
    obtain⟨n1,n2,n3⟩:=rd_b.new hD2
    refine⟨fun k mm H=>mm=w_-k∧k≤w_∧RD H2 H D_b bs_b rows_b (CC (fun j k=>IX (cy .none m0 j k)) j w_)∧∃ us,H D2=some (.lst us)∧Br H us ((List.range k).map fun k=>IX (cy .none m0 j k))∧AI H' H,⟨w_,rfl,Nat.zero_le _,rd_b.same (AI.new hD2),[],AE,.nil,AI.new hD2⟩,?_⟩
    rintro k' mm H52 ⟨rfl,hk',rd52,us,hD52,vs52,s52⟩
    have ul:us.length=k':=(Paired.length vs52).trans (by rw[List.length_map,List.length_range])
    have hbr52:=s52 _ _ hbr_
    by_cases hlt2:k'<w_
    ·obtain⟨b2,r2,hb2,hbr2,lr2,hr2,hv2⟩:=(tj_b.same s52).at j k'
     rw[Nat.mod_eq_of_lt hlt,hb_]at hb2
     cases hb2
     rw[hbr52]at hbr2
     cases hbr2
     rw[Nat.mod_eq_of_lt hlt2]at hr2
     refine .inr ⟨⟨_,_,Ax.of hbr52,hr2⟩,fun x' H3 y=>?_⟩
     obtain⟨e4,y⟩:=y
     subst e4
     have hx':=y _ (Ax.of hbr52)
     rw[hr2]at hx'
     cases hx'
     refine⟨_,rfl,_,_,rfl,hv2,fun zn H54 hz54 s54=>?_⟩
     have hD54:=s54 _ _ hD52
     have kd:=CQ (vs:=us++[zn]) hD54
     refine⟨us,hD54,B5 (by omega),w_-(k'+1),(by omega),rfl,hlt2,(rd52.same s54).st n1 n2 n3 hD54,us++[zn],AE,?_,fun b o e=>by rw[AX (AZ e hD2)];exact s54 _ _ (s52 _ _ e)⟩
     rw[List.range_succ,List.map_append]
     exact Dx (Br.kp vs52 ((Kp.same s54).trans kd)) (hz54.kp kd)
    ·have ek:w_=k':=by omega
     subst ek
     have hln:=rd52.len.1
     rw[Cu]at hln
     refine .inl ⟨⟨_,Ax.of hbr52,by rw[lr_];exact Nat.le_refl _⟩,_,rd52.b.ob,B5 (by rw[List.length_map];omega),h_-(j+1),(by omega),rfl,hlt,bs_b++[D2],rows_b++[us],?_⟩
     rw[LJ]
     exact rd52.push n1 n3 hD52 vs52
   have ej_b:h_=j:=by omega
   subst ej_b
   refine .inl ⟨⟨_,Ax.of tj_b.d.ob,by rw[List.length_map,bl_b];exact Nat.le_refl _⟩,?_⟩
   have ZC:∀ jj kk,Ap (cy .none m0 jj kk):=fun jj kk=>HQ tt0.rect (fun r hr=>(tt0.ok r hr).2) jj kk
   have tt1:=TT.rd rd_b pen2 h1 (show h_≤16 by omega) w1 (show w_≤8 by omega) (fun jj kk=>(Rc (ZC jj kk)).1)
   have g3:=g2.same rd_b.s
   have hw9:h_*w_≤3*3:=Nat.mul_le_mul h3 w3
   refine⟨p,kn,D_b,z,kvs,bs_b,rows_b,h_,w_,_,S,rfl,g3.pen,(by omega),g3.kd.ob,(by omega),tt1.d.ob,tt1.d.lp,tt1.d.np,tt1.d.ls,tt1.d.len,h1,(by omega),w1,(by omega),tt1.d.row,fun a lf c d hi wi kvs' H' i1 i2 i3 i4 i5 i6 i7 i8 i9 i10 i11 i12 i13 i14 pen4 kp4=>?_⟩
   obtain⟨_,eo⟩:=g3.pen.ob
   have kk4:Kp _ H':=E4.kp (show E4 p kn _ H' from kp4) eo g3.kd.ob
   have vt4:=By.kp tt1.vt kk4
   refine k (.ref a) lf kvs' H' (.lf i5) (.inr ⟨z,c,d,OY i6 nm i7 i8 i9 i10 i11 i12 i13 i14 h1 w1 (fun i j q1 q2 q3 q4=>Rg i3 tt1.d.len tt1.d.row q1 q2 q3 q4),(by omega),(by omega)⟩) ⟨pen4.mono (by omega),U8 g3.kd i4 vt4 (fun r hr v hv=>(tt1.ok r hr).2 v hv) kk4 i1,(by omega),fun z r c hz=>(i4 _).2 hz,g3.kp.trans kp4⟩
theorem Bt:AW ["_law_pen_here","_law_known","_law_deep","_law_way","_law_inner","_law_high","_law_one","_law_other","_law_table"] ["_law_pen_here","_law_known","_law_deep"] (AL Ev):=A9
theorem KG (T:Txt w K mg t){n:Nat}(ih:Av P w K mg base Bj (2*n+7) t.eg t.eh ["_law_pen_here","_law_known","_law_high","_law_wide","_law_deep"] (Rf K n)):Av P w K mg base Bj (2*n+8) t.ee t.ef ["_law_pen_here","_law_known","_law_deep"] (U7 K n):=by
 have D:=T.gu
 refine D.fn.okX Bt ?_ (fun cdv A outer s H vs Q E hr h Z hZ=>?_)
 ·rintro _ _ _ _ ⟨p,kn,c,S,kvs,rfl,_⟩
  rfl
 ·obtain⟨p,kn,c,S,kvs,rfl,hpen,hc,hkn,hk,k⟩:=h
  refine hZ ⟨_,((AD (Ac (i:=3) Bt.nd rfl (Or.inl rfl) (AR T.gf (Ae T) (hr.mono (by omega)) (AA (AH 0) (AG AC AB))))
   (AD (Ak (AQ FS (AH 3) AC (AN _)) (AD (Ac (i:=4) Bt.nd rfl (Or.inl rfl) (AR T.gv ih (hr.mono (by omega)) (AA (AH 0) (AA (AH 1) (AV (AY A0 AC (AR T.gf (Ae T) (hr.mono (by omega)) (AA (AH 0) (AG AC AB)))) (AV (AY A0 AC (AR T.gf (Ae T) (hr.mono (by omega)) (AA (AH 0) (AG AC AB)))) (AV (AY BH (AH 2) AC) AB)))))))
   (AF (AJ (Al (AS (AK Ay (Bq (AG AM (AG AM (AG AM (AG AM AB))))) (AH 3) (fun _ _=>rfl)) (AA (AH 4) AB)))))) AU)
   (AD (Ak (AQ Aj (AH 3) AC (AN _)) (AD (Ac (i:=5) Bt.nd rfl (Or.inl rfl) (AY A0 AC (AR T.gf (Ae T) (hr.mono (by omega)) (AA (AH 0) (AG AC AB)))))
   (AD (Ac (i:=6) Bt.nd rfl (Or.inl rfl) (AR T.gv ih (hr.mono (by omega)) (AA (AH 0) (AA (AH 1) (AA (AH 5) (AG AC (AV (AY BH (AH 2) AC) AB)))))))
   (AD (Ac (i:=7) Bt.nd rfl (Or.inl rfl) (AR T.gv ih (hr.mono (by omega)) (AA (AH 0) (AA (AH 1) (AA (AH 5) (AG AC (AV (AY BH (AH 2) AC) AB)))))))
   (AF (AJ (Al (AG AM (AA (AH 6) (AS (AK Hx AM (AR T.gf (Ae T) (hr.mono (by omega)) (AA (AH 0) (AG AC AB))) (fun _ _=>rfl)) (Ai (AR T.gv ih (hr.mono (by omega)) (AA (AH 0) (AA (AH 1) (AG AC (AG AC (AV (AY BH (AH 2) AC) AB)))))) (AA (AH 7) AB))))))))))) AU)
   (AD (Ak (AQ Aj (AH 3) AC (AN _)) (AD (Ac (i:=8) Bt.nd rfl (Or.inl rfl) (AR T.gv ih (hr.mono (by omega)) (AA (AH 0) (AA (AH 1) (AV (AY A0 AC (AR T.gf (Ae T) (hr.mono (by omega)) (AA (AH 0) (AG AC AB)))) (AG AC (AV (AY BH (AH 2) AC) AB)))))))
   (AF (AJ (Al (AG AM (Ai (AR T.gv ih (hr.mono (by omega)) (AA (AH 0) (AA (AH 1) (AG AC (AG AC (AV (AY BH (AH 2) AC) AB)))))) (AA (AH 8) (B4 (Al (AG AM (B4 (Al (AG AM (AV (AY A0 AC (AR T.gf (Ae T) (hr.mono (by omega)) (AA (AH 0) (AG AC AB)))) (AG AC AB)))) AB))) AB)))))))) AU)
   (AF (AJ (Al (AG AM (Ai (AR T.gv ih (hr.mono (by omega)) (AA (AH 0) (AA (AH 1) (AG AC (AG AC (AV (AY BH (AH 2) AC) AB)))))) AB)))))))))),?_⟩
  try dsimp only[A6,An]
  refine⟨_,rfl,p,_,_,S,rfl,(by show(0:Int)<_;decide),A5 (by decide) (by decide),hpen,(by omega),fun r1 H1 a1 b1 pen1 kp1=>?_⟩
  have g1:=(Bz.refl hpen hkn).kx pen1 kp1
  refine S9 rfl (fun c1 N=>?_) (fun c1=>?_)
  ·have c1':r1<4:=of_decide_eq_true c1
   refine⟨_,rfl,_,rfl,_,rfl,p,_,_,S,rfl,(by show(0:Int)<_;decide),A5 (by decide) (by decide),pen1,(by omega),fun r2 H2 a2 b2 pen2 kp2=>⟨_,_,rfl,rfl,?_⟩⟩
   have g2:=g1.kx pen2 kp2
   refine⟨_,rfl,p,_,_,S,rfl,(by show(0:Int)<_;decide),A5 (by decide) (by decide),pen2,(by omega),fun r3 H3 a3 b3 pen3 kp3=>⟨_,_,rfl,rfl,?_⟩⟩
   have g3:=g2.kx pen3 kp3
   refine⟨_,rfl,_,_,rfl,rfl,p,kn,(1+r2).toNat,(1+r3).toNat,_,S,_,tv (by omega) (by omega) (by omega),(by omega),(by omega),(by omega),(by omega),g3.pen,(by omega),g3.kd,(by have:=g3.len;omega),fun u4 f4 kv4 T4 fm4 ty4 gr4=>?_⟩
   have g4:=g3.trans gr4
   obtain⟨z_,hz_,hzW⟩:=Yy a1 c1'
   refine⟨(by show 4≤sizeLine;decide),fun lx hlx=>⟨_,rfl,lx,_,_,_,rfl,rfl,Ax.of AE,hz_,?_⟩⟩
   have s1:=AI.new (o:=.lst [vS "sum",vS "count",vS "least",vS "most"]) hlx
   generalize upd T4 lx (.lst [vS "sum",vS "count",vS "least",vS "most"])=H5 at *
   refine⟨_,rfl,BG,fun q hq=>?_⟩
   have s2:=AI.new (o:=.tup [.str z_,u4]) hq
   exact k (.ref q) (.nd (.wd z_) [f4]) kv4 _ (TK (t:=q) AE rfl (A7.kp fm4 (Kp.same (s1.trans s2)))) (.w4 hzW ty4) (((g4.same s1).same s2).mono (by omega) (by omega))
  have c1':¬ r1<4:=fun z=>c1 (decide_eq_true z)
  refine RB rfl (fun c2 N=>?_) (fun c2=>?_)
  ·refine⟨_,rfl,p,_,_,S,rfl,(by show(0:Int)<_;decide),A5 (by decide) (by decide),pen1,(by omega),fun r2 H2 a2 b2 pen2 kp2=>⟨_,_,rfl,rfl,?_⟩⟩
   have g2:=g1.kx pen2 kp2
   refine⟨_,rfl,_,rfl,_,rfl,_,rfl,_,_,rfl,rfl,p,kn,(1+r2).toNat,2,_,S,_,tv (by omega) (by omega) (by omega),(by omega),(by omega),(by omega),(by omega),g2.pen,(by omega),g2.kd,(by have:=g2.len;omega),fun u3 f3 kv3 T3 fm3 ty3 gr3=>?_⟩
   have g3:=g2.trans gr3
   refine⟨_,rfl,_,rfl,_,rfl,_,rfl,_,_,rfl,rfl,p,kn,(1+r2).toNat,2,_,S,_,tv (by omega) (by omega) (by omega),(by omega),(by omega),(by omega),(by omega),g3.pen,(by omega),g3.kd,(by have:=g3.len;omega),fun u4 f4 kv4 T4 fm4 ty4 gr4=>?_⟩
   have g4:=g3.trans gr4
   refine⟨_,rfl,_,rfl,p,_,_,S,rfl,(by show(0:Int)<_;decide),A5 (by decide) (by decide),g4.pen,(by omega),fun r5 H5 a5 b5 pen5 kp5=>?_⟩
   have g5:=g4.kx pen5 kp5
   obtain⟨cc,hcc,hsg⟩:=Yz a5 b5
   refine⟨_,_,cc,rfl,rfl,(by nofun),hcc,?_⟩
   generalize (⟨#[cc]⟩:Str)=sg at *
   refine⟨_,rfl,_,rfl,_,rfl,_,_,rfl,rfl,p,kn,1,1,_,S,_,tv (by omega) (by omega) (by omega),(by omega),(by omega),(by omega),(by omega),g5.pen,(by omega),g5.kd,(by have:=g5.len;omega),fun u6 f6 kv6 T6 fm6 ty6 gr6=>?_⟩
   have g6:=g5.trans gr6
   refine⟨_,rfl,(by show 5≤sizeLine;decide),fun q hq=>?_⟩
   have s2:=AI.new (o:=.tup [vS "sumif",u3,.str sg,u6,u4]) hq
   have k45:=(g4.pen.kp kp5).trans ((gr6.kk g5.pen g5.kd).trans (Kp.same s2))
   have k35:=(gr4.kk g3.pen g3.kd).trans k45
   have t3:=(ty3.mono gr4.dm).mono gr6.dm
   exact k (.ref q) (.nd (.sumif sg) [f3,f6,f4]) kv6 _ (VQ (t:=q) AE rfl (A7.kp fm3 k35) (A7.kp fm6 (Kp.same s2)) (A7.kp fm4 k45)) (.sumif hsg t3 ty6 (ty4.mono gr6.dm)) ((g6.same s2).mono (by omega) (by omega))
  refine RB rfl (fun c3 N=>?_) (fun c3=>?_)
  ·refine⟨_,rfl,_,rfl,_,rfl,p,_,_,S,rfl,(by show(0:Int)<_;decide),A5 (by decide) (by decide),pen1,(by omega),fun r2 H2 a2 b2 pen2 kp2=>⟨_,_,rfl,rfl,?_⟩⟩
   have g2:=g1.kx pen2 kp2
   refine⟨_,rfl,_,_,rfl,rfl,p,kn,(1+r2).toNat,2,_,S,_,tv (by omega) (by omega) (by omega),(by omega),(by omega),(by omega),(by omega),g2.pen,(by omega),g2.kd,(by have:=g2.len;omega),fun u3 f3 kv3 T3 fm3 ty3 gr3=>?_⟩
   have g3:=g2.trans gr3
   refine⟨_,rfl,_,rfl,_,rfl,_,_,rfl,rfl,p,kn,1,1,_,S,_,tv (by omega) (by omega) (by omega),(by omega),(by omega),(by omega),(by omega),g3.pen,(by omega),g3.kd,(by have:=g3.len;omega),fun u4 f4 kv4 T4 fm4 ty4 gr4=>?_⟩
   have g4:=g3.trans gr4
   refine⟨_,rfl,_,rfl,p,_,_,S,rfl,(by show(0:Int)<_;decide),A5 (by decide) (by decide),g4.pen,(by omega),fun r5 H5 a5 b5 pen5 kp5=>⟨_,_,rfl,rfl,As,fun q1 hq1=>⟨BG,fun q2 hq2=>⟨(by show 4≤sizeLine;decide),fun q hq=>?_⟩⟩⟩⟩
   have g5:=g4.kx pen5 kp5
   have s1:=AI.new (o:=.tup [vS "number",.int (1+r5),.int 1]) hq1
   have e1:upd H5 q1 (.tup [vS "number",.int (1+r5),.int 1]) q1=some (.tup [vS "number",.int (1+r5),.int 1]):=AE
   generalize upd H5 q1 (.tup [vS "number",.int (1+r5),.int 1])=H6 at *
   have s2:=AI.new (o:=.tup [vS "value",.ref q1]) hq2
   have e2:upd H6 q2 (.tup [vS "value",.ref q1]) q2=some (.tup [vS "value",.ref q1]):=AE
   generalize upd H6 q2 (.tup [vS "value",.ref q1])=H7 at *
   have s3:=AI.new (o:=.tup [vS "find",u4,u3,.ref q2]) hq
   have k45:=(g4.pen.kp kp5).trans (Kp.same (s1.trans (s2.trans s3)))
   have k35:=(gr4.kk g3.pen g3.kd).trans k45
   have lv:FD (upd H7 q (.tup [vS "find",u4,u3,.ref q2])) q2 (.val (.num (1+r5) 1)):=⟨q1,s3 _ _ e2,s3 _ _ (s2 _ _ e1)⟩
   exact k (.ref q) (.nd (.wd (zS "find")) [f4,f3,.lf (.val (.num (1+r5) 1))]) kv4 _ (VQ (t:=q) AE rfl (A7.kp fm4 k45) (A7.kp fm3 k35) (.lf lv)) (.find ty4 (ty3.mono gr4.dm) (.lf (.inl ⟨rfl,rfl,.inl ⟨_,rfl,Gk (by have:=SY;omega),rfl,by omega,by omega⟩⟩) (by decide) (by decide) (by decide) (by decide))) ((((g5.same s1).same s2).same s3).mono (by omega) (by omega))
  refine⟨_,rfl,_,rfl,_,rfl,_,_,rfl,rfl,p,kn,1,1,_,S,_,tv (by omega) (by omega) (by omega),(by omega),(by omega),(by omega),(by omega),g1.pen,(by omega),g1.kd,(by have:=g1.len;omega),fun u4 f4 kv4 T4 fm4 ty4 gr4=>?_⟩
  have g4:=g1.trans gr4
  refine⟨BG,fun q hq=>?_⟩
  have s2:=AI.new (o:=.tup [vS "outer",u4]) hq
  exact k (.ref q) (.nd (.wd (zS "outer")) [f4]) kv4 _ (TK (t:=q) AE rfl (A7.kp fm4 (Kp.same s2))) (.outer ty4) ((g4.same s2).mono (by omega) (by omega))
theorem BO:AW ["_law_pen_here","_law_known","_law_high","_law_wide","_law_deep","_law_way","_law_alone","_law_one","_law_other","_law_upper"] ["_law_pen_here","_law_known","_law_high","_law_wide","_law_deep"] (AL GD):=A9
theorem L6 (T:Txt w K mg t):∀ n:Nat,Av P w K mg base Bj (2*n+7) t.eg t.eh ["_law_pen_here","_law_known","_law_high","_law_wide","_law_deep"] (Rf K n):=by
 have D:=T.gv
 intro n
 induction n with
 | zero=>
  refine D.fn.okX BO ?_ (fun cdv A outer s H vs Q E hr h Z hZ=>?_)
  ·rintro _ _ _ _ ⟨p,kn,h_,w_,c,S,kvs,rfl,_⟩
   rfl
  ·obtain⟨p,kn,h_,w_,c,S,kvs,rfl,h1,h3,w1,w3,hpen,hc,hkn,hk,k⟩:=h
   have ih:Av P w K mg base Bj 0 t.eg t.eh ["_law_pen_here","_law_known","_law_high","_law_wide","_law_deep"] (fun _ _ _ _=>False):=⟨fun _ _ _ _ z=>z.elim,fun _ _ _ _ _ _ _ _ _ _ _ _ _ z=>z.elim⟩
   have eT:pT 0=600:=rfl
   have eK:kT 0=9:=rfl
   refine hZ ⟨_,((AD (Ac (i:=5) BO.nd rfl (Or.inl rfl) (AR T.gf (Ae T) (hr.mono (by omega)) (AA (AH 0) (AG AC AB))))
   (AD (Ak (DO (AQ Aj (AH 4) AC (AN _)) (Cc (AQ Aj (AH 5) AC (AN _)))).pt (AF (AJ (AR T.gt (Hr T) (hr.mono (by omega)) (AA (AH 0) (AA (AH 1) (AA (AH 2) (AA (AH 3) AB))))))) AU)
   (AD Co (AD Co (AD Co (AD Co (AD Co (AD Co (AD Co (AF Co))))))))))),?_⟩
   try dsimp only[A6,An]
   refine⟨_,rfl,p,_,_,S,rfl,(by show(0:Int)<_;decide),A5 (by decide) (by decide),hpen,(by omega),fun r1 H1 a1 b1 pen1 kp1=>?_⟩
   have g1:=(Bz.refl hpen hkn).kx pen1 kp1
   exact⟨_,rfl,rfl,true,(by decide),Az (Az ⟨_,rfl,_,rfl,_,rfl,_,rfl,p,kn,h_,w_,_,S,kvs,rfl,h1,h3,w1,w3,g1.pen,(by omega),g1.kd,(by omega),fun u l kvs' H' fm lt g=>k u (.lf l) kvs' H' fm (.lf lt h1 h3 w1 w3) ((g1.trans g).mono (by omega) (by omega))⟩)⟩
 | succ n ih=>
  refine D.fn.okX BO ?_ (fun cdv A outer s H vs Q E hr h Z hZ=>?_)
  ·rintro _ _ _ _ ⟨p,kn,h_,w_,c,S,kvs,rfl,_⟩
   rfl
  ·obtain⟨p,kn,h_,w_,c,S,kvs,rfl,h1,h3,w1,w3,hpen,hc,hkn,hk,k⟩:=h
   have eT:pT (n+1)=3*pT n+600:=rfl
   have eK:kT (n+1)=3*kT n+9:=rfl
   refine hZ ⟨_,((AD (Ac (i:=5) BO.nd rfl (Or.inl rfl) (AR T.gf (Ae T) (hr.mono (by omega)) (AA (AH 0) (AG AC AB))))
   (AD (Ak (DO (AQ Aj (AH 4) AC (AN _)) (Cc (AQ Aj (AH 5) AC (AN _)))).pt (AF (AJ (AR T.gt (Hr T) (hr.mono (by omega)) (AA (AH 0) (AA (AH 1) (AA (AH 2) (AA (AH 3) AB))))))) AU)
   (AD (Ak (Dv (AQ Aj (AH 2) AC (AN _)) (Dv (AQ Aj (AH 3) AC (AN _)) (EY (AQ FS (AH 5) AC (AN _))))).pt (AF (AJ (AR T.gu (KG T ih) (hr.mono (by omega)) (AA (AH 0) (AA (AH 1) (AA (AH 4) AB)))))) AU)
   (AD (Ak (AQ FS (AH 5) AC (AN _)) (AD (Ac (i:=6) BO.nd rfl (Or.inl rfl) (AR T.gf (Ae T) (hr.mono (by omega)) (AA (AH 0) (AG AC AB))))
   (AD (Ac (i:=7) BO.nd rfl (Or.inl rfl) (AR T.gv ih (hr.mono (by omega)) (AA (AH 0) (AA (AH 1) (AS (AK Ay (Bq (AA (AH 2) (AG AC AB))) (Bw Ey (by rfl) T.g2 CV (CU (A3 Aj (AH 6) AC (AN _)) AB)) (fun _ _=>rfl)) (AS (AK Ay (Bq (AA (AH 3) (AG AC AB))) (Bw Ey (by rfl) T.g2 CV (CU (A3 Aj (AH 6) AC (AN _)) AB)) (fun _ _=>rfl)) (AV (AY BH (AH 4) AC) AB)))))))
   (AD (Ac (i:=8) BO.nd rfl (Or.inl rfl) (AR T.gv ih (hr.mono (by omega)) (AA (AH 0) (AA (AH 1) (AS (AK Ay (Bq (AA (AH 2) (AG AC AB))) (Bw Ey (by rfl) T.g2 CV (CU (A3 Aj (AH 6) AC (AN _)) AB)) (fun _ _=>rfl)) (AS (AK Ay (Bq (AA (AH 3) (AG AC AB))) (Bw Ey (by rfl) T.g2 CV (CU (A3 Aj (AH 6) AC (AN _)) AB)) (fun _ _=>rfl)) (AV (AY BH (AH 4) AC) AB)))))))
   (AF (AJ (Al (AG AM (AS (AK Hx AM (AR T.gf (Ae T) (hr.mono (by omega)) (AA (AH 0) (AG AC AB))) (fun _ _=>rfl)) (AA (AH 7) (AA (AH 8) AB)))))))))) AU)
   (AD (Ak (AQ Aj (AH 5) AC (AN _)) (AF (AJ (Al (AG AM (Ai (AR T.gv ih (hr.mono (by omega)) (AA (AH 0) (AA (AH 1) (AA (AH 2) (AA (AH 3) (AV (AY BH (AH 4) AC) AB)))))) AB))))) AU)
   (AD (Ak (AQ Aj (AH 5) AC (AN _)) (AD (Ac (i:=7) BO.nd rfl (Or.inl rfl) (AR T.gv ih (hr.mono (by omega)) (AA (AH 0) (AA (AH 1) (AA (AH 2) (AA (AH 3) (AV (AY BH (AH 4) AC) AB)))))))
   (AD (Ac (i:=8) BO.nd rfl (Or.inl rfl) (AR T.gv ih (hr.mono (by omega)) (AA (AH 0) (AA (AH 1) (AG AC (AG AC (AV (AY BH (AH 4) AC) AB)))))))
   (AF (AJ (Al (AG AM (Ai (AR T.gv ih (hr.mono (by omega)) (AA (AH 0) (AA (AH 1) (AG AC (AG AC (AV (AY BH (AH 4) AC) AB)))))) (AA (AH 7) (AA (AH 8) AB))))))))) AU)
   (AD (Ak (AQ Aj (AH 5) AC (AN _)) (AF (AJ (Al (AG AM (Ai (AR T.gv ih (hr.mono (by omega)) (AA (AH 0) (AA (AH 1) (AA (AH 3) (AA (AH 2) (AV (AY BH (AH 4) AC) AB)))))) AB))))) AU)
   (AD (Ak (Dv (AQ Aj (AH 5) AC (AN _)) (EY (AQ Kq (AH 2) AC (AN _)))).pt (AD (Ac (i:=9) BO.nd rfl (Or.inl rfl) (AY A0 AC (AR T.gf (Ae T) (hr.mono (by omega)) (AA (AH 0) (AV (AY BH (AH 2) AC) AB)))))
   (AD (Ac (i:=7) BO.nd rfl (Or.inl rfl) (AR T.gv ih (hr.mono (by omega)) (AA (AH 0) (AA (AH 1) (AA (AH 9) (AA (AH 3) (AV (AY BH (AH 4) AC) AB)))))))
   (AF (AJ (Al (AG AM (AA (AH 7) (Ai (AR T.gv ih (hr.mono (by omega)) (AA (AH 0) (AA (AH 1) (AV (AY BH (AH 2) (AH 9)) (AA (AH 3) (AV (AY BH (AH 4) AC) AB)))))) AB)))))))) AU)
   (AD (Ac (i:=7) BO.nd rfl (Or.inl rfl) (AR T.gv ih (hr.mono (by omega)) (AA (AH 0) (AA (AH 1) (AG AC (AG AC (AV (AY BH (AH 4) AC) AB)))))))
   (AF (AJ (Al (AG AM (AA (AH 2) (AA (AH 3) (AA (AH 7) (Ai (AR T.gv ih (hr.mono (by omega)) (AA (AH 0) (AA (AH 1) (AG AC (AG AC (AV (AY BH (AH 4) AC) AB)))))) AB)))))))))))))))))),?_⟩
   try dsimp only[A6,An]
   refine⟨_,rfl,p,_,_,S,rfl,(by show(0:Int)<_;decide),A5 (by decide) (by decide),hpen,(by omega),fun r1 H1 a1 b1 pen1 kp1=>?_⟩
   have g1:=(Bz.refl hpen hkn).kx pen1 kp1
   refine⟨_,rfl,rfl,false,congrArg V.bl (decide_eq_false fun z=>by injection z;omega),Ah ?_⟩
   refine⟨_,rfl,rfl,_,rfl,Ba (fun _=>⟨_,rfl,_,rfl,_,rfl,_,rfl,p,kn,h_,w_,_,S,kvs,rfl,h1,h3,w1,w3,g1.pen,(by omega),g1.kd,(by omega),fun u l kvs' H' fm lt g=>k u (.lf l) kvs' H' fm (.lf lt h1 h3 w1 w3) ((g1.trans g).mono (by omega) (by omega))⟩) (fun _=>?_)⟩
   dsimp only[JN]
   refine Lx (fun σ H2=>σ=[some (.ref p),some (.ref kn),some (.int h_),some (.int w_),some (.int ((n+1:Nat):Int)),some (.int r1),none,none,none,none]∧H2=H1) (fun N hN=>?_) ?_
   ·refine⟨_,rfl,rfl,_,rfl,Ba (fun c1=>?_) (fun _=>Ah (hN _ _ ⟨rfl,rfl⟩))⟩
    refine⟨_,rfl,rfl,_,rfl,Ba (fun c2=>?_) (fun _=>Ah (hN _ _ ⟨rfl,rfl⟩))⟩
    refine⟨_,rfl,_,_,rfl,rfl,_,rfl,Ba (fun _=>?_) (fun _=>hN _ _ ⟨rfl,rfl⟩)⟩
    have e1:(h_:Int)=1:=by have:=of_decide_eq_true c1;injection this
    have e2:(w_:Int)=1:=by have:=of_decide_eq_true c2;injection this
    obtain rfl:h_=1:=by omega
    obtain rfl:w_=1:=by omega
    exact⟨_,rfl,_,rfl,_,rfl,p,kn,_,S,kvs,rfl,g1.pen,(by omega),g1.kd,(by omega),fun u f kvs' H' fm ty g=>k u f kvs' H' fm ty ((g1.trans g).mono (by omega) (by omega))⟩
   rintro σ H2 ⟨rfl,rfl⟩
   refine S9 rfl (fun _ N=>?_) (fun _=>?_)
   ·refine⟨_,rfl,p,_,_,S,rfl,(by show(0:Int)<_;decide),A5 (by decide) (by decide),pen1,(by omega),fun r2 H2 a2 b2 pen2 kp2=>?_⟩
    have g2:=g1.kx pen2 kp2
    generalize eb1:decide (V.int r2=V.int 1)=b1
    generalize eb2:decide (V.int r2=V.int 2)=b2
    have nb:¬ (b1=true∧b2=true):=fun⟨z1,z2⟩=>by
     rw[z1]at eb1
     rw[z2]at eb2
     have y1:=of_decide_eq_true eb1
     have y2:=of_decide_eq_true eb2
     rw[y1]at y2
     exact absurd y2 (by decide)
    obtain⟨ha,wa,xa,ya,fa⟩:=TZ (c:=b1) (h:=h_) (w:=w_)
    obtain⟨hb,wb,xb,yb,fb⟩:=TZ (c:=b2) (h:=h_) (w:=w_)
    have bd:1≤ha∧ha≤3∧1≤wa∧wa≤3∧1≤hb∧hb≤3∧1≤wb∧wb≤3:=by omega
    have Rm:(ha=h_∧wa=w_∧hb=h_∧wb=w_)∨(ha=h_∧wa=w_∧hb=1∧wb=1)∨(ha=1∧wa=1∧hb=h_∧wb=w_):=by
     rcases fa with⟨_,a1,a2⟩ | ⟨z1,a1,a2⟩
     ·rcases fb with⟨_,b1,b2⟩ | ⟨_,b1,b2⟩
      ·exact .inl ⟨a1,a2,b1,b2⟩
      ·exact .inr (.inl ⟨a1,a2,b1,b2⟩)
     ·rcases fb with⟨_,b1,b2⟩ | ⟨z2,_⟩
      ·exact .inr (.inr ⟨a1,a2,b1,b2⟩)
      ·exact absurd ⟨z1,z2⟩ nb
    clear fa fb
    refine⟨_,rfl,_,rfl,?_⟩
    refine⟨_,rfl,BG,fun la hla=>⟨_,rfl,rfl,.inr ⟨_,rfl,la,_,_,_,rfl,rfl,Ax.of AE,(by rw[eb1];exact xa),?_⟩⟩⟩
    have sla:=AI.new (o:=.lst [V.int h_,V.int 1]) hla
    generalize upd H2 la (.lst [V.int h_,V.int 1])=J1 at *
    refine⟨_,rfl,BG,fun lb hlb=>⟨_,rfl,rfl,.inr ⟨_,rfl,lb,_,_,_,rfl,rfl,Ax.of AE,(by rw[eb1];exact ya),?_⟩⟩⟩
    have slb:=AI.new (o:=.lst [V.int w_,V.int 1]) hlb
    generalize upd J1 lb (.lst [V.int w_,V.int 1])=J2 at *
    have g3:=(g2.same sla).same slb
    refine⟨_,rfl,_,_,rfl,rfl,p,kn,ha,wa,_,S,_,tv (by omega) (by omega) (by omega),(by omega),(by omega),(by omega),(by omega),g3.pen,(by omega),g3.kd,(by have:=g3.len;omega),fun u4 f4 kv4 T4 fm4 ty4 gr4=>?_⟩
    have g4:=g3.trans gr4
    refine⟨_,rfl,_,rfl,?_⟩
    refine⟨_,rfl,BG,fun lc hlc=>⟨_,rfl,rfl,.inr ⟨_,rfl,lc,_,_,_,rfl,rfl,Ax.of AE,(by rw[eb2];exact xb),?_⟩⟩⟩
    have slc:=AI.new (o:=.lst [V.int h_,V.int 1]) hlc
    generalize upd T4 lc (.lst [V.int h_,V.int 1])=J3 at *
    refine⟨_,rfl,BG,fun ld hld=>⟨_,rfl,rfl,.inr ⟨_,rfl,ld,_,_,_,rfl,rfl,Ax.of AE,(by rw[eb2];exact yb),?_⟩⟩⟩
    have sld:=AI.new (o:=.lst [V.int w_,V.int 1]) hld
    generalize upd J3 ld (.lst [V.int w_,V.int 1])=J4 at *
    have g5:=(g4.same slc).same sld
    refine⟨_,rfl,_,_,rfl,rfl,p,kn,hb,wb,_,S,_,tv (by omega) (by omega) (by omega),(by omega),(by omega),(by omega),(by omega),g5.pen,(by omega),g5.kd,(by have:=g5.len;omega),fun u6 f6 kv6 T6 fm6 ty6 gr6=>?_⟩
    have g6:=g5.trans gr6
    refine⟨_,rfl,p,_,_,S,rfl,(by show(0:Int)<_;decide),A5 (by decide) (by decide),g6.pen,(by omega),fun r7 H7 a7 b7 pen7 kp7=>?_⟩
    have g7:=g6.kx pen7 kp7
    obtain⟨cc,hcc,hsO⟩:=Za a7 b7
    refine⟨_,_,cc,rfl,rfl,(by nofun),hcc,?_⟩
    generalize (⟨#[cc]⟩:Str)=sg at *
    refine⟨_,rfl,_,rfl,(by show 4≤sizeLine;decide),fun q hq=>?_⟩
    have s2:=AI.new (o:=.tup [vS "op",.str sg,u4,u6]) hq
    have k67:=(g6.pen.kp kp7).trans (Kp.same s2)
    have k47:=(Kp.same (slc.trans sld)).trans ((gr6.kk g5.pen g5.kd).trans k67)
    exact k (.ref q) (.nd (.op sg) [f4,f6]) kv6 _ (VP (t:=q) AE rfl (A7.kp fm4 k47) (A7.kp fm6 k67)) (.op hsO (ty4.mono gr6.dm) ty6 Rm) ((g7.same s2).mono (by omega) (by omega))
   refine RB rfl (fun _ N=>?_) (fun _=>?_)
   ·refine⟨_,rfl,_,rfl,_,rfl,_,rfl,_,rfl,_,_,rfl,rfl,p,kn,h_,w_,_,S,_,tv (by omega) (by omega) (by omega),(by omega),(by omega),(by omega),(by omega),g1.pen,(by omega),g1.kd,(by have:=g1.len;omega),fun u4 f4 kv4 T4 fm4 ty4 gr4=>?_⟩
    refine⟨BG,fun q hq=>?_⟩
    have s2:=AI.new (o:=.tup [vS "neg",u4]) hq
    exact k (.ref q) (.nd .neg [f4]) kv4 _ (TK (t:=q) AE rfl (A7.kp fm4 (Kp.same s2))) (.neg ty4) (((g1.trans gr4).same s2).mono (by omega) (by omega))
   refine RB rfl (fun _ N=>?_) (fun _=>?_)
   ·refine⟨_,rfl,_,rfl,_,rfl,_,rfl,_,rfl,_,_,rfl,rfl,p,kn,h_,w_,_,S,_,tv (by omega) (by omega) (by omega),(by omega),(by omega),(by omega),(by omega),g1.pen,(by omega),g1.kd,(by have:=g1.len;omega),fun u4 f4 kv4 T4 fm4 ty4 gr4=>?_⟩
    have g4:=g1.trans gr4
    refine⟨_,rfl,_,rfl,_,rfl,_,_,rfl,rfl,p,kn,1,1,_,S,_,tv (by omega) (by omega) (by omega),(by omega),(by omega),(by omega),(by omega),g4.pen,(by omega),g4.kd,(by have:=g4.len;omega),fun u5 f5 kv5 T5 fm5 ty5 gr5=>?_⟩
    have g5:=g4.trans gr5
    refine⟨_,rfl,_,rfl,_,rfl,_,_,rfl,rfl,p,kn,1,1,_,S,_,tv (by omega) (by omega) (by omega),(by omega),(by omega),(by omega),(by omega),g5.pen,(by omega),g5.kd,(by have:=g5.len;omega),fun u6 f6 kv6 T6 fm6 ty6 gr6=>?_⟩
    have g6:=g5.trans gr6
    refine⟨_,rfl,_,rfl,(by show 4≤sizeLine;decide),fun q hq=>?_⟩
    have s2:=AI.new (o:=.tup [vS "if",u6,u4,u5]) hq
    have k5:=(gr6.kk g5.pen g5.kd).trans (Kp.same s2)
    have k4:=(gr5.kk g4.pen g4.kd).trans k5
    exact k (.ref q) (.nd (.wd (zS "if")) [f6,f4,f5]) kv6 _ (VQ (t:=q) AE rfl (A7.kp fm6 (Kp.same s2)) (A7.kp fm4 k4) (A7.kp fm5 k5)) (.cond ty6 ((ty4.mono gr5.dm).mono gr6.dm) (ty5.mono gr6.dm)) ((g6.same s2).mono (by omega) (by omega))
   refine RB rfl (fun _ N=>?_) (fun _=>?_)
   ·refine⟨_,rfl,_,rfl,_,rfl,_,rfl,_,rfl,_,_,rfl,rfl,p,kn,w_,h_,_,S,_,tv (by omega) (by omega) (by omega),(by omega),(by omega),(by omega),(by omega),g1.pen,(by omega),g1.kd,(by have:=g1.len;omega),fun u4 f4 kv4 T4 fm4 ty4 gr4=>?_⟩
    refine⟨BG,fun q hq=>?_⟩
    have s2:=AI.new (o:=.tup [vS "turn",u4]) hq
    exact k (.ref q) (.nd (.wd (zS "turn")) [f4]) kv4 _ (TK (t:=q) AE rfl (A7.kp fm4 (Kp.same s2))) (.turn ty4) (((g1.trans gr4).same s2).mono (by omega) (by omega))
   refine Lx (fun σ H2'=>σ=[some (.ref p),some (.ref kn),some (.int h_),some (.int w_),some (.int ((n+1:Nat):Int)),some (.int r1),none,none,none,none]∧H2'=H2) (fun N hN=>?_) ?_
   ·refine⟨_,rfl,rfl,_,rfl,Ba (fun _=>?_) (fun _=>Ah (hN _ _ ⟨rfl,rfl⟩))⟩
    refine⟨_,rfl,_,_,rfl,rfl,_,rfl,Ba (fun c2=>?_) (fun _=>hN _ _ ⟨rfl,rfl⟩)⟩
    have c2':(1:Int)<h_:=of_decide_eq_true c2
    refine⟨_,rfl,_,rfl,_,_,rfl,rfl,p,_,_,S,rfl,(by omega),A5 (by omega) (by omega),pen1,(by omega),fun r2 H3 a2 b2 pen2 kp2=>⟨_,_,rfl,rfl,?_⟩⟩
    have g2:=g1.kx pen2 kp2
    refine⟨_,rfl,_,rfl,_,rfl,_,rfl,_,rfl,_,_,rfl,rfl,p,kn,(1+r2).toNat,w_,_,S,_,tv (by omega) (by omega) (by omega),(by omega),(by omega),(by omega),(by omega),g2.pen,(by omega),g2.kd,(by have:=g2.len;omega),fun u4 f4 kv4 T4 fm4 ty4 gr4=>?_⟩
    have g4:=g2.trans gr4
    refine⟨_,rfl,_,rfl,_,rfl,_,rfl,_,rfl,_,_,rfl,rfl,_,rfl,_,rfl,_,_,rfl,rfl,p,kn,(h_-(1+r2)).toNat,w_,_,S,_,tv (by omega) (by omega) (by omega),(by omega),(by omega),(by omega),(by omega),g4.pen,(by omega),g4.kd,(by have:=g4.len;omega),fun u5 f5 kv5 T5 fm5 ty5 gr5=>?_⟩
    have g5:=g4.trans gr5
    refine⟨As,fun q hq=>?_⟩
    have s2:=AI.new (o:=.tup [vS "stack",u4,u5]) hq
    have ty:=Ty.stack (ty4.mono gr5.dm) ty5 (by omega)
    rw[show(1+r2).toNat+((h_:Int)-(1+r2)).toNat=h_ by omega]at ty
    exact k (.ref q) (.nd (.wd (zS "stack")) [f4,f5]) kv5 _ (VP (t:=q) AE rfl (A7.kp fm4 ((gr5.kk g4.pen g4.kd).trans (Kp.same s2))) (A7.kp fm5 (Kp.same s2))) ty ((g5.same s2).mono (by omega) (by omega))
   rintro σ H2' ⟨rfl,rfl⟩
   refine⟨_,rfl,_,rfl,_,rfl,_,_,rfl,rfl,p,kn,1,1,_,S,_,tv (by omega) (by omega) (by omega),(by omega),(by omega),(by omega),(by omega),g1.pen,(by omega),g1.kd,(by have:=g1.len;omega),fun u4 f4 kv4 T4 fm4 ty4 gr4=>?_⟩
   have g4:=g1.trans gr4
   refine⟨_,rfl,_,rfl,_,rfl,_,rfl,_,rfl,_,rfl,_,_,rfl,rfl,p,kn,1,1,_,S,_,tv (by omega) (by omega) (by omega),(by omega),(by omega),(by omega),(by omega),g4.pen,(by omega),g4.kd,(by have:=g4.len;omega),fun u5 f5 kv5 T5 fm5 ty5 gr5=>?_⟩
   have g5:=g4.trans gr5
   refine⟨(by show 5≤sizeLine;decide),fun q hq=>?_⟩
   have s2:=AI.new (o:=.tup [vS "grid",.int h_,.int w_,u4,u5]) hq
   exact k (.ref q) (.nd (.grid h_ w_) [f4,f5]) kv5 _ (VP (t:=q) AE rfl (A7.kp fm4 ((gr5.kk g4.pen g4.kd).trans (Kp.same s2))) (A7.kp fm5 (Kp.same s2))) (.grid h1 h3 w1 w3 (ty4.mono gr5.dm) ty5) ((g5.same s2).mono (by omega) (by omega))
theorem KH:AW ["_law_one"] ["_law_one"] (AL EN):=A9
theorem Cb (T:Txt w K mg t):Av P w K mg base Bj 2 t.ei t.ej ["_law_one"] XX:=by
 have D:=T.gw
 refine D.fn.okX KH ?_ (fun cdv A outer s H vs Q E hr h Z hZ=>?_)
 ·rintro _ _ _ _ ⟨u,v,rfl,_⟩
  rfl
 ·obtain⟨u,v,rfl,hv,okv,k⟩:=h
  refine hZ ⟨_,((AD (Ak (Dv (AQ Aj (AK AO (AH 0) AC (fun _ _=>rfl)) AM (AN _)) (EY (AQ FS (AT (Kr rfl) (by rfl) T.hd Mj (Ai (AT Ex (by rfl) T.ha E1 (AS (AK AO (AH 0) AC (fun _ _=>rfl)) AB)) (AS (AK AO (AH 0) AC (fun _ _=>rfl)) AB))) (AY JP AC AC) (AN _)))).pt (AF (AJ (AR T.gc (DC T) (BB hr) (AV (AY A0 (AK AO (AH 0) AC (fun _ _=>rfl)) (AK AO (AH 0) AC (fun _ _=>rfl))) (AS (AK AO (AH 0) AC (fun _ _=>rfl)) AB))))) AU)
   (AF (AJ (Al (AG AM (AG AC (AG AC AB)))))))),?_⟩
  try dsimp only[A6,An]
  obtain⟨q,xs,rfl,hq,_⟩:=hv.hd
  cases v with
  | num t_ b_=>
   have hq':H q=some (.tup [vS "number",.int t_,.int b_]):=by obtain⟨_,e,h⟩:=hv;cases e;exact h
   have hb:=okv.1.pos
   refine⟨_,rfl,q,_,_,_,rfl,rfl,Af.of hq,Ag,rfl,true,(by show V.bl (decide (V.str (Str.ofString "number")=vS "number"))=_;nofun),Az ?_⟩
   refine⟨_,rfl,q,_,_,_,rfl,rfl,Af.of hq',rfl,t_,rfl,_,rfl,q,_,_,_,rfl,rfl,Af.of hq',rfl,_,_,rfl,_,_,rfl,rfl,⟨by decide,by decide,by decide⟩,_,_,rfl,rfl,Nv t_ b_,rfl,Ba (fun c=>?_) (fun c=>?_)⟩
   ·obtain⟨g1,g2⟩:=Os c
    refine⟨_,rfl,q,_,_,_,rfl,rfl,Af.of hq',rfl,_,rfl,q,_,_,_,rfl,rfl,Af.of hq',rfl,_,_,rfl,rfl,_,rfl,q,_,_,_,rfl,rfl,Af.of hq',rfl,t_+b_,b_,rfl,(by omega),Pm (by omega) (by omega),fun p hp=>k _ _ ?_ (AI.new hp)⟩
    show BD _ _ (if Nv t_ b_=true then .num (CP (t_+b_) b_) (CB (t_+b_) b_)else .num 7 2)
    rw[if_pos c]
    exact⟨p,rfl,AE⟩
   ·refine⟨As,fun p hp=>k _ _ ?_ (AI.new hp)⟩
    show BD _ _ (if Nv t_ b_=true then .num (CP (t_+b_) b_) (CB (t_+b_) b_)else .num 7 2)
    rw[if_neg c]
    exact⟨p,rfl,AE⟩
  | tru b=>
   refine⟨_,rfl,q,_,_,_,rfl,rfl,Af.of hq,Ag,rfl,false,(by show V.bl (decide (V.str (Str.ofString "truth")=vS "number"))=_;nofun),Ah ?_⟩
   exact Ah ⟨As,fun p hp=>k _ _ ⟨p,rfl,AE⟩ (AI.new hp)⟩
  | txt z=>
   refine⟨_,rfl,q,_,_,_,rfl,rfl,Af.of hq,Ag,rfl,false,(by show V.bl (decide (V.str (Str.ofString "text")=vS "number"))=_;nofun),Ah ?_⟩
   exact Ah ⟨As,fun p hp=>k _ _ ⟨p,rfl,AE⟩ (AI.new hp)⟩
  | none=>
   refine⟨_,rfl,q,_,_,_,rfl,rfl,Af.of hq,Ag,rfl,false,(by show V.bl (decide (V.str (Str.ofString "none")=vS "number"))=_;nofun),Ah ?_⟩
   exact Ah ⟨As,fun p hp=>k _ _ ⟨p,rfl,AE⟩ (AI.new hp)⟩
  | flt w z r c=>
   refine⟨_,rfl,q,_,_,_,rfl,rfl,Af.of hq,Ag,rfl,false,(by show V.bl (decide (V.str (Str.ofString "fault")=vS "number"))=_;nofun),Ah ?_⟩
   exact Ah ⟨As,fun p hp=>k _ _ ⟨p,rfl,AE⟩ (AI.new hp)⟩
theorem Be:AW ["_law_formula","_law_home","_law_known","_law_laid_here","_law_built","_law_k","_law_part","_law_table"] ["_law_formula","_law_home","_law_known"] (AL Db):=A9
theorem IR (T:Txt w K mg t)(hC:∀ q∈[(t.gb,t.ep),(t.gx,t.er),(t.gy,t.et)],PySem.W.CodeHd base q.1 q.2)(hB:BM mg base){dom:Str→Int→Int→Prop}{g:Str→Int→Int→Vl}(hg:∀ z r c,dom z r c→Ap (g z r c)):∀ n:Nat,Av P w K mg base Bj (n+14) t.ek t.el ["_law_formula","_law_home","_law_known"] (Ta t.ep t.er dom g n):=by
 have D:=T.gx
 intro n
 have hCB:=hC (t.gx,t.er) (by simp)
 have hCR:=hC (t.gb,t.ep) (by simp)
 induction n with
 | zero=>
  refine D.fn.okCX Be ?_ (fun cdv A outer s H vs Q E hcd hr h Z hZ=>?_)
  ·rintro _ _ _ _ ⟨v,y,kn,f,h,w,hm,rfl,_⟩
   rfl
  ·obtain⟨v,y,kn,f,h,w,hm,rfl,hv,ty,_⟩:=h
   cases ty
 | succ n ih=>
  refine D.fn.okCX Be ?_ (fun cdv A outer s H vs Q E hcd hr h Z hZ=>?_)
  ·rintro _ _ _ _ ⟨v,y,kn,f,h,w,hm,rfl,_⟩
   rfl
  ·obtain⟨v,y,kn,f,h_,w_,hm,rfl,hv,ty,hy,ho,hd,tR,tB,k⟩:=h
   refine hZ ⟨_,((AD (Ak (AQ Kx (AK AO (AH 0) AC (fun _ _=>rfl)) (Al (AG AM (AG AM (AG AM (AG AM AB))))) rfl) (AF (AJ (Fv (k:=13) (hr.mono (by omega)) (by rfl) T.gb.gl T.gb.fn.kp T.gb.b (AA (AH 0) (AA (AH 1) (Cr (FC (clos:=[("_law_known",s.heap.objs.size+1)]) rfl (by with_unfolding_all rfl) (hcd.symm.trans T.hx) hCB hB) (Cr (FC (clos:=[]) rfl (by with_unfolding_all rfl) (hcd.symm.trans T.hx) hCB hB) AB))))))) AU)
   (AD (Ac (i:=3) Be.nd rfl (Or.inr rfl) MS)
   (AD (Ac (i:=4) Be.nd rfl (Or.inl rfl) (Bq AB))
   (AD (B0 PassesOwn.never rfl (Jh rfl T.hb Cq (AA (AH 0) AB)) (Fi rfl (Bf (BA (i:=5) Be.nd rfl (Or.inl rfl)) (Bf (BA (i:=6) Be.nd rfl (Or.inl rfl)) EZ)))
   (AF (Ak (BR (AT Am (by rfl) T.g1 Aa (AA (AH 6) (AA (BP T.g5 Bc) AB)))) (AD (Ac (i:=7) Be.nd rfl (Or.inl rfl) (AR T.gx ih (hr.mono (by omega)) (AA (AH 6) (AA (AH 1) (AA (AH 2) AB)))))
   (AF (Dk (G8 PySem.F.plainAttrs_list PySem.F.slot_list_append PySem.F.type_list_append B7 (AH 4) (Ai (AR T.gk (Ho T) (hr.mono (by omega)) (AA (AH 3) (AV (AY CH AM (AK Hx AM (AH 5) (fun _ _=>rfl))) (AA (AH 7) (AG AC (AG AC AB)))))) AB))))) (AF (Dk (G8 PySem.F.plainAttrs_list PySem.F.slot_list_append PySem.F.type_list_append B7 (AH 4) (AA (AH 6) AB)))))))
   (AF (AJ (Fv (k:=13) (hr.mono (by omega)) (by rfl) T.gb.gl T.gb.fn.kp T.gb.b (Ai (Bw CT (by rfl) T.g5 Bc (AA (AH 4) AB)) (AA (AH 1) (Cr (FC (clos:=[("_law_laid_here",s.heap.objs.size+2)]) rfl (by with_unfolding_all rfl) (hcd.symm.trans T.hx) hCB hB) (Cr (FC (clos:=[]) rfl (by with_unfolding_all rfl) (hcd.symm.trans T.hx) hCB hB) AB)))))))))))),?_⟩
   try dsimp only[A6,An]
   refine LG fun X hX=>?_
   rcases Xg (g:=g) (hm:=hm) hv ty hg ho with⟨l,rfl,lt⟩ | ⟨a,tg,XS,its,rfl,ha,ntg,lx,prX,fin⟩
   ·have bd:=ty.bd
    obtain⟨a,rfl,hl⟩:=JF hv
    obtain⟨z0,r0,ha,hz0⟩:=lt.tag hl
    have ty1:Ty dom 1 (.lf l) h_ w_:=KI lt bd
    refine hX ?_
    refine⟨_,rfl,a,_,_,_,rfl,rfl,Af.of ha,Ag,(by show 4≤sizeLine;decide),fun q0 hq0=>⟨q0,_,rfl,.inr (Af.of AE),rfl,(by decide),true,congrArg V.bl (Y1 hz0),Az ?_⟩⟩
    have s0:=AI.new (o:=.tup [vS "value",vS "cell",vS "range",vS "fault"]) hq0
    generalize upd H q0 (.tup [vS "value",vS "cell",vS "range",vS "fault"])=H0 at *
    have hv0:=A7.kp hv (Kp.same s0)
    have hy0:=hy.kp (Kp.same s0)
    have dp0:=IV.smd (DR.of s0) hd
    have tR0:=tR.sm s0
    have tB0:=tB.sm s0
    obtain⟨psL,hPL,_⟩:=id tB0
    refine⟨_,rfl,_,rfl,tB0,fun f1 HA nf1 keep1 tab1 lam1=>⟨tab1,fun f2 HB nf2 keep2 tab2 lam2=>?_⟩⟩
    obtain⟨psM,hPM,_⟩:=id tab1
    obtain⟨cd1,ctv1,hf1,hc1⟩:=lam1
    obtain⟨cd2,ctv2,hf2,hc2⟩:=lam2
    have hf1':=keep2 _ _ (BJ hf1 hPM (by intro z;cases z)) hf1
    have hc1':Gb HB qP cd1:=hc1.keep fun b o e=>keep2 _ _ (BJ e hPM (by intro z;cases z)) e
    have sd:=(DR.tab hPL keep1).trans (DR.tab hPM keep2)
    have sdd:=sd.trans (DR.del qP HB)
    have tR6:BN HB t.ep qR:=CD (CD tR0 T.hz hPL keep1) T.hz hPM keep2
    refine⟨qP,Ju t.ep f1 f2 (IV kn dom g) dom g DD,fun base' W=>?_,?_⟩
    ·refine Ei T ?_ ?_ (fun _ _ s x=>IV.smd s x) (hCR.keeps W.sub) (hB.keep W.sub)
     ·refine W.lam (k:=0) (ps:=["_law_spot"]) (fv:=["_law_known"]) (js:=[2]) hf1' hc1' ⟨rfl,rfl,rfl,by nofun,(List.forall_mem_cons.mpr ⟨rfl,(List.forall_mem_nil _)⟩),by nofun,by nofun,(List.forall_mem_cons.mpr ⟨⟨rfl,rfl,rfl⟩,(List.forall_mem_nil _)⟩),(List.forall_mem_cons.mpr ⟨rfl,(List.forall_mem_nil _)⟩),(.cons rfl .nil)⟩ (fun us hl=>by obtain⟨_,rfl⟩:=IY hl;rfl) (fun vs H Q E h=>?_) (fun A outer s H vs Q E hr h=>?_)
      ·obtain⟨_,_,_,_,rfl,_⟩:=h
       rfl
      ·obtain⟨q,z,r,c,rfl,hq,⟨kv,hkv,dk⟩,dm,k'⟩:=h
       have hu1:=FU hr
       obtain⟨x,hx,vx⟩:=dk z r c dm
       refine⟨_,(G9 hu1 (AH 1) (AH 0) (fun _ _=>rfl)),?_⟩
       exact⟨_,rfl,_,rfl,kn,x,rfl,hx▸Gj.t (k:=cK z r c) hkv hq,k' x H vx (AI.refl _)⟩
     ·refine W.lam (k:=2) (ps:=["_law_one"]) (fv:=[]) (js:=[]) hf2 hc2 ⟨rfl,rfl,rfl,by nofun,(List.forall_mem_cons.mpr ⟨rfl,(List.forall_mem_nil _)⟩),by nofun,by nofun,(List.forall_mem_nil _),(List.forall_mem_nil _),.nil⟩ (fun us hl=>by obtain⟨_,rfl⟩:=IY hl;rfl) (fun vs H Q E h=>?_) (fun A outer s H vs Q E hr h=>?_)
      ·obtain⟨_,_,rfl,_⟩:=h
       rfl
      ·obtain⟨u,v,rfl,hv,okv,_,k'⟩:=h
       refine⟨_,(AR T.gw (Cb T) (hr.mono (by omega)) (AA (AH 0) AB)),?_⟩
       exact⟨_,rfl,u,v,rfl,hv,okv,k'⟩
    refine⟨.ref a,y,(.lf l),1,hm,rfl,A7.kp hv0 sdd.kp,ty1.fO,(by decide),ty1.al hg ho (fun _ h=>FI h),IV.smd sdd dp0,hy0.kp sdd.kp,ho,JH tR6 ZH,fun x HC hx keep3 tab3 hn=>?_⟩
    obtain⟨psR,hPR,_⟩:=id tR6
    have hx':=hx.kp (Kp.back hn)
    have kx:Aw t.ep HB (L2.put qP HB HC):=HS keep3
    exact k x _ hx' (fun b o n1 n2 e=>kx b o n1 (keep2 b o n2 (keep1 b o n2 (s0 _ _ e)))) (HU tab3 hn) (CD tab2 (Ne.symm T.hz) hPR kx)
   ·refine hX ?_
    have ha0:=ha
    refine⟨_,rfl,a,_,_,_,rfl,rfl,Af.of ha,Ag,(by show 4≤sizeLine;decide),fun q0 hq0=>⟨q0,_,rfl,.inr (Af.of AE),rfl,(by decide),false,congrArg V.bl (Y2 ntg),Ah ?_⟩⟩
    have s0:=AI.new (o:=.tup [vS "value",vS "cell",vS "range",vS "fault"]) hq0
    generalize upd H q0 (.tup [vS "value",vS "cell",vS "range",vS "fault"])=H0 at *
    refine fun ld hld=>?_
    have s1:=AI.new (o:=.dT []) hld
    have eld:upd H0 ld (.dT []) ld=some (.dT []):=AE
    generalize upd H0 ld (.dT [])=H1 at *
    refine⟨Nat.zero_le _,fun lb hlb=>?_⟩
    have s2:=AI.new (o:=.lst []) hlb
    have elb:upd H1 lb (.lst []) lb=some (.lst []):=AE
    generalize upd H1 lb (.lst [])=H2 at *
    have s02:=s0.trans (s1.trans s2)
    have nlb:lb≠ld:=fun z=>by rw[z,eld]at hlb;cases hlb
    have nHb:H lb=none:=by
     cases e:H lb with
     | none=>rfl
     | some o=>rw[(s0.trans s1) _ _ e]at hlb;cases hlb
    have nHd:H ld=none:=by
     cases e:H ld with
     | none=>rfl
     | some o=>rw[s0 _ _ e]at hld;cases hld
    obtain⟨psR0,hPR0,_⟩:=id tR
    obtain⟨psB0,hPB0,_⟩:=id tB
    dsimp only[Ew]
    refine Bb fun N hN=>?_
    refine⟨_,rfl,a,rfl,⟨_,Af.of (s02 _ _ ha)⟩,?_⟩
    refine Hz (xs:=.str tg::XS) (fun i σ H5=>∃ x5 x6 x7 kv ys,σ=[some (.ref a),some y,some (.ref kn),some (.ref ld),some (.ref lb),x5,x6,x7]∧H5 ld=some (.dT kv)∧H5 lb=some (.lst ys)∧kv.length≤9*i∧Pu H5 kv g hm (.str tg::XS) its ys i∧BN H5 t.ep qR∧BN H5 t.er qP∧(∀ b o,b≠t.ep→b≠t.er→H b=some o→H5 b=some o))
     ⟨none,none,none,[],[],rfl,s2 _ _ eld,elb,Nat.zero_le _,⟨rfl,fun j _ _ hj=>absurd hj (Nat.not_lt_zero j)⟩,tR.sm s02,tB.sm s02,fun b o _ _ e=>s02 _ _ e⟩ ?_ ?_ ?_
    ·rintro i σ H5 _ ⟨x5,x6,x7,kv,ys,rfl,_,_,_,_,_,_,kp5⟩
     exact Af.of (kp5 _ _ (BJ ha hPR0 (by intro z;cases z)) (BJ ha hPB0 (by intro z;cases z)) ha)
    ·rintro i x σ H5 b hx ⟨x5,x6,x7,kv,ys,rfl,hd5,hb5,lk5,rel5,tR5,tB5,kp5⟩ hb
     have hi5:i<5:=by have:=(List.getElem?_eq_some_iff.mp hx).1;rw[List.length_cons]at this;omega
     have k05:Kp H H5:=fun c xs e=>kp5 _ _ (BJ e hPR0 (by intro z;cases z)) (BJ e hPB0 (by intro z;cases z)) e
     obtain⟨it,hit,r⟩:=Ar prX hx
     have s6:=AI.new (o:=.tup [.int i,x]) hb
     have hb6:upd H5 b (.tup [.int i,x]) b=some (.tup [.int i,x]):=AE
     generalize upd H5 b (.tup [.int i,x])=H6 at *
     have hl6:=s6 _ _ hb5
     have yl:=rel5.1
     refine⟨b,_,rfl,Af.of hb6,rfl,_,_,rfl,_,_,rfl,rfl,?_⟩
     cases it with
     | none=>
      have app:∀ x7',(fun(σ:St) (H5:Hp)=>∃ x5 x6 x7 kv ys,σ=[some (.ref a),some y,some (.ref kn),some (.ref ld),some (.ref lb),x5,x6,x7]∧H5 ld=some (.dT kv)∧H5 lb=some (.lst ys)∧kv.length≤9*(i+1)∧Pu H5 kv g hm (.str tg::XS) its ys (i+1)∧BN H5 t.ep qR∧BN H5 t.er qP∧(∀ b o,b≠t.ep→b≠t.er→H b=some o→H5 b=some o)) [some (.ref a),some y,some (.ref kn),some (.ref ld),some (.ref lb),some (.int i),some x,x7'] (upd H6 lb (.lst (ys++[x]))):=fun x7'=>by
       have kA:=CQ (vs:=ys++[x]) hl6
       refine⟨_,_,_,kv,_,rfl,by rw[AX (Ne.symm nlb)];exact s6 _ _ hd5,AE,by omega,rel5.push ((Kp.same s6).trans kA) (fun _ _=>rfl) hx hit rfl,Do (tR5.sm s6) (Sd.kx hl6 Aw.upd),Do (tB5.sm s6) (Sd.kx hl6 Aw.upd),fun b' o n1 n2 e=>?_⟩
       rw[AX (AZ e nHb)]
       exact s6 _ _ (kp5 _ _ n1 n2 e)
      rcases r with⟨z,rfl⟩ | ⟨z,rfl⟩
      ·refine⟨_,rfl,_,_,_,_,false,rfl,.str _,rfl,(fun _=>.inr trivial),T.hq,false,rfl,Ah ?_⟩
       exact⟨_,rfl,.inl ⟨rfl,_,Ax.of hl6⟩,_,rfl,lb,ys,_,rfl,rfl,hl6,B5 (by omega),app _⟩
      ·refine⟨_,rfl,_,_,_,_,false,rfl,.int _,rfl,(fun _=>.inr trivial),T.hr,false,rfl,Ah ?_⟩
       exact⟨_,rfl,.inl ⟨rfl,_,Ax.of hl6⟩,_,rfl,lb,ys,_,rfl,rfl,hl6,B5 (by omega),app _⟩
     | some tr=>
      obtain⟨f',h',w'⟩:=tr
      obtain⟨hv',ty'⟩:=r
      have bd:=ty'.bd
      have dm:=ty'.dm (fo:=DD) hg ho (fun _ h=>FI h)
      have hv6:=A7.kp (A7.kp hv' k05) (Kp.same s6)
      obtain⟨c,cs,rfl,hc⟩:=hv6.tup
      refine⟨_,rfl,_,_,_,_,true,rfl,.tup hc,rfl,(fun _=>.inr trivial),BK _ _,true,rfl,Az ?_⟩
      refine⟨_,rfl,_,rfl,_,rfl,.ref c,y,kn,f',h',w',hm,rfl,hv6,ty',(hy.kp k05).kp (Kp.same s6),ho,?_,tR5.sm s6,tB5.sm s6,fun tb H7 htb keep7 tR7 tB7=>?_⟩
      ·obtain⟨kvs,e,dk⟩:=hd
       exact⟨kvs,s6 _ _ (kp5 _ _ (BJ e hPR0 (by intro z;cases z)) (BJ e hPB0 (by intro z;cases z)) e),fun z r c dm=>let ⟨x,hx,vx⟩:=dk z r c dm;⟨x,hx,(vx.kp k05).kp (Kp.same s6)⟩⟩
      obtain⟨psR6,hPR6,_⟩:=id (tR5.sm s6)
      obtain⟨psB6,hPB6,_⟩:=id (tB5.sm s6)
      have k67:Kp H6 H7:=fun c xs e=>keep7 _ _ (BJ e hPR6 (by intro z;cases z)) (BJ e hPB6 (by intro z;cases z)) e
      have hl7:=keep7 _ _ (BJ hl6 hPR6 (by intro z;cases z)) (BJ hl6 hPB6 (by intro z;cases z)) hl6
      have hd6:=s6 _ _ hd5
      have hd7:=keep7 _ _ (BJ hd6 hPR6 (by intro z;cases z)) (BJ hd6 hPB6 (by intro z;cases z)) hd6
      obtain⟨rows,⟨bt,us,rfl,hbt,prt⟩,vt⟩:=htb
      have rl:rows.length=h':=(Paired.length vt).trans dm.len
      have rr:=(BE vt dm.rc).row
      have hcc:=(Ou i hi5).1
      refine⟨_,rfl,.inl ⟨rfl,_,Ax.of hl7⟩,?_⟩
      refine⟨_,rfl,_,rfl,_,_,_,rfl,rfl,(by nofun),hcc,_,_,rfl,rfl,Xh,_,rfl,?_⟩
      have hw9:h'*w'≤3*3:=Nat.mul_le_mul (by omega) (by omega)
      refine⟨ld,bt,Ot i,0,0,kv,us,rows,h',w',rfl,hd7,(by omega),.inr ⟨hbt,prt⟩,rl,(by omega),(by omega),(by omega),(by omega),rr,fun a' lf c1 d1 kv' H8 i1 i2 i3 i4 i5 i6 i7 i8 i9 i10 i11 kp8=>?_⟩
      have k78:Kp H7 H8:=fun c xs e=>kp8 _ _ (BJ e hd7 (by intro z;cases z)) e
      have hl8:=kp8 _ _ nlb hl7
      have kA:=CQ (vs:=ys++[.ref a']) hl8
      have k5A:=(Kp.same s6).trans (k67.trans (k78.trans kA))
      have la:HR H8 kv' (Ot i) rows h' w' (.ref a'):=⟨a',lf,c1,d1,0,0,rfl,i6,i7,i8,i9,i10,i11,by decide,by omega,by decide,by omega,i3⟩
      have sf8:Sd H7 H8:=fun b' o e d=>kp8 _ _ (fun z=>by subst z;rw[hd7]at e;cases e;cases d) e
      refine⟨lb,ys,_,rfl,rfl,hl8,B5 (by omega),_,_,_,kv',_,rfl,by rw[AX (Ne.symm nlb)];exact i1,AE,by omega,rel5.push k5A i4 hx hit ⟨rows,la.kp kA,By.kp vt (k78.trans kA)⟩,Do (Do tR7 sf8) (Sd.kx hl8 Aw.upd),Do (Do tB7 sf8) (Sd.kx hl8 Aw.upd),fun b' o n1 n2 e=>?_⟩
      rw[AX (AZ e nHb)]
      exact kp8 _ _ (AZ e nHd) (keep7 _ _ n1 n2 (s6 _ _ (kp5 _ _ n1 n2 e)))
    ·rintro σ H5 ⟨x5,x6,x7,kv,ys,rfl,hd5,hb5,lk5,rel5,tR5,tB5,kp5⟩
     refine hN _ _ ?_
     have k05:Kp H H5:=fun c xs e=>kp5 _ _ (BJ e hPR0 (by intro z;cases z)) (BJ e hPB0 (by intro z;cases z)) e
     refine⟨_,rfl,lb,ys,rfl,.inl ⟨Ax.of hb5,fun q hq=>?_⟩⟩
     have s6:=AI.new (o:=.tup ys) hq
     have eq6:upd H5 q (.tup ys) q=some (.tup ys):=AE
     generalize upd H5 q (.tup ys)=H6 at *
     have k56:=Kp.same s6
     obtain⟨F,dom',g',fmF,tyF,dpF,hgF,eF⟩:=fin H6 q ld ys kv eq6 (s6 _ _ hd5) ⟨rel5.1,fun j x it hj e1 e2=>let ⟨y',h1,h2⟩:=rel5.2 j x it hj e1 e2;⟨y',h1,h2.step (i:=9) k56 (fun _ _=>rfl) (by omega)⟩⟩
     have hy6:=(hy.kp k05).kp k56
     have tR6':=tR5.sm s6
     have tB6':=tB5.sm s6
     obtain⟨psL,hPL,_⟩:=id tB6'
     refine⟨_,rfl,tB6',fun f1 HA nf1 keep1 tab1 lam1=>⟨tab1,fun f2 HB nf2 keep2 tab2 lam2=>?_⟩⟩
     obtain⟨psM,hPM,_⟩:=id tab1
     obtain⟨cd1,ctv1,hf1,hc1⟩:=lam1
     obtain⟨cd2,ctv2,hf2,hc2⟩:=lam2
     have hf1':=keep2 _ _ (BJ hf1 hPM (by intro z;cases z)) hf1
     have hc1':Gb HB qP cd1:=hc1.keep fun b o e=>keep2 _ _ (BJ e hPM (by intro z;cases z)) e
     have sd:=(DR.tab hPL keep1).trans (DR.tab hPM keep2)
     have sdd:=sd.trans (DR.del qP HB)
     have tR6:BN HB t.ep qR:=CD (CD tR6' T.hz hPL keep1) T.hz hPM keep2
     refine⟨qP,Ju t.ep f1 f2 (IV ld dom' g') dom' g' DD,fun base' W=>?_,?_⟩
     ·refine Ei T ?_ ?_ (fun _ _ s x=>IV.smd s x) (hCR.keeps W.sub) (hB.keep W.sub)
      ·refine W.lam (k:=0) (ps:=["_law_spot"]) (fv:=["_law_laid_here"]) (js:=[3]) hf1' hc1' ⟨rfl,rfl,rfl,by nofun,(List.forall_mem_cons.mpr ⟨rfl,(List.forall_mem_nil _)⟩),by nofun,by nofun,(List.forall_mem_cons.mpr ⟨⟨rfl,rfl,rfl⟩,(List.forall_mem_nil _)⟩),(List.forall_mem_cons.mpr ⟨rfl,(List.forall_mem_nil _)⟩),(.cons rfl .nil)⟩ (fun us hl=>by obtain⟨_,rfl⟩:=IY hl;rfl) (fun vs H Q E h=>?_) (fun A outer s H vs Q E hr h=>?_)
       ·obtain⟨_,_,_,_,rfl,_⟩:=h
        rfl
       ·obtain⟨q,z,r,c,rfl,hq,⟨kv,hkv,dk⟩,dm,k'⟩:=h
        have hu1:=FU hr
        obtain⟨x,hx,vx⟩:=dk z r c dm
        refine⟨_,(G9 hu1 (AH 1) (AH 0) (fun _ _=>rfl)),?_⟩
        exact⟨_,rfl,_,rfl,ld,x,rfl,hx▸Gj.t (k:=cK z r c) hkv hq,k' x H vx (AI.refl _)⟩
      ·refine W.lam (k:=2) (ps:=["_law_one"]) (fv:=[]) (js:=[]) hf2 hc2 ⟨rfl,rfl,rfl,by nofun,(List.forall_mem_cons.mpr ⟨rfl,(List.forall_mem_nil _)⟩),by nofun,by nofun,(List.forall_mem_nil _),(List.forall_mem_nil _),.nil⟩ (fun us hl=>by obtain⟨_,rfl⟩:=IY hl;rfl) (fun vs H Q E h=>?_) (fun A outer s H vs Q E hr h=>?_)
       ·obtain⟨_,_,rfl,_⟩:=h
        rfl
       ·obtain⟨u,v,rfl,hv,okv,_,k'⟩:=h
        refine⟨_,(AR T.gw (Cb T) (hr.mono (by omega)) (AA (AH 0) AB)),?_⟩
        exact⟨_,rfl,u,v,rfl,hv,okv,k'⟩
     refine⟨.ref q,y,F,2,hm,rfl,A7.kp fmF sdd.kp,tyF.fO,(by decide),tyF.al hgF ho (fun _ h=>FI h),IV.smd sdd dpF,hy6.kp sdd.kp,ho,JH tR6 ZH,fun x HC hx keep3 tab3 hn=>?_⟩
     obtain⟨psR,hPR,_⟩:=id tR6
     have hx':=hx.kp (Kp.back hn)
     have kx:Aw t.ep HB (L2.put qP HB HC):=HS keep3
     rw[eF]at hx'
     exact k x _ hx' (fun b o n1 n2 e=>kx b o n1 (keep2 b o n2 (keep1 b o n2 (s6 _ _ (kp5 _ _ n1 n2 e))))) (HU tab3 hn) (CD tab2 (Ne.symm T.hz) hPR kx)
theorem VG (T:Txt w K mg t)(hC:∀ q∈[(t.gb,t.ep),(t.gx,t.er),(t.gy,t.et)],PySem.W.CodeHd base q.1 q.2)(hB:BM mg base)(n:Nat):Av P w K mg base Bj (n+14) t.ek t.el ["_law_formula","_law_home","_law_known"] (VE t.ep t.er n):=by
 exact Av.ex fun dg=>IR T hC hB dg.2 n
theorem GJ:AW ["_law_script","_law_pen_here","_law_turn","_law_known","_law_high","_law_wide","_law_formula","_law_home","_law_told","_law_row","_law_again"] ["_law_script"] (AL Rj):=A9
theorem VH (T:Txt w K mg t)(hC:∀ q∈[(t.gb,t.ep),(t.gx,t.er),(t.gy,t.et)],PySem.W.CodeHd base q.1 q.2)(hB:BM mg base):Av P w K mg base Bj 30 t.em t.en ["_law_script"] (RZ K t.ep t.er t.et):=by
 have D:=T.gy
 refine D.fn.okCX GJ ?_ (fun cdv A outer s H vs Q E hcd hr h Z hZ=>?_)
 ·rintro _ _ _ _ ⟨a,ns,rfl,_⟩
  rfl
 ·obtain⟨a,ns,rfl,hS,h63,hP1,hP2,hP3,k⟩:=h
  have hu:=hr.units0
  have hu1:=FU hr
  have hun:=Ua hr
  have hCL:=hC (t.gy,t.et) (by simp)
  have hCR:=hC (t.gb,t.ep) (by simp)
  refine hZ ⟨_,((AD (Ac (i:=1) GJ.nd rfl (Or.inl rfl) (AR T.ge (NA T) (BB hr) (AA (AH 0) AB)))
   (AD (B0 PassesOwn.never rfl (DE rfl T.g0 (AG AC AB)) (BA (i:=2) GJ.nd rfl (Or.inl rfl))
   (AD (Ac (i:=3) GJ.nd rfl (Or.inr rfl) MS)
   (AD (Ac (i:=4) GJ.nd rfl (Or.inl rfl) (AY A0 AC (AR T.gf (Ae T) (BB hr) (AA (AH 1) (AG AC AB)))))
   (AD (Ac (i:=5) GJ.nd rfl (Or.inl rfl) (AY A0 AC (AR T.gf (Ae T) (BB hr) (AA (AH 1) (AG AC AB)))))
   (AD (Ac (i:=6) GJ.nd rfl (Or.inl rfl) (AR T.gv (L6 T 3) (hr.mono (by omega)) (AA (AH 1) (AA (AH 3) (AA (AH 4) (AA (AH 5) (AG AC AB)))))))
   (AD (Ac (i:=7) GJ.nd rfl (Or.inl rfl) (AR T.gg (EU T) (BB hr) (AA (AH 1) AB)))
   (AD (Ac (i:=8) GJ.nd rfl (Or.inl rfl) (Fv (k:=13) (BB hr) (by rfl) T.gb.gl T.gb.fn.kp T.gb.b (AA (AH 6) (AA (AH 7) (Cr (FC (clos:=[("_law_known",s.heap.objs.size+1)]) rfl (by with_unfolding_all rfl) (hcd.symm.trans T.hy) hCL hB) (Cr (FC (clos:=[]) rfl (by with_unfolding_all rfl) (hcd.symm.trans T.hy) hCL hB) AB))))))
   (AD (Ak (DO (AQ MG (AT Ab (by rfl) T.gz PySem.boot_len (AA (AH 8) AB)) (AH 4) (AN _)) (Cc (AQ (T2 hu) (Bu (fv:=[]) (js:=[]) (cl:=[]) rfl (by with_unfolding_all rfl) ⟨rfl,by nofun,by nofun,rfl,by nofun,by nofun,(List.forall_mem_nil _),(List.forall_mem_nil _),.nil⟩ (Fj (AH 8)) (fun _ _ _ _ _=>CI) (fun _ _ _ _ _=>(by exact(AT KW (by rfl) T.gz PySem.boot_len (AA (AH 0) AB))))) (AY Tw (Bq (AA (AH 5) AB)) (AH 4)) (AN _)))).pt (AF (AJ CS)) AU)
   (AD (B0 PassesOwn.never rfl (Fj (AH 8)) (BA (i:=9) GJ.nd rfl (Or.inl rfl))
   (AF (Ak (Ej (BR (AT (Fr rfl) (by rfl) T.g9 Ft (CJ (Bu (fv:=[]) (js:=[]) (cl:=[]) rfl (by with_unfolding_all rfl) ⟨rfl,by nofun,by nofun,rfl,by nofun,by nofun,(List.forall_mem_nil _),(List.forall_mem_nil _),.nil⟩ (Fj (AH 9)) (fun _ _ _ _ _=>CI) (fun _ _ _ _ _=>(by exact(AR T.gr (NC T) (BB hr) (AA (AH 0) AB))))) AB)))) (AF (AJ CS)) AU)))
   (AD (Ak (Ej (BR (AR T.gm (GY T 4) (hr.mono (by omega)) (AA (AH 8) (Ai (AR T.gx (VG T hC hB 4) (hr.mono (by omega)) (AA (AH 6) (AA (AH 7) (AA (AH 3) AB)))) AB))))) (AF (AJ CS)) AU)
   (AD (Ac (i:=10) GJ.nd rfl (Or.inl rfl) (Fv (k:=13) (BB hr) (by rfl) T.gb.gl T.gb.fn.kp T.gb.b (AA (AH 6) (AA (AH 7) (Cr (FC (clos:=[("_law_known",s.heap.objs.size+1)]) rfl (by with_unfolding_all rfl) (hcd.symm.trans T.hy) hCL hB) (Cr (FC (clos:=[]) rfl (by with_unfolding_all rfl) (hcd.symm.trans T.hy) hCL hB) AB))))))
   (AF (Ak (AQ (SD (k:=30) hun) (AH 10) (AH 8) (AN _)) (AF (AJ CS)) AU)))))))))))))
   (AF (AJ CS))))),?_⟩
  try dsimp only[A6,An]
  refine⟨_,rfl,a,ns,rfl,hS,h63,fun p H1 hp0 pen1 s1=>?_⟩
  have ev1:E7 K (a,ns) t.ep t.er t.et H1 p 0:=⟨pen1,BN.nil (s1 _ _ hP1),BN.nil (s1 _ _ hP2),BN.nil (s1 _ _ hP3)⟩
  refine⟨_,rfl,(by decide),(by decide),?_⟩
  refine GK (fun i σ H2=>∃ x2 x3 x4 x5 x6 x7 x8 x9 x10,σ=[some (.ref a),some (.ref p),x2,x3,x4,x5,x6,x7,x8,x9,x10]∧E7 K (a,ns) t.ep t.er t.et H2 p (i*30000))
   ⟨_,_,_,_,_,_,_,_,_,rfl,ev1⟩ ?_ ?_
  ·rintro i σ H2 hi ⟨x2,x3,x4,x5,x6,x7,x8,x9,x10,rfl,ev2⟩
   have hi3:i<3:=hi
   have eT:pT 3=24000:=by decide
   have eK:kT 3=360:=by decide
   refine Bb fun N hN=>?_
   refine fun kn hkn=>?_
   refine hN _ _ ?_
   clear hN N
   have s3:=AI.new (o:=.dT []) hkn
   have k3:Fh (upd H2 kn (.dT [])) kn []:=⟨AE,fun key v z=>by cases z⟩
   generalize upd H2 kn (.dT [])=H3 at *
   have g3:=Bz.refl (ev2.pen.same s3) k3
   refine Bb fun N hN=>?_
   refine⟨_,rfl,p,_,_,_,rfl,(by show(0:Int)<_;decide),A5 (by decide) (by decide),g3.pen,(by omega),fun r4 H4 a4 b4 pen4 kp4=>⟨_,_,rfl,rfl,?_⟩⟩
   refine hN _ _ ?_
   clear hN N
   have g4:=g3.kx pen4 kp4
   refine Bb fun N hN=>?_
   refine⟨_,rfl,p,_,_,_,rfl,(by show(0:Int)<_;decide),A5 (by decide) (by decide),g4.pen,(by omega),fun r5 H5 a5 b5 pen5 kp5=>⟨_,_,rfl,rfl,?_⟩⟩
   refine hN _ _ ?_
   clear hN N
   have g5:=g4.kx pen5 kp5
   refine Bb fun N hN=>?_
   refine⟨_,rfl,_,rfl,_,rfl,_,rfl,p,kn,(1+r4).toNat,(1+r5).toNat,_,_,_,tv (by omega) (by omega) (by decide),(by omega),(by omega),(by omega),(by omega),g5.pen,(by omega),g5.kd,(by show 0+kT 3≤700;omega),fun u4 f4 kvs H6 fm4 ty4 gr4=>?_⟩
   refine hN _ _ ?_
   clear hN N
   have g6:=g5.trans gr4
   refine Bb fun N hN=>?_
   refine⟨_,rfl,p,_,_,rfl,g6.pen,(by omega),fun qh hm H7 hq7 nm7 y1 y2 y3 y4 pen7 kp7=>?_⟩
   refine hN _ _ ?_
   clear hN N
   have g7:=g6.kx pen7 kp7
   have hh7:DP H7 (.ref qh) hm:=⟨qh,rfl,hq7⟩
   have ho:EX hm:=⟨nm7,y1,y2,y3,y4⟩
   have fm7:=A7.kp fm4 (g6.pen.kp kp7)
   obtain⟨g,dp7,hg⟩:=gK g7.kd
   have dm:=ty4.dm (fo:=DD) hg ho (fun _ h=>FI h)
   have bd:=ty4.bd
   have sf27:Sd H2 H7:=fun b o e d=>by
    obtain⟨_,eo⟩:=ev2.pen.ob
    exact g7.kp b o (fun z=>by subst z;rw[eo]at e;cases e;cases d) (AZ e hkn) (s3 _ _ e)
   have ev7:E7 K (a,ns) t.ep t.er t.et H7 p (i*30000+25000):=⟨g7.pen.mono (by omega),Do ev2.tR sf27,Do ev2.tB sf27,Do ev2.tL sf27⟩
   obtain⟨psL,hPL,_⟩:=id ev7.tL
   refine⟨_,rfl,_,rfl,ev7.tL,fun f1 HA nf1 keep1 tab1 lam1=>⟨tab1,fun f2 HB nf2 keep2 tab2 lam2=>?_⟩⟩
   obtain⟨psM,hPM,_⟩:=id tab1
   obtain⟨cd1,ctv1,hf1,hc1⟩:=lam1
   obtain⟨cd2,ctv2,hf2,hc2⟩:=lam2
   have hf1':=keep2 _ _ (BJ hf1 hPM (by intro z;cases z)) hf1
   have hc1':Gb HB qL cd1:=hc1.keep fun b o e=>keep2 _ _ (BJ e hPM (by intro z;cases z)) e
   have sd:=(DR.tab hPL keep1).trans (DR.tab hPM keep2)
   have sdd:=sd.trans (DR.del qL HB)
   have tR6:BN HB t.ep qR:=CD (CD ev7.tR T.h0 hPL keep1) T.h0 hPM keep2
   refine⟨qL,Ju t.ep f1 f2 (IV kn (Go kvs) g) (Go kvs) g DD,fun base' W=>?_,?_⟩
   ·refine Ei T ?_ ?_ (fun _ _ s x=>IV.smd s x) (hCR.keeps W.sub) (hB.keep W.sub)
    ·refine W.lam (k:=0) (ps:=["_law_spot"]) (fv:=["_law_known"]) (js:=[3]) hf1' hc1' ⟨rfl,rfl,rfl,by nofun,(List.forall_mem_cons.mpr ⟨rfl,(List.forall_mem_nil _)⟩),by nofun,by nofun,(List.forall_mem_cons.mpr ⟨⟨rfl,rfl,rfl⟩,(List.forall_mem_nil _)⟩),(List.forall_mem_cons.mpr ⟨rfl,(List.forall_mem_nil _)⟩),(.cons rfl .nil)⟩ (fun us hl=>by obtain⟨_,rfl⟩:=IY hl;rfl) (fun vs H Q E h=>?_) (fun A outer s H vs Q E hr h=>?_)
     ·obtain⟨_,_,_,_,rfl,_⟩:=h
      rfl
     ·obtain⟨q,z,r,c,rfl,hq,⟨kv,hkv,dk⟩,dm,k'⟩:=h
      have hu1:=FU hr
      obtain⟨x,hx,vx⟩:=dk z r c dm
      refine⟨_,(G9 hu1 (AH 1) (AH 0) (fun _ _=>rfl)),?_⟩
      exact⟨_,rfl,_,rfl,kn,x,rfl,hx▸Gj.t (k:=cK z r c) hkv hq,k' x H vx (AI.refl _)⟩
    ·refine W.lam (k:=2) (ps:=["_law_one"]) (fv:=[]) (js:=[]) hf2 hc2 ⟨rfl,rfl,rfl,by nofun,(List.forall_mem_cons.mpr ⟨rfl,(List.forall_mem_nil _)⟩),by nofun,by nofun,(List.forall_mem_nil _),(List.forall_mem_nil _),.nil⟩ (fun us hl=>by obtain⟨_,rfl⟩:=IY hl;rfl) (fun vs H Q E h=>?_) (fun A outer s H vs Q E hr h=>?_)
     ·obtain⟨_,_,rfl,_⟩:=h
      rfl
     ·obtain⟨u,v,rfl,hv,okv,_,k'⟩:=h
      refine⟨_,(AR T.gw (Cb T) (BB hr) (AA (AH 0) AB)),?_⟩
      exact⟨_,rfl,u,v,rfl,hv,okv,k'⟩
   refine⟨u4,.ref qh,f4,4,hm,rfl,A7.kp fm7 sdd.kp,ty4.fO,(by decide),ty4.al hg ho (fun _ h=>FI h),IV.smd sdd dp7,hh7.kp sdd.kp,ho,JH tR6 Xi,fun x HC hx keep3 tab3 hn=>?_⟩
   obtain⟨psR,hPR,_⟩:=id tR6
   have hx':=hx.kp (Kp.back hn)
   have kx:Aw t.ep HB (L2.put qL HB HC):=HS keep3
   have se:=sd.trans (DR.tab hPR kx)
   have evD:E7 K (a,ns) t.ep t.er t.et (L2.put qL HB HC) p (i*30000+25000):=⟨ev7.pen.smd se,HU tab3 hn,CD (CD (CD ev7.tB T.h1 hPL keep1) T.h1 hPM keep2) (Ne.symm T.hz) hPR kx,CD tab2 (Ne.symm T.h0) hPR kx⟩
   generalize L2.put qL HB HC=HD at *
   obtain⟨rows,⟨b,us,rfl,hb,pr⟩,vt⟩:=id hx'
   have lM:(Au DD g hm f4).length≤100:=by rw[dm.len];omega
   have rM:∀ r∈Au DD g hm f4,r.length≤100:=fun r hr=>by rw[dm.rc.row r hr];omega
   have l1:us.length=(1+r4).toNat:=by rw[Paired.length pr,Paired.length vt,dm.len]
   have ul:((us.length:Nat):Int)=1+r4:=by omega
   have at_:∀ j,j<us.length→∃ bj row,us[j]?=some (.ref bj)∧HD bj=some (.tup row)∧((row.length:Nat):Int)=1+r5∧∃ mr,Br HD row mr∧∀ v∈mr,Ap v:=fun j hj=>by
    have hx:us[j]?=some us[j]:=List.getElem?_eq_getElem hj
    obtain⟨row,hrow,bj,e,hbj⟩:=Ar pr hx
    obtain⟨mr,hmr,pv⟩:=Ar vt hrow
    have hm':=List.mem_of_getElem? hmr
    refine⟨bj,row,by rw[hx,e],hbj,?_,mr,pv,dm.ok mr hm'⟩
    rw[Paired.length pv,dm.rc.row mr hm']
    omega
   have dpD:=IV.smd se dp7
   have hhD:=hh7.kp se.kp
   have fmD:=A7.kp fm7 se.kp
   dsimp only[Ew]
   refine Bb fun N hN=>?_
   refine⟨_,rfl,b,us,rfl,.inr (Af.of hb),_,rfl,rfl,false,(by rw[ul];simp),Ah ?_⟩
   refine⟨_,rfl,b,rfl,⟨_,Af.of hb⟩,fun D2 hD2=>?_⟩
   refine⟨fun j mm H=>mm=us.length-j∧j≤us.length∧H D2=some (.lst (List.replicate j (V.int (1+r5))))∧AI HD H,⟨us.length,rfl,Nat.zero_le _,AE,AI.new hD2⟩,?_⟩
   rintro j mm H51 ⟨rfl,hj,hD51,s51⟩
   by_cases hlt:j<us.length
   ·obtain⟨bj,row,hx,hbj,rl,_⟩:=at_ j hlt
    refine .inr ⟨⟨_,_,Af.of (s51 _ _ hb),hx⟩,fun x' H' y=>?_⟩
    obtain⟨e4,y⟩:=y
    subst e4
    have hx':=y _ (Af.of (s51 _ _ hb))
    rw[hx]at hx'
    cases hx'
    refine⟨_,rfl,bj,row,rfl,.inr (Af.of (s51 _ _ hbj)),_,hD51,B5 (by rw[List.length_replicate];omega),us.length-(j+1),(by omega),rfl,hlt,?_,fun b' o e=>by rw[AX (AZ e hD2)];exact s51 _ _ e⟩
    rw[AE,rl,List.replicate_succ']
   have ej:j=us.length:=by omega
   subst ej
   refine .inl ⟨⟨_,Af.of (s51 _ _ hb),Nat.le_refl _⟩,?_⟩
   refine⟨_,rfl,(by show 1≤sizeLine;decide),fun l2 hl2=>?_⟩
   have s52:=AI.new (o:=.lst [V.int (1+r5)]) hl2
   refine⟨_,rfl,l2,_,_,rfl,rfl,AE,(by omega),(by omega),Cn (by show 1*(1+r4).toNat≤1000;omega),fun l3 hl3=>?_⟩
   have s53:=AI.new (o:=.lst (List.replicate (1+r4).toNat [V.int (1+r5)]).flatten) hl3
   refine⟨D2,l3,_,_,rfl,rfl,Ax.of (s53 _ _ (s52 _ _ hD51)),Ax.of AE,M4,(by rw[VF];exact M4),false,(by rw[VF,l1,Ri];rfl),Ah ?_⟩
   have sE:=s51.trans (s52.trans s53)
   generalize upd (upd H51 l2 (.lst [V.int (1+r5)])) l3 (.lst (List.replicate (1+r4).toNat [V.int (1+r5)]).flatten)=HE at *
   refine hN _ _ ?_
   clear hN N
   refine Bb fun N hN=>?_
   refine⟨_,rfl,b,rfl,⟨_,Af.of (sE _ _ hb)⟩,?_⟩
   refine G7 (xs:=us) (fun j σ H=>∃ x9',σ=[some (.ref a),some (.ref p),some (.int (0+(i:Int))),some (.ref kn),some (.int (1+r4)),some (.int (1+r5)),some u4,some (.ref qh),some (.ref b),x9',x10]∧AI HD H) ⟨_,rfl,sE⟩ ?_ ?_ ?_
   ·rintro j σ H _ ⟨x9',rfl,sJ⟩
    exact Af.of (sJ _ _ hb)
   ·rintro j x σ HJ hx ⟨x9',rfl,sJ⟩
    obtain⟨bj,row,hx0,hbj,rl,mr,pv,okr⟩:=at_ j (List.getElem?_eq_some_iff.mp hx).1
    rw[hx]at hx0
    cases hx0
    have hbJ:=sJ _ _ hbj
    refine⟨_,rfl,bj,rfl,⟨_,Af.of hbJ⟩,fun D3 hD3=>?_⟩
    refine⟨fun e mm H=>mm=row.length-e∧e≤row.length∧H D3=some (.lst ((List.replicate e true).map V.bl))∧AI HJ H,⟨row.length,rfl,Nat.zero_le _,AE,AI.new hD3⟩,?_⟩
    rintro e mm H6 ⟨rfl,he,hD6,s6⟩
    by_cases hlt2:e<row.length
    ·have hxe:row[e]?=some row[e]:=List.getElem?_eq_getElem hlt2
     obtain⟨v,hv,pve⟩:=Ar pv hxe
     have okv:=okr v (List.mem_of_getElem? hv)
     obtain⟨q,eq_,hq⟩:=pve.kp (Kp.same (sJ.trans s6))
     rw[eq_]at hxe
     refine .inr ⟨⟨_,_,Af.of (s6 _ _ hbJ),hxe⟩,fun x' H' y=>?_⟩
     obtain⟨e4,y⟩:=y
     subst e4
     have hx':=y _ (Af.of (s6 _ _ hbJ))
     rw[hxe]at hx'
     cases hx'
     refine⟨_,rfl,q,v,rfl,okv,hq,fun H7' s7=>?_⟩
     refine⟨_,s7 _ _ hD6,B5 (by rw[List.length_map,List.length_replicate];omega),row.length-(e+1),(by omega),rfl,hlt2,?_,fun b' o z=>by rw[AX (AZ z hD3)];exact s7 _ _ (s6 _ _ z)⟩
     rw[AE,List.replicate_succ',List.map_append];rfl
    have ee:e=row.length:=by omega
    subst ee
    refine .inl ⟨⟨_,Af.of (s6 _ _ hbJ),Nat.le_refl _⟩,D3,List.replicate row.length true,rfl,Ax.of hD6,true,(by simp),Ah ?_⟩
    exact⟨_,rfl,sJ.trans s6⟩
   rintro σ HJ ⟨x9',rfl,sJ⟩
   refine hN _ _ ?_
   clear hN N
   have evJ:E7 K (a,ns) t.ep t.er t.et HJ p (i*30000+25000):=⟨evD.pen.same sJ,evD.tR.sm sJ,evD.tB.sm sJ,evD.tL.sm sJ⟩
   refine Bb fun N hN=>?_
   refine⟨_,rfl,_,rfl,_,rfl,_,rfl,⟨(Go kvs,g),hg⟩,u4,.ref qh,kn,f4,_,_,hm,rfl,A7.kp fmD (Kp.same sJ),ty4,hhD.kp (Kp.same sJ),ho,IV.smd (DR.of sJ) dpD,evJ.tR,evJ.tB,fun x2 HF hx2 keepF tRF tBF=>?_⟩
   obtain⟨psRJ,hPRJ,_⟩:=id evJ.tR
   obtain⟨psBJ,hPBJ,_⟩:=id evJ.tB
   have smF:DR HJ HF:=fun b' o e d=>keepF b' o (fun z=>by subst z;rw[hPRJ]at e;cases e;cases d) (fun z=>by subst z;rw[hPBJ]at e;cases e;cases d) e
   have tLF:BN HF t.et qL:=by
    obtain⟨ps',e,t',kk⟩:=evJ.tL
    refine⟨ps',keepF _ _ (Ne.symm T.h0) (Ne.symm T.h1) e,t',fun pos cv z=>?_⟩
    obtain⟨c,e1,e2⟩:=kk pos cv z
    exact⟨c,e1,e2.keep fun b o h=>keepF _ _ (BJ h hPRJ (by intro z;cases z)) (BJ h hPBJ (by intro z;cases z)) h⟩
   have told:Bm HD (.ref b) (Au DD g hm f4):=⟨rows,⟨b,us,rfl,hb,pr⟩,vt⟩
   have toldF:=(told.kp (Kp.same sJ)).kp smF.kp
   refine⟨.ref b,x2,_,rfl,toldF.trT lM rM,hx2.trT lM rM,fun HG sG=>⟨true,rfl,Ah ?_⟩⟩
   refine hN _ _ ?_
   clear hN N
   have evG:E7 K (a,ns) t.ep t.er t.et HG p (i*30000+25000):=⟨(evJ.pen.smd smF).same sG,tRF.sm sG,tBF.sm sG,tLF.sm sG⟩
   have sDG:DR HD HG:=(DR.of sJ).trans (smF.trans (DR.of sG))
   have toldG:=toldF.kp (Kp.same sG)
   have dpG:=IV.smd sDG dpD
   have hhG:=hhD.kp sDG.kp
   have fmG:=A7.kp fmD sDG.kp
   refine Bb fun N hN=>?_
   obtain⟨psL,hPL,_⟩:=id evG.tL
   refine⟨_,rfl,_,rfl,evG.tL,fun f1 HA nf1 keep1 tab1 lam1=>⟨tab1,fun f2 HB nf2 keep2 tab2 lam2=>?_⟩⟩
   obtain⟨psM,hPM,_⟩:=id tab1
   obtain⟨cd1,ctv1,hf1,hc1⟩:=lam1
   obtain⟨cd2,ctv2,hf2,hc2⟩:=lam2
   have hf1':=keep2 _ _ (BJ hf1 hPM (by intro z;cases z)) hf1
   have hc1':Gb HB qL cd1:=hc1.keep fun b o e=>keep2 _ _ (BJ e hPM (by intro z;cases z)) e
   have sd:=(DR.tab hPL keep1).trans (DR.tab hPM keep2)
   have sdd:=sd.trans (DR.del qL HB)
   have tR6:BN HB t.ep qR:=CD (CD evG.tR T.h0 hPL keep1) T.h0 hPM keep2
   refine⟨qL,Ju t.ep f1 f2 (IV kn (Go kvs) g) (Go kvs) g DD,fun base' W=>?_,?_⟩
   ·refine Ei T ?_ ?_ (fun _ _ s x=>IV.smd s x) (hCR.keeps W.sub) (hB.keep W.sub)
    ·refine W.lam (k:=0) (ps:=["_law_spot"]) (fv:=["_law_known"]) (js:=[3]) hf1' hc1' ⟨rfl,rfl,rfl,by nofun,(List.forall_mem_cons.mpr ⟨rfl,(List.forall_mem_nil _)⟩),by nofun,by nofun,(List.forall_mem_cons.mpr ⟨⟨rfl,rfl,rfl⟩,(List.forall_mem_nil _)⟩),(List.forall_mem_cons.mpr ⟨rfl,(List.forall_mem_nil _)⟩),(.cons rfl .nil)⟩ (fun us hl=>by obtain⟨_,rfl⟩:=IY hl;rfl) (fun vs H Q E h=>?_) (fun A outer s H vs Q E hr h=>?_)
     ·obtain⟨_,_,_,_,rfl,_⟩:=h
      rfl
     ·obtain⟨q,z,r,c,rfl,hq,⟨kv,hkv,dk⟩,dm,k'⟩:=h
      have hu1:=FU hr
      obtain⟨x,hx,vx⟩:=dk z r c dm
      refine⟨_,(G9 hu1 (AH 1) (AH 0) (fun _ _=>rfl)),?_⟩
      exact⟨_,rfl,_,rfl,kn,x,rfl,hx▸Gj.t (k:=cK z r c) hkv hq,k' x H vx (AI.refl _)⟩
    ·refine W.lam (k:=2) (ps:=["_law_one"]) (fv:=[]) (js:=[]) hf2 hc2 ⟨rfl,rfl,rfl,by nofun,(List.forall_mem_cons.mpr ⟨rfl,(List.forall_mem_nil _)⟩),by nofun,by nofun,(List.forall_mem_nil _),(List.forall_mem_nil _),.nil⟩ (fun us hl=>by obtain⟨_,rfl⟩:=IY hl;rfl) (fun vs H Q E h=>?_) (fun A outer s H vs Q E hr h=>?_)
     ·obtain⟨_,_,rfl,_⟩:=h
      rfl
     ·obtain⟨u,v,rfl,hv,okv,_,k'⟩:=h
      refine⟨_,(AR T.gw (Cb T) (BB hr) (AA (AH 0) AB)),?_⟩
      exact⟨_,rfl,u,v,rfl,hv,okv,k'⟩
   refine⟨u4,.ref qh,f4,4,hm,rfl,A7.kp fmG sdd.kp,ty4.fO,(by decide),ty4.al hg ho (fun _ h=>FI h),IV.smd sdd dpG,hhG.kp sdd.kp,ho,JH tR6 Xi,fun x HC hx keep3 tab3 hn=>?_⟩
   obtain⟨psR,hPR,_⟩:=id tR6
   have hx':=hx.kp (Kp.back hn)
   have kx:Aw t.ep HB (L2.put qL HB HC):=HS keep3
   have se:=sd.trans (DR.tab hPR kx)
   have evD:E7 K (a,ns) t.ep t.er t.et (L2.put qL HB HC) p (i*30000+25000):=⟨evG.pen.smd se,HU tab3 hn,CD (CD (CD evG.tB T.h1 hPL keep1) T.h1 hPM keep2) (Ne.symm T.hz) hPR kx,CD tab2 (Ne.symm T.h0) hPR kx⟩
   generalize L2.put qL HB HC=HK at *
   refine hN _ _ ?_
   have toldK:=toldG.kp se.kp
   obtain⟨ax,ux,rfl,hax,lax,tax⟩:=(hx'.trT lM rM).top
   obtain⟨ay,uy,eay,hay,lay,tay⟩:=(toldK.trT lM rM).top
   cases eay
   refine⟨_,rfl,_,rfl,ax,b,ux,uy,3,rfl,rfl,hax,hay,by rw[lax,lay],by decide,fun j u v hu hv=>?_,false,rfl,Ah ?_⟩
   ·obtain⟨t1,e1,h1⟩:=tax j u hu
    obtain⟨t2,e2,h2⟩:=tay j v hv
    rw[e1]at e2
    cases e2
    exact Y3 h1 h2
   ·exact⟨_,_,_,_,_,_,_,_,_,rfl,evD.pen.mono (by omega),evD.tR,evD.tB,evD.tL⟩
  ·rintro σ H2 ⟨x2,x3,x4,x5,x6,x7,x8,x9,x10,rfl,ev2⟩
   exact k _
end
def N4:Nat→(List Value→Prop)→Prop
 | 0,p=>p []
 | n+1,p=>∀ a,N4 n fun us=>p (a::us)
theorem N4.of:∀(n:Nat) {p:List Value→Prop},N4 n p→∀ us,us.length=n→p us
 | 0,_,h,us,e=>by
  obtain rfl:=List.length_eq_zero_iff.mp e
  exact h
 | n+1,_,h,us,e=>by
  cases us with
  | nil=>cases e
  | cons a r=>exact N4.of n (h a) r (Nat.succ.inj e)
def Ck (K:PySem.W.Frag)(n:Str)(s:Stmt):Prop:=∃(f:Addr) (od an:Option Addr) (sl:Array (Option Value)) (oc kV dc pm cd ct:Value),PySem.W.nsIn K mainGlobals n=some (some (.ref f))∧K.lookup f=some ⟨oc,od,.func (PySem.W.fnOf n n (E8 s) (Cp s) (AL s) .none kV dc pm an cd ct),sl⟩∧PySem.W.codeIn K cd n=true∧PySem.W.keepIn K (.ref f)=true
theorem Xl {K:PySem.W.Frag}{n:Str}{s:Stmt}{f:Addr}{od an:Option Addr}{sl:Array (Option Value)}{oc kV dc pm cd ct:Value}(a:PySem.W.nsIn K mainGlobals n=some (some (.ref f)))(l:K.lookup f=some ⟨oc,od,.func (PySem.W.fnOf n n (E8 s) (Cp s) (AL s) .none kV dc pm an cd ct),sl⟩)(c:PySem.W.codeIn K cd n=true)(k:PySem.W.keepIn K (.ref f)=true):Ck K n s:=⟨_,_,_,_,_,_,_,_,_,_,a,l,c,k⟩
theorem Aq {K:PySem.W.Frag}{h:Heap}{mg:Str→Option Value}{n:Str}{s:Stmt}(X:K.In h)(G:h.Ns mainGlobals mg)(C:Ck K n s)(ps:List Str)
 (b:∀(kV doc pm:Value) (an:Option Addr) (cdv ct:Value),N4 ps.length fun us=>bindArgs (PySem.W.fnOf n n (E8 s) (Cp s) (AL s) .none kV doc pm an cdv ct) ⟨us,[]⟩=pure (ps.zip us)):
 ∃ f fd,Df K mg n s ps f fd∧(∀ us,us.length=ps.length→bindArgs fd ⟨us,[]⟩=pure (ps.zip us))∧∀ c T,PySem.W.tabIn K n=some (c,T)→fd.code=.ref c:=by
 obtain⟨f,od,an,sl,oc,kV,dc,pm,cd,ct,ha,hl,hc,hk⟩:=C
 have F:=Tx (st:=s) hl hc hk
 exact⟨f,_,⟨F,PySem.W.mg_of X G ha,F.binds fun _ _ _ _ _ _ us hl=>N4.of _ (b _ _ _ _ _ _) us hl⟩,N4.of _ (b _ _ _ _ _ _),fun c T ht=>SH F ha ht⟩
theorem VI {l:PySem.W.OpenLaw}{w:World}{K:PySem.W.Frag}{h:Heap}{q:Program}{loose:List Str}{mean:ExcName→Option Value}{mg mb:Str→Option Value}{fa:Addr}(X:K.In h)(T0:PyProof.Rows.Top q loose mean mg mb h)(hfa:mg "law"=some (.ref fa))
 {w_PART_PLACES:Addr} {o_PART_PLACES:Obj} {w_ONE_PLACE:Addr} {o_ONE_PLACE:Obj} {u_GREATEST_WHOLE:Value} {u_SIGNS:Value} {u_MOST_SIGNS:Value} {u_COLUMN_LETTERS:Value} {w_NOUGHT:Addr} {o_NOUGHT:Obj} {u_LETTERS:Value} {u_LONGEST_NAME:Value} {u_LAST_ROW:Value} {u_LAST_COLUMN:Value} {w_FAULTS:Addr} {o_FAULTS:Obj}  {cc_reckoned pp_reckoned cc__law_by_parts pp__law_by_parts cc_law pp_law:Addr}
 (C0:Ck K "is_whole" Gp)
 (C1:Ck K "greatest_divisor" Cf)
 (C2:Ck K "is_number" F0)
 (C3:Ck K "number_of" F1)
 (C4:Ck K "sum_of" Jw)
 (C5:Ck K "difference_of" DT)
 (C6:Ck K "product_of" FJ)
 (C7:Ck K "quotient_of" Em)
 (C8:Ck K "is_less" IH)
 (C9:Ck K "has_few_figures" Cv)
 (C10:Ck K "is_short_number" Cw)
 (C11:Ck K "number_in" F2)
 (C12:Ck K "number_value" EA)
 (C13:Ck K "reckoned_numbers" Cg)
 (C14:Ck K "cell_text" F3)
 (C15:Ck K "is_text" II)
 (C16:Ck K "number_text" En)
 (C17:Ck K "value_text" FK)
 (C18:Ck K "signs_in" Gq)
 (C19:Ck K "joined_texts" EB)
 (C20:Ck K "signed" Jx)
 (C21:Ck K "table_shape" Eo)
 (C22:Ck K "fitted_shape" EC)
 (C23:Ck K "filled_table" ED)
 (C24:Ck K "spread_table" EE)
 (C25:Ck K "values_in" F4)
 (C26:Ck K "first_fault" Ep)
 (C27:Ck K "numbers_among" DU)
 (C28:Ck K "sum_of_all" FL)
 (C29:Ck K "sum_among" F5)
 (C30:Ck K "summed_up" F6)
 (C31:Ck K "counted_up" FM)
 (C32:Ck K "ends_of" IJ)
 (C33:Ck K "summed_if" F7)
 (C34:Ck K "is_column_of" EF)
 (C35:Ck K "found_at" Gr)
 (C36:Ck K "chosen_table" EG)
 (C37:Ck K "table_in_rows" DV)
 (C38:Ck K "turned_table" EH)
 (C39:Ck K "signed_table" EI)
 (C40:Ck K "grid_table" FN)
 (C41:Ck K "cells_of" Gs)
 (C42:Ck K "table_of_one" EJ)
 (C43:Ck K "parts_of" Gu)
 (C44:Ck K "block_led_to" EK)
 (C45:Ck K "all_parts" F8)
 (C46:Ck K "told_by_parts" DW)
 (C47:Ck K "block_shape" Er)
 (C48:Ck K "shown_table" Es)
 (C49:Ck K "leaf_table" FP)
 (C50:Ck K "outer_value" Et)
 (C51:Ck K "single_value" EL)
 (C52:Ck K "table_by_parts" DH)
 (C53:Ck K "reckoned" Gv)
 (C54:Ck K "_law_lowest" Eu)
 (C55:Ck K "_law_cell_at" EM)
 (C56:Ck K "_law_pen" Gw)
 (C57:Ck K "_law_take" F9)
 (C58:Ck K "_law_drawn_cell" Cy)
 (C59:Ck K "_law_great_value" Ch)
 (C60:Ck K "_law_drawn_value" Ci)
 (C61:Ck K "_law_drawn_table" Cj)
 (C62:Ck K "_law_laid" GA)
 (C63:Ck K "_law_put_down" DX)
 (C64:Ck K "_law_typed_alike" Cl)
 (C65:Ck K "is_sheet_name" DY)
 (C66:Ck K "is_within" GB)
 (C67:Ck K "is_cell" IK)
 (C68:Ck K "is_fault_word" DZ)
 (C69:Ck K "is_value" Gx)
 (C70:Ck K "_law_lessened" Da)
 (C71:Ck K "_law_leaf" GC)
 (C72:Ck K "_law_single" Ev)
 (C73:Ck K "_law_tree" GD)
 (C74:Ck K "_law_outside" EN)
 (C75:Ck K "_law_by_parts" Db)
 (C76:Ck K "law" Rj)
 (z_len:PySem.W.nsIn K mainGlobals "len"=some none)
 (z_range:PySem.W.nsIn K mainGlobals "range"=some none)
 (z_isinstance:PySem.W.nsIn K mainGlobals "isinstance"=some none)
 (z_int:PySem.W.nsIn K mainGlobals "int"=some none)
 (z_bool:PySem.W.nsIn K mainGlobals "bool"=some none)
 (z_str:PySem.W.nsIn K mainGlobals "str"=some none)
 (z_tuple:PySem.W.nsIn K mainGlobals "tuple"=some none)
 (z_list:PySem.W.nsIn K mainGlobals "list"=some none)
 (z_reversed:PySem.W.nsIn K mainGlobals "reversed"=some none)
 (z_min:PySem.W.nsIn K mainGlobals "min"=some none)
 (z_all:PySem.W.nsIn K mainGlobals "all"=some none)
 (z_abs:PySem.W.nsIn K mainGlobals "abs"=some none)
 (z_enumerate:PySem.W.nsIn K mainGlobals "enumerate"=some none)
 (z_zip:PySem.W.nsIn K mainGlobals "zip"=some none)
 (z_max:PySem.W.nsIn K mainGlobals "max"=some none)
 (g_PART_PLACES:PySem.W.nsIn K mainGlobals "PART_PLACES"=some (some (.ref w_PART_PLACES)))
 (h_PART_PLACES:K.lookup w_PART_PLACES=some o_PART_PLACES)
 (r_PART_PLACES:∃ kvs,Vx w o_PART_PLACES kvs∧Paired (fun(kv:BC×V) (kt:BC×List V)=>kv.1=kt.1∧∃ a,kv.2=.ref a∧∀ H,Af K H a kt.2) kvs Yo)
 (n_PART_PLACES:(w_PART_PLACES==sysModules)=false)
 (g_ONE_PLACE:PySem.W.nsIn K mainGlobals "ONE_PLACE"=some (some (.ref w_ONE_PLACE)))
 (h_ONE_PLACE:K.lookup w_ONE_PLACE=some o_ONE_PLACE)
 (r_ONE_PLACE:o_ONE_PLACE.cls=.type "tuple"∧∃ its n,o_ONE_PLACE.data=.seq its n∧its.size≤sizeLine∧A1 [V.int 1,V.int 1] its.toList)
 (g_GREATEST_WHOLE:PySem.W.nsIn K mainGlobals "GREATEST_WHOLE"=some (some u_GREATEST_WHOLE))
 (r_GREATEST_WHOLE:A2 (.int 999999999999999999999999999999) u_GREATEST_WHOLE)
 (g_SIGNS:PySem.W.nsIn K mainGlobals "SIGNS"=some (some u_SIGNS))
 (r_SIGNS:A2 (.str (Str.ofString "abcdefghijklmnopqrstuvwxyz0123456789 ")) u_SIGNS)
 (g_MOST_SIGNS:PySem.W.nsIn K mainGlobals "MOST_SIGNS"=some (some u_MOST_SIGNS))
 (r_MOST_SIGNS:A2 (.int 20) u_MOST_SIGNS)
 (g_COLUMN_LETTERS:PySem.W.nsIn K mainGlobals "COLUMN_LETTERS"=some (some u_COLUMN_LETTERS))
 (r_COLUMN_LETTERS:A2 (.str (Str.ofString "ABCDEFGHIJKLMNOPQRSTUVWXYZ")) u_COLUMN_LETTERS)
 (g_NOUGHT:PySem.W.nsIn K mainGlobals "NOUGHT"=some (some (.ref w_NOUGHT)))
 (h_NOUGHT:K.lookup w_NOUGHT=some o_NOUGHT)
 (r_NOUGHT:o_NOUGHT.cls=.type "tuple"∧∃ its n,o_NOUGHT.data=.seq its n∧its.size≤sizeLine∧A1 [V.str (Str.ofString "number"),V.int 0,V.int 1] its.toList)
 (g_LETTERS:PySem.W.nsIn K mainGlobals "LETTERS"=some (some u_LETTERS))
 (r_LETTERS:A2 (.str (Str.ofString "abcdefghijklmnopqrstuvwxyz")) u_LETTERS)
 (g_LONGEST_NAME:PySem.W.nsIn K mainGlobals "LONGEST_NAME"=some (some u_LONGEST_NAME))
 (r_LONGEST_NAME:A2 (.int 6) u_LONGEST_NAME)
 (g_LAST_ROW:PySem.W.nsIn K mainGlobals "LAST_ROW"=some (some u_LAST_ROW))
 (r_LAST_ROW:A2 (.int 16) u_LAST_ROW)
 (g_LAST_COLUMN:PySem.W.nsIn K mainGlobals "LAST_COLUMN"=some (some u_LAST_COLUMN))
 (r_LAST_COLUMN:A2 (.int 8) u_LAST_COLUMN)
 (g_FAULTS:PySem.W.nsIn K mainGlobals "FAULTS"=some (some (.ref w_FAULTS)))
 (h_FAULTS:K.lookup w_FAULTS=some o_FAULTS)
 (r_FAULTS:o_FAULTS.cls=.type "tuple"∧∃ its n,o_FAULTS.data=.seq its n∧its.size≤sizeLine∧A1 (Ct.map V.str) its.toList)
 (kist:PySem.W.kitOne K (.type "str") (.type "tuple")=some false)
 (kiit:PySem.W.kitOne K (.type "int") (.type "tuple")=some false)
 (kib:PySem.W.kitOne K (.type "int") (.type "bool")=some false)
 (ki_bt:PySem.W.kitOne K (.type "bool") (.type "tuple")=some false)
 (ki_sb:PySem.W.kitOne K (.type "str") (.type "bool")=some false)
 (ki_si:PySem.W.kitOne K (.type "str") (.type "int")=some false)
 (t_reckoned:PySem.W.tabIn K "reckoned"=some (cc_reckoned,pp_reckoned)) (rr_reckoned:(PyProof.Rows.recsOf q).any (fun e=>e.name == "reckoned")=true)
 (t__law_by_parts:PySem.W.tabIn K "_law_by_parts"=some (cc__law_by_parts,pp__law_by_parts)) (rr__law_by_parts:(PyProof.Rows.recsOf q).any (fun e=>e.name == "_law_by_parts")=true)
 (t_law:PySem.W.tabIn K "law"=some (cc_law,pp_law)) (rr_law:(PyProof.Rows.recsOf q).any (fun e=>e.name == "law")=true)
 (nn_reckoned__law_by_parts:pp_reckoned≠pp__law_by_parts)
 (nn_reckoned_law:pp_reckoned≠pp_law)
 (nn__law_by_parts_law:pp__law_by_parts≠pp_law):
 ∃(fd:FuncData) (tabs:List (Addr×Addr)) (sp:Sp),(∀(s:Shared) (v:Value),BindsTo s fd ⟨[v],[]⟩ [("_law_script",v)])∧PySem.W.TabsAt tabs h∧(∀(H:Hp) (a:Addr) (ns:List Int),ns.length≤63→(∀ q∈tabs,H q.2=some (.tbl #[]))→Ax K H a (ns.map V.int)→sp [.ref a] H (fun v _=>v=.bl true) E0)∧∀ base:Heap,K.In base→base.Ns mainGlobals mg→(∀ q∈tabs,PySem.W.CodeHd base q.1 q.2)→BM mg base→Av l.prog w K mg base Bj 30 fa fd ["_law_script"] sp:=by
 have G:=T0.g
 refine LG fun X_ hX_=>?_
 obtain⟨f0,d0,D0,_⟩:=Aq X G C0 ["thing"] fun _ _ _ _ _ _ _=>rfl
 obtain⟨f1,d1,D1,_⟩:=Aq X G C1 ["one","other"] fun _ _ _ _ _ _ _ _=>rfl
 obtain⟨f2,d2,D2,_⟩:=Aq X G C2 ["top","bottom"] fun _ _ _ _ _ _ _ _=>rfl
 obtain⟨f3,d3,D3,_⟩:=Aq X G C3 ["top","bottom"] fun _ _ _ _ _ _ _ _=>rfl
 obtain⟨f4,d4,D4,_⟩:=Aq X G C4 ["a","b"] fun _ _ _ _ _ _ _ _=>rfl
 obtain⟨f5,d5,D5,_⟩:=Aq X G C5 ["a","b"] fun _ _ _ _ _ _ _ _=>rfl
 obtain⟨f6,d6,D6,_⟩:=Aq X G C6 ["a","b"] fun _ _ _ _ _ _ _ _=>rfl
 obtain⟨f7,d7,D7,_⟩:=Aq X G C7 ["a","b"] fun _ _ _ _ _ _ _ _=>rfl
 obtain⟨f8,d8,D8,_⟩:=Aq X G C8 ["a","b"] fun _ _ _ _ _ _ _ _=>rfl
 obtain⟨f9,d9,D9,_⟩:=Aq X G C9 ["thing"] fun _ _ _ _ _ _ _=>rfl
 obtain⟨f10,d10,D10,_⟩:=Aq X G C10 ["top","bottom"] fun _ _ _ _ _ _ _ _=>rfl
 obtain⟨f11,d11,D11,_⟩:=Aq X G C11 ["value"] fun _ _ _ _ _ _ _=>rfl
 obtain⟨f12,d12,D12,_⟩:=Aq X G C12 ["number","cell"] fun _ _ _ _ _ _ _ _=>rfl
 obtain⟨f13,d13,D13,_⟩:=Aq X G C13 ["sign","a","b","cell"] fun _ _ _ _ _ _ _ _ _ _=>rfl
 obtain⟨f14,d14,D14,_⟩:=Aq X G C14 ["cell"] fun _ _ _ _ _ _ _=>rfl
 obtain⟨f15,d15,D15,_⟩:=Aq X G C15 ["thing"] fun _ _ _ _ _ _ _=>rfl
 obtain⟨f16,d16,D16,_⟩:=Aq X G C16 ["top","bottom"] fun _ _ _ _ _ _ _ _=>rfl
 obtain⟨f17,d17,D17,_⟩:=Aq X G C17 ["value"] fun _ _ _ _ _ _ _=>rfl
 obtain⟨f18,d18,D18,_⟩:=Aq X G C18 ["value"] fun _ _ _ _ _ _ _=>rfl
 obtain⟨f19,d19,D19,_⟩:=Aq X G C19 ["one","other","cell"] fun _ _ _ _ _ _ _ _ _=>rfl
 obtain⟨f20,d20,D20,_⟩:=Aq X G C20 ["sign","one","other","cell"] fun _ _ _ _ _ _ _ _ _ _=>rfl
 obtain⟨f21,d21,D21,_⟩:=Aq X G C21 ["table"] fun _ _ _ _ _ _ _=>rfl
 obtain⟨f22,d22,D22,_⟩:=Aq X G C22 ["one","other"] fun _ _ _ _ _ _ _ _=>rfl
 obtain⟨f23,d23,D23,_⟩:=Aq X G C23 ["shape","value"] fun _ _ _ _ _ _ _ _=>rfl
 obtain⟨f24,d24,D24,_⟩:=Aq X G C24 ["table","shape"] fun _ _ _ _ _ _ _ _=>rfl
 obtain⟨f25,d25,D25,_⟩:=Aq X G C25 ["table"] fun _ _ _ _ _ _ _=>rfl
 obtain⟨f26,d26,D26,_⟩:=Aq X G C26 ["values"] fun _ _ _ _ _ _ _=>rfl
 obtain⟨f27,d27,D27,_⟩:=Aq X G C27 ["values"] fun _ _ _ _ _ _ _=>rfl
 obtain⟨f28,d28,D28,_⟩:=Aq X G C28 ["numbers"] fun _ _ _ _ _ _ _=>rfl
 obtain⟨f29,d29,D29,_⟩:=Aq X G C29 ["values","cell"] fun _ _ _ _ _ _ _ _=>rfl
 obtain⟨f30,d30,D30,_⟩:=Aq X G C30 ["table","cell"] fun _ _ _ _ _ _ _ _=>rfl
 obtain⟨f31,d31,D31,_⟩:=Aq X G C31 ["table"] fun _ _ _ _ _ _ _=>rfl
 obtain⟨f32,d32,D32,_⟩:=Aq X G C32 ["table","most"] fun _ _ _ _ _ _ _ _=>rfl
 obtain⟨f33,d33,D33,_⟩:=Aq X G C33 ["one","sign","value","other","cell"] fun _ _ _ _ _ _ _ _ _ _ _=>rfl
 obtain⟨f34,d34,D34,_⟩:=Aq X G C34 ["value","table"] fun _ _ _ _ _ _ _ _=>rfl
 obtain⟨f35,d35,D35,_⟩:=Aq X G C35 ["key","table","at","cell"] fun _ _ _ _ _ _ _ _ _ _=>rfl
 obtain⟨f36,d36,D36,_⟩:=Aq X G C36 ["condition","one","other","cell"] fun _ _ _ _ _ _ _ _ _ _=>rfl
 obtain⟨f37,d37,D37,_⟩:=Aq X G C37 ["values","wide"] fun _ _ _ _ _ _ _ _=>rfl
 obtain⟨f38,d38,D38,_⟩:=Aq X G C38 ["table"] fun _ _ _ _ _ _ _=>rfl
 obtain⟨f39,d39,D39,_⟩:=Aq X G C39 ["sign","one","other","cell"] fun _ _ _ _ _ _ _ _ _ _=>rfl
 obtain⟨f40,d40,D40,_⟩:=Aq X G C40 ["high","wide","first","step","cell"] fun _ _ _ _ _ _ _ _ _ _ _=>rfl
 obtain⟨f41,d41,D41,_⟩:=Aq X G C41 ["block"] fun _ _ _ _ _ _ _=>rfl
 obtain⟨f42,d42,D42,_⟩:=Aq X G C42 ["value"] fun _ _ _ _ _ _ _=>rfl
 obtain⟨f43,d43,D43,_⟩:=Aq X G C43 ["formula"] fun _ _ _ _ _ _ _=>rfl
 obtain⟨f44,d44,D44,_⟩:=Aq X G C44 ["reference"] fun _ _ _ _ _ _ _=>rfl
 obtain⟨f45,d45,D45,_⟩:=Aq X G C45 ["formula"] fun _ _ _ _ _ _ _=>rfl
 obtain⟨f46,d46,D46,_⟩:=Aq X G C46 ["row","tell_one"] fun _ _ _ _ _ _ _ _=>rfl
 obtain⟨f47,d47,D47,_⟩:=Aq X G C47 ["block"] fun _ _ _ _ _ _ _=>rfl
 obtain⟨f48,d48,D48,_⟩:=Aq X G C48 ["block","shows"] fun _ _ _ _ _ _ _ _=>rfl
 obtain⟨f49,d49,D49,_⟩:=Aq X G C49 ["leaf","cell","shows"] fun _ _ _ _ _ _ _ _ _=>rfl
 obtain⟨f50,d50,D50,_⟩:=Aq X G C50 ["value","outer"] fun _ _ _ _ _ _ _ _=>rfl
 obtain⟨f51,d51,D51,_⟩:=Aq X G C51 ["formula","tables","cell","outer"] fun _ _ _ _ _ _ _ _ _ _=>rfl
 obtain⟨f52,d52,D52,_⟩:=Aq X G C52 ["formula","tables","cell","shows","outer"] fun _ _ _ _ _ _ _ _ _ _ _=>rfl
 obtain⟨f53,d53,D53,_,E53⟩:=Aq X G C53 ["opened","cell","shows","outer"] fun _ _ _ _ _ _ _ _ _ _=>rfl
 obtain⟨f54,d54,D54,_⟩:=Aq X G C54 ["_law_top","_law_bottom"] fun _ _ _ _ _ _ _ _=>rfl
 obtain⟨f55,d55,D55,_⟩:=Aq X G C55 ["_law_script","_law_k"] fun _ _ _ _ _ _ _ _=>rfl
 obtain⟨f56,d56,D56,_⟩:=Aq X G C56 ["_law_script"] fun _ _ _ _ _ _ _=>rfl
 obtain⟨f57,d57,D57,_⟩:=Aq X G C57 ["_law_pen_here","_law_most"] fun _ _ _ _ _ _ _ _=>rfl
 obtain⟨f58,d58,D58,_⟩:=Aq X G C58 ["_law_pen_here"] fun _ _ _ _ _ _ _=>rfl
 obtain⟨f59,d59,D59,_⟩:=Aq X G C59 ["_law_pen_here"] fun _ _ _ _ _ _ _=>rfl
 obtain⟨f60,d60,D60,_⟩:=Aq X G C60 ["_law_pen_here"] fun _ _ _ _ _ _ _=>rfl
 obtain⟨f61,d61,D61,_⟩:=Aq X G C61 ["_law_pen_here","_law_high","_law_wide"] fun _ _ _ _ _ _ _ _ _=>rfl
 obtain⟨f62,d62,D62,_⟩:=Aq X G C62 ["_law_known","_law_sheet","_law_table","_law_high","_law_wide"] fun _ _ _ _ _ _ _ _ _ _ _=>rfl
 obtain⟨f63,d63,D63,_⟩:=Aq X G C63 ["_law_pen_here","_law_known","_law_sheet","_law_table"] fun _ _ _ _ _ _ _ _ _ _=>rfl
 obtain⟨f64,d64,D64,_⟩:=Aq X G C64 ["_law_told","_law_due"] fun _ _ _ _ _ _ _ _=>rfl
 obtain⟨f65,d65,D65,_⟩:=Aq X G C65 ["thing"] fun _ _ _ _ _ _ _=>rfl
 obtain⟨f66,d66,D66,_⟩:=Aq X G C66 ["thing","last"] fun _ _ _ _ _ _ _ _=>rfl
 obtain⟨f67,d67,D67,_⟩:=Aq X G C67 ["thing"] fun _ _ _ _ _ _ _=>rfl
 obtain⟨f68,d68,D68,_⟩:=Aq X G C68 ["thing"] fun _ _ _ _ _ _ _=>rfl
 obtain⟨f69,d69,D69,_⟩:=Aq X G C69 ["thing"] fun _ _ _ _ _ _ _=>rfl
 obtain⟨f70,d70,D70,_⟩:=Aq X G C70 ["_law_one"] fun _ _ _ _ _ _ _=>rfl
 obtain⟨f71,d71,D71,_⟩:=Aq X G C71 ["_law_pen_here","_law_known","_law_high","_law_wide"] fun _ _ _ _ _ _ _ _ _ _=>rfl
 obtain⟨f72,d72,D72,_⟩:=Aq X G C72 ["_law_pen_here","_law_known","_law_deep"] fun _ _ _ _ _ _ _ _ _=>rfl
 obtain⟨f73,d73,D73,_⟩:=Aq X G C73 ["_law_pen_here","_law_known","_law_high","_law_wide","_law_deep"] fun _ _ _ _ _ _ _ _ _ _ _=>rfl
 obtain⟨f74,d74,D74,_⟩:=Aq X G C74 ["_law_one"] fun _ _ _ _ _ _ _=>rfl
 obtain⟨f75,d75,D75,_,E75⟩:=Aq X G C75 ["_law_formula","_law_home","_law_known"] fun _ _ _ _ _ _ _ _ _=>rfl
 obtain⟨f76,d76,D76,BL,E76⟩:=Aq X G C76 ["_law_script"] fun _ _ _ _ _ _ _=>rfl
 have e:=hfa.symm.trans D76.gl
 cases e
 have T:Txt w K mg ⟨f0,d0,f1,d1,f2,d2,f3,d3,f4,d4,f5,d5,f6,d6,f7,d7,f8,d8,f9,d9,f10,d10,f11,d11,f12,d12,f13,d13,f14,d14,f15,d15,f16,d16,f17,d17,f18,d18,f19,d19,f20,d20,f21,d21,f22,d22,f23,d23,f24,d24,f25,d25,f26,d26,f27,d27,f28,d28,f29,d29,f30,d30,f31,d31,f32,d32,f33,d33,f34,d34,f35,d35,f36,d36,f37,d37,f38,d38,f39,d39,f40,d40,f41,d41,f42,d42,f43,d43,f44,d44,f45,d45,f46,d46,f47,d47,f48,d48,f49,d49,f50,d50,f51,d51,f52,d52,f53,d53,f54,d54,f55,d55,f56,d56,f57,d57,f58,d58,f59,d59,f60,d60,f61,d61,f62,d62,f63,d63,f64,d64,f65,d65,f66,d66,f67,d67,f68,d68,f69,d69,f70,d70,f71,d71,f72,d72,f73,d73,f74,d74,f75,d75,_,_,cc_reckoned,pp_reckoned,cc__law_by_parts,pp__law_by_parts,cc_law,pp_law⟩:=⟨D0,D1,D2,D3,D4,D5,D6,D7,D8,D9,D10,D11,D12,D13,D14,D15,D16,D17,D18,D19,D20,D21,D22,D23,D24,D25,D26,D27,D28,D29,D30,D31,D32,D33,D34,D35,D36,D37,D38,D39,D40,D41,D42,D43,D44,D45,D46,D47,D48,D49,D50,D51,D52,D53,D54,D55,D56,D57,D58,D59,D60,D61,D62,D63,D64,D65,D66,D67,D68,D69,D70,D71,D72,D73,D74,D75,D76,PySem.W.mg_none_of X G z_len,PySem.W.mg_none_of X G z_range,PySem.W.mg_none_of X G z_isinstance,PySem.W.mg_none_of X G z_int,PySem.W.mg_none_of X G z_bool,PySem.W.mg_none_of X G z_str,PySem.W.mg_none_of X G z_tuple,PySem.W.mg_none_of X G z_list,PySem.W.mg_none_of X G z_reversed,PySem.W.mg_none_of X G z_min,PySem.W.mg_none_of X G z_all,PySem.W.mg_none_of X G z_abs,PySem.W.mg_none_of X G z_enumerate,PySem.W.mg_none_of X G z_zip,PySem.W.mg_none_of X G z_max,(let ⟨k,d,p⟩:=r_PART_PLACES;⟨k,⟨_,PySem.W.mg_of X G g_PART_PLACES,_,h_PART_PLACES,d,n_PART_PLACES⟩,p⟩),⟨_,_,PySem.W.mg_of X G g_ONE_PLACE,h_ONE_PLACE,r_ONE_PLACE⟩,⟨_,PySem.W.mg_of X G g_GREATEST_WHOLE,r_GREATEST_WHOLE⟩,⟨_,PySem.W.mg_of X G g_SIGNS,r_SIGNS⟩,⟨_,PySem.W.mg_of X G g_MOST_SIGNS,r_MOST_SIGNS⟩,⟨_,PySem.W.mg_of X G g_COLUMN_LETTERS,r_COLUMN_LETTERS⟩,⟨_,_,PySem.W.mg_of X G g_NOUGHT,h_NOUGHT,r_NOUGHT⟩,⟨_,PySem.W.mg_of X G g_LETTERS,r_LETTERS⟩,⟨_,PySem.W.mg_of X G g_LONGEST_NAME,r_LONGEST_NAME⟩,⟨_,PySem.W.mg_of X G g_LAST_ROW,r_LAST_ROW⟩,⟨_,PySem.W.mg_of X G g_LAST_COLUMN,r_LAST_COLUMN⟩,⟨_,_,PySem.W.mg_of X G g_FAULTS,h_FAULTS,r_FAULTS⟩,kist,kiit,kib,ki_bt,ki_sb,ki_si,E53 _ _ t_reckoned,E75 _ _ t__law_by_parts,E76 _ _ t_law,nn_reckoned__law_by_parts,nn_reckoned_law,nn__law_by_parts_law⟩
 refine hX_ ?_
 have x_reckoned:PySem.W.CodeHd h cc_reckoned pp_reckoned∧h.get? pp_reckoned=some (PySem.W.tabObj #[]):=by
  obtain⟨d,hd⟩:=NZ rr_reckoned
  exact PySem.W.tab_of T0 X hd t_reckoned
 have x__law_by_parts:PySem.W.CodeHd h cc__law_by_parts pp__law_by_parts∧h.get? pp__law_by_parts=some (PySem.W.tabObj #[]):=by
  obtain⟨d,hd⟩:=NZ rr__law_by_parts
  exact PySem.W.tab_of T0 X hd t__law_by_parts
 have x_law:PySem.W.CodeHd h cc_law pp_law∧h.get? pp_law=some (PySem.W.tabObj #[]):=by
  obtain⟨d,hd⟩:=NZ rr_law
  exact PySem.W.tab_of T0 X hd t_law
 refine⟨_,[(cc_reckoned,pp_reckoned),(cc__law_by_parts,pp__law_by_parts),(cc_law,pp_law)],RZ K pp_reckoned pp__law_by_parts pp_law,fun s v=>.of_eq (BL [v] rfl),(List.forall_mem_cons.mpr ⟨x_reckoned,(List.forall_mem_cons.mpr ⟨x__law_by_parts,(List.forall_mem_cons.mpr ⟨x_law,List.forall_mem_nil _⟩)⟩)⟩),fun H a ns hl hT hS=>⟨a,ns,rfl,hS,hl,hT (cc_reckoned,pp_reckoned) (by simp),hT (cc__law_by_parts,pp__law_by_parts) (by simp),hT (cc_law,pp_law) (by simp),fun _=>rfl⟩,fun base _ _ hC hB=>VH T hC hB⟩
theorem Y4 {l:PySem.W.OpenLaw}{q:Program}{loose:List Str}{XP:(Str→Option Value)→Heap→Prop}{YP:World→Heap→Prop}{d:DefRec}{K:Params→PySem.W.Frag}(hn:l.most=some 63)(hdf:d.params.defaults=[])
 (hY:∀(w:World) (h:Heap),YP w h→(K w.params).In h) (hKT:∀ w:World,PySem.W.noTabs (K w.params)=true)
 (F:∀(w:World) (mean:ExcName→Option Value) (mg mb:Str→Option Value) (fa:Addr) (h:Heap),(K w.params).In h→PyProof.Rows.Top q (PySem.W.looseW q loose) mean mg mb h→mg d.name=some (.ref fa)→
  ∃(fd:FuncData) (tabs:List (Addr×Addr)) (sp:Sp),(∀(s:Shared) (v:Value),BindsTo s fd ⟨[v],[]⟩ [("_law_script",v)])∧PySem.W.TabsAt tabs h∧(∀(H:Hp) (a:Addr) (ns:List Int),ns.length≤63→(∀ q∈tabs,H q.2=some (.tbl #[]))→Ax (K w.params) H a (ns.map V.int)→sp [.ref a] H (fun v _=>v=.bl true) E0)∧∀ base:Heap,(K w.params).In base→base.Ns mainGlobals mg→(∀ q∈tabs,PySem.W.CodeHd base q.1 q.2)→BM mg base→Av l.prog w (K w.params) mg base Bj 30 fa fd ["_law_script"] sp):
 PySem.W.WalkO q loose XP YP l.row.toRowW d [] (fun f vs=>PySem.call f vs):=
 L2.Qj (n:=63) (k:=30) (x:="_law_script") hn (by decide) hdf ⟨rfl,by decide,by decide⟩ hY hKT F
end Fs
open PySem PySem.W PyProof.Rows
set_option maxRecDepth 100000 in
set_option maxHeartbeats 0 in
theorem PySem.Challenge.cw_freshsheet_k37_whole_reckoned_part_by_pa_holds : PySem.Challenge.rw_freshsheet_k37_whole_reckoned_part_by_pa.Holds := by
 w_on;o_law
 refine holds_open (r:=OpenLaw.row PySem.Challenge.rw_freshsheet_k37_whole_reckoned_part_by_pa) (q:=Hw.qv) (loose:=Hw.lo) (Xt:=Hw.Xv) (XP:=XL Hw.qv []) (Yf:=Hook.obs (kHook Hw.pack.heap_1 Hw.hAs Hw.hAs_eq)) (Ya:=Hook.val (kHook Hw.pack.heap_1 Hw.hAs Hw.hAs_eq)) (YP:=Hook.says (kHook Hw.pack.heap_1 Hw.hAs Hw.hAs_eq)) (N:=Hw.N0) Hw.left (Hook.of (kHook Hw.pack.heap_1 Hw.hAs Hw.hAs_eq)) (Hook.keeps (kHook Hw.pack.heap_1 Hw.hAs Hw.hAs_eq)) (fun s e=>xl_of s (Bool.and_eq_true_iff.mp e).1) XL.keeps (by rfl) (by rfl) (by rfl) (fun s e=>recFacts_of (Bool.and_eq_true_iff.mp e).2) (by rfl) (by first | assumption | decide +kernel) (by decide +kernel) ⟨rfl,rfl,rfl,rfl,rfl,by decide +kernel⟩ ?hw ?hc
 case hw=>w_witness2
 k_fill
 refine Fs.Y4 (l:=PySem.Challenge.rw_freshsheet_k37_whole_reckoned_part_by_pa) rfl rfl (fun w h Y=>PySem.W.kIn_of Y) (fun w=>by kernel_rfl) ?F
 case F=>
  intro w mean mg mb fa h KX T0 hmg
  apply Fs.VI KX T0 hmg
  iterate 77 (apply Fs.Xl;k_is;k_is;k_is;k_is)
  (case z_len=>k_is)
  (case z_range=>k_is)
  (case z_isinstance=>k_is)
  (case z_int=>k_is)
  (case z_bool=>k_is)
  (case z_str=>k_is)
  (case z_tuple=>k_is)
  (case z_list=>k_is)
  (case z_reversed=>k_is)
  (case z_min=>k_is)
  (case z_all=>k_is)
  (case z_abs=>k_is)
  (case z_enumerate=>k_is)
  (case z_zip=>k_is)
  (case z_max=>k_is)
  (case g_PART_PLACES=>k_is)
  (case h_PART_PLACES=>k_is)
  (case r_PART_PLACES=>exact⟨[(Sum.inr (Str.ofString "op"),L2.V.ref _),(Sum.inr (Str.ofString "neg"),L2.V.ref _),(Sum.inr (Str.ofString "if"),L2.V.ref _),(Sum.inr (Str.ofString "sum"),L2.V.ref _),(Sum.inr (Str.ofString "count"),L2.V.ref _),(Sum.inr (Str.ofString "least"),L2.V.ref _),(Sum.inr (Str.ofString "most"),L2.V.ref _),(Sum.inr (Str.ofString "sumif"),L2.V.ref _),(Sum.inr (Str.ofString "find"),L2.V.ref _),(Sum.inr (Str.ofString "turn"),L2.V.ref _),(Sum.inr (Str.ofString "stack"),L2.V.ref _),(Sum.inr (Str.ofString "grid"),L2.V.ref _),(Sum.inr (Str.ofString "outer"),L2.V.ref _)],⟨⟨rfl,rfl,rfl⟩,_,_,rfl,.cons ⟨rfl,rfl,rfl⟩ (.cons ⟨rfl,rfl,rfl⟩ (.cons ⟨rfl,rfl,rfl⟩ (.cons ⟨rfl,rfl,rfl⟩ (.cons ⟨rfl,rfl,rfl⟩ (.cons ⟨rfl,rfl,rfl⟩ (.cons ⟨rfl,rfl,rfl⟩ (.cons ⟨rfl,rfl,rfl⟩ (.cons ⟨rfl,rfl,rfl⟩ (.cons ⟨rfl,rfl,rfl⟩ (.cons ⟨rfl,rfl,rfl⟩ (.cons ⟨rfl,rfl,rfl⟩ (.cons ⟨rfl,rfl,rfl⟩ (.nil))))))))))))),by decide⟩,.cons ⟨rfl,_,rfl,fun _=>.inr ⟨_,_,_,(by k_is),rfl,rfl,by decide,.cons ⟨_,rfl⟩ (.cons ⟨_,rfl⟩ (.nil))⟩⟩ (.cons ⟨rfl,_,rfl,fun _=>.inr ⟨_,_,_,(by k_is),rfl,rfl,by decide,.cons ⟨_,rfl⟩ (.nil)⟩⟩ (.cons ⟨rfl,_,rfl,fun _=>.inr ⟨_,_,_,(by k_is),rfl,rfl,by decide,.cons ⟨_,rfl⟩ (.cons ⟨_,rfl⟩ (.cons ⟨_,rfl⟩ (.nil)))⟩⟩ (.cons ⟨rfl,_,rfl,fun _=>.inr ⟨_,_,_,(by k_is),rfl,rfl,by decide,.cons ⟨_,rfl⟩ (.nil)⟩⟩ (.cons ⟨rfl,_,rfl,fun _=>.inr ⟨_,_,_,(by k_is),rfl,rfl,by decide,.cons ⟨_,rfl⟩ (.nil)⟩⟩ (.cons ⟨rfl,_,rfl,fun _=>.inr ⟨_,_,_,(by k_is),rfl,rfl,by decide,.cons ⟨_,rfl⟩ (.nil)⟩⟩ (.cons ⟨rfl,_,rfl,fun _=>.inr ⟨_,_,_,(by k_is),rfl,rfl,by decide,.cons ⟨_,rfl⟩ (.nil)⟩⟩ (.cons ⟨rfl,_,rfl,fun _=>.inr ⟨_,_,_,(by k_is),rfl,rfl,by decide,.cons ⟨_,rfl⟩ (.cons ⟨_,rfl⟩ (.cons ⟨_,rfl⟩ (.nil)))⟩⟩ (.cons ⟨rfl,_,rfl,fun _=>.inr ⟨_,_,_,(by k_is),rfl,rfl,by decide,.cons ⟨_,rfl⟩ (.cons ⟨_,rfl⟩ (.cons ⟨_,rfl⟩ (.nil)))⟩⟩ (.cons ⟨rfl,_,rfl,fun _=>.inr ⟨_,_,_,(by k_is),rfl,rfl,by decide,.cons ⟨_,rfl⟩ (.nil)⟩⟩ (.cons ⟨rfl,_,rfl,fun _=>.inr ⟨_,_,_,(by k_is),rfl,rfl,by decide,.cons ⟨_,rfl⟩ (.cons ⟨_,rfl⟩ (.nil))⟩⟩ (.cons ⟨rfl,_,rfl,fun _=>.inr ⟨_,_,_,(by k_is),rfl,rfl,by decide,.cons ⟨_,rfl⟩ (.cons ⟨_,rfl⟩ (.nil))⟩⟩ (.cons ⟨rfl,_,rfl,fun _=>.inr ⟨_,_,_,(by k_is),rfl,rfl,by decide,.cons ⟨_,rfl⟩ (.nil)⟩⟩ (.nil)))))))))))))⟩)
  (case n_PART_PLACES=>decide)
  (case g_ONE_PLACE=>k_is)
  (case h_ONE_PLACE=>k_is)
  (case r_ONE_PLACE=>exact⟨rfl,_,_,rfl,by decide,.cons ⟨_,rfl⟩ (.cons ⟨_,rfl⟩ (.nil))⟩)
  (case g_GREATEST_WHOLE=>k_is)
  (case r_GREATEST_WHOLE=>first | exact⟨_,rfl⟩ | exact⟨_,by decide +kernel⟩)
  (case g_SIGNS=>k_is)
  (case r_SIGNS=>first | exact⟨_,rfl⟩ | exact⟨_,by decide +kernel⟩)
  (case g_MOST_SIGNS=>k_is)
  (case r_MOST_SIGNS=>first | exact⟨_,rfl⟩ | exact⟨_,by decide +kernel⟩)
  (case g_COLUMN_LETTERS=>k_is)
  (case r_COLUMN_LETTERS=>first | exact⟨_,rfl⟩ | exact⟨_,by decide +kernel⟩)
  (case g_NOUGHT=>k_is)
  (case h_NOUGHT=>k_is)
  (case r_NOUGHT=>exact⟨rfl,_,_,rfl,by decide,.cons ⟨_,rfl⟩ (.cons ⟨_,rfl⟩ (.cons ⟨_,rfl⟩ (.nil)))⟩)
  (case g_LETTERS=>k_is)
  (case r_LETTERS=>first | exact⟨_,rfl⟩ | exact⟨_,by decide +kernel⟩)
  (case g_LONGEST_NAME=>k_is)
  (case r_LONGEST_NAME=>first | exact⟨_,rfl⟩ | exact⟨_,by decide +kernel⟩)
  (case g_LAST_ROW=>k_is)
  (case r_LAST_ROW=>first | exact⟨_,rfl⟩ | exact⟨_,by decide +kernel⟩)
  (case g_LAST_COLUMN=>k_is)
  (case r_LAST_COLUMN=>first | exact⟨_,rfl⟩ | exact⟨_,by decide +kernel⟩)
  (case g_FAULTS=>k_is)
  (case h_FAULTS=>k_is)
  (case r_FAULTS=>exact⟨rfl,_,_,rfl,by decide,.cons ⟨_,rfl⟩ (.cons ⟨_,rfl⟩ (.cons ⟨_,rfl⟩ (.cons ⟨_,rfl⟩ (.cons ⟨_,rfl⟩ (.cons ⟨_,rfl⟩ (.cons ⟨_,rfl⟩ (.cons ⟨_,rfl⟩ (.cons ⟨_,rfl⟩ (.nil)))))))))⟩)
  (case kist=>kit_is)
  (case kiit=>kit_is)
  (case kib=>kit_is)
  (case ki_bt=>kit_is)
  (case ki_sb=>kit_is)
  (case ki_si=>kit_is)
  (case t_reckoned=>exact(show PySem.W.tabIn _ _=some (450,446)by kernel_rfl))
  (case rr_reckoned=>decide +kernel)
  (case t__law_by_parts=>exact(show PySem.W.tabIn _ _=some (568,564)by kernel_rfl))
  (case rr__law_by_parts=>decide +kernel)
  (case t_law=>exact(show PySem.W.tabIn _ _=some (573,571)by kernel_rfl))
  (case rr_law=>decide +kernel)
  (case nn_reckoned__law_by_parts=>decide +kernel)
  (case nn_reckoned_law=>decide +kernel)
  (case nn__law_by_parts_law=>decide +kernel)
