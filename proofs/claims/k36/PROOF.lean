import PyProof.Rows.All
import Wide.All
import OpenK.AllK
import Wide.FinOn
import Lean
import PyProof.EqAt
import PyProof.EqKinds
import PyProof.TupleCall
import PySem.Challenge.RW_freshsheet_k36_faults_and_the_outside
set_option Elab.async false
set_option linter.all false
set_option maxRecDepth 100000
set_option maxHeartbeats 4000000
namespace Hw
open PySem PySem.W PyProof.Rows PySem.Calls
def topRunT (tb:String→Option Builtin)(p:Program)(w:World)(n₀:Nat)(ann:Option Value):Nat→SharedT→Thread→Option SharedT
  | 0,_,_=>none
  | n+1,s,t=>match through t with
    | true=>some s
    | false=>match stepOk n₀ ann t with
      | false=>none
      | true=>match stepT (denote tb) p w s t with
        | some (s',t')=>topRunT tb p w n₀ ann n s' t'
        | none=>none
theorem topRun_ofT {tb:String→Option Builtin}{p:Program}{w:World}{n₀:Nat}{ann:Option Value}:∀ {n:Nat} {s s':SharedT} {t:Thread},topRunT tb p w n₀ ann n s t=some s'→topRun tb p w n₀ ann n s.abs t=some s'.abs
  | 0,_,_,_,h=>by cases h
  | n+1,s,s',t,h=>by
    unfold topRunT at h
    unfold topRun
    cases he:through t with
    | true=>rw [he] at h;cases h;rfl
    | false=>
      rw [he] at h
      cases hk:stepOk n₀ ann t with
      | false=>rw [hk] at h;cases h
      | true=>
        rw [hk] at h
        cases hs:stepT (denote tb) p w s t with
        | none=>rw [hs] at h;cases h
        | some r=>obtain ⟨s₂,t₂⟩:=r;rw [hs] at h;rw [stepT_spec hs];exact topRun_ofT h
def toBT:List Obj→Nat→BT→BT
  | [],_,t=>t
  | o::r,n,t=>toBT r (n+1) (t.ins n o)
noncomputable def bootT (P:Params):BT:=toBT (boot_heap P).objs.toList 0 .nil
noncomputable def bootS (w:World)(os:OsState):SharedT:=⟨bootT w.params,(boot_heap w.params).objs.size,(boot_heap w.params).life,Array.mk [],boot_drawn,boot_toks,os⟩
theorem bootT_abs (P:Params):absHeap (bootT P) (boot_heap P).objs.size (boot_heap P).life=boot_heap P:=by kernel_rfl
theorem boot_size (w:World):((boot_heap w.params).isNs mainGlobals&&(Array.mk []:Array GenState).size==0,(boot_heap w.params).objs.size,(boot_heap w.params).nsMap mainGlobals "__annotations__")=(true,11,some (.ref 6)):=by kernel_rfl
noncomputable def tops (p:Program)(N:Nat)(w:World)(os:OsState):Option SharedT:=topRunT treeTable p w 11 (some (.ref 6)) N (bootS w os) (topStub p)
def look1 (p:Program)(h:Heap)(s:Shared):Bool:=staticsOk (importedModules p.main.body) h s.heap&&namesBound p s.heap&&gensDone s&&laidKept h s.heap
def look3 (q:Program)(loose mods:List Str)(Xt:Shared→Bool)(g0:Bool)(s:Shared):Bool:=(openSeen q loose mods Xt g0 s).2.2.1
theorem left_whole {p q:Program}{loose:List Str}{Xt:Shared→Bool}{α:Type}{Yf:Shared→α}{Ya:World→α}{N:Nat}{g0:Bool}
    (e:opening p=plainProg p.main.scope.names) (hN:Nat.ble 600 N=true) (f:∀ s,fenceModules? p s=some s)
    (run1:∀ (w:World) (os:OsState),(tops p N w os).map (fun s=>(look1 p (boot_heap w.params) s.abs,s.abs.heap.bltView,tabsOk q s.abs))=some (true,bltViewBooted,true))
    (run2:∀ (w:World) (os:OsState),(tops p N w os).map (fun s=>seen ((recsOf q).map (·.name)) (ownsOf q) [] { s.abs with gens:=#[] })=some (expectedOf q))
    (run3:∀ (w:World) (os:OsState),(tops p N w os).map (fun s=>look3 q loose (importedModules p.main.body) Xt g0 s.abs)=some true)
    (run4:∀ (w:World) (os:OsState),(tops p N w os).map (fun s=>(pinSeenD q (drecsOf q) s.abs,plainSeenE q (looseW q loose) s.abs,plainSeenD q loose s.abs,wideSeen q s.abs,clsSeenW q loose s.abs))=some (pinGoodD (drecsOf q),plainGoodE q (looseW q loose),plainGoodD q loose,wideGood q,clsGoodW q loose))
    (run5:∀ (w:World) (os:OsState),(tops p N w os).map (fun s=>Yf s.abs)=some (Ya w)):LeftO p q loose Xt Yf Ya N g0:=fun w=>by
  obtain ⟨⟨h,gs,d,k,os⟩,e1,e'⟩:=Option.map_eq_some_iff.mp (boot_open e hN f w)
  obtain ⟨rfl,rfl,rfl,rfl⟩:h=boot_heap w.params∧gs=Array.mk []∧d=boot_drawn∧k=boot_toks:=by simpa using e'
  obtain ⟨z1,z2,z3⟩:_∧_∧_:=by simpa only [Prod.mk.injEq] using boot_size w
  obtain ⟨s',hs,l1⟩:=Option.map_eq_some_iff.mp (run1 w os)
  have l2:=run2 w os
  have l3:=run3 w os
  have l4:=run4 w os
  have l5:=run5 w os
  rw [hs] at l2 l3 l4 l5
  replace l2:=Option.some.inj l2
  replace l3:=Option.some.inj l3
  replace l4:=Option.some.inj l4
  replace l5:=Option.some.inj l5
  dsimp only at l1 l2 l3 l4 l5
  obtain ⟨l1,l6,l7⟩:_∧_∧_:=by simpa only [Prod.mk.injEq] using l1
  have l8:openSeen q loose (importedModules p.main.body) Xt g0 s'.abs=openGood q loose:=Prod.ext l2 (Prod.ext l6 (Prod.ext l3 (Prod.ext l7 l4)))
  have r:=topRun_ofT hs
  have hb:(bootS w os).abs=⟨boot_heap w.params,Array.mk [],boot_drawn,boot_toks,os⟩:=by
    show Shared.mk _ _ _ _ _=_
    rw [show absHeap (bootS w os).tree (bootS w os).n (bootS w os).life=boot_heap w.params from bootT_abs w.params]
    rfl
  rw [hb] at r
  have t:topFrom treeTable p w N ⟨boot_heap w.params,Array.mk [],boot_drawn,boot_toks,os⟩=some s'.abs:=by
    unfold topFrom
    dsimp only
    rw [z1,z2,z3,r]
    show (match look1 p (boot_heap w.params) s'.abs with | true=>some s'.abs | false=>none)=_
    rw [l1]
  unfold openEnds
  rw [e1]
  show (topFrom treeTable p w N _).map _=_
  rw [t]
  exact congrArg some (Prod.ext l8 l5)
end Hw
namespace Hw
open PySem PySem.W PyProof.Rows PySem.Calls
abbrev pw:=PySem.Challenge.pw_freshsheet_k36_faults_and_the_outside
abbrev lw:=PySem.Challenge.rw_freshsheet_k36_faults_and_the_outside
section
local macro_rules | `(tactic| o_head $H)=>do let f:=Lean.mkIdent `foo;`(tactic| exact $f $H)
theorem pack (foo:PySem.W.Hook→(OpenLaw.row lw).Holds):(OpenLaw.row lw).Holds:=by k_head
end
def hAs:List Addr:=[2,3,15,22,23,24,25,28,35,36,37,40,42,43,45,46,47,49,50,52,53,54,56,57,59,60,61,63,64,66,67,68,70,71,73,74,75,77,78,80,81,82,84,85,87,88,89,91,92,94,95,96,98,99,101,102,103,105,106,108,109,110,112,113,115,116,117,119,120,122,123,124,126,127,129,130,131,134,135,136,138,139,141,142,143,145,146,148,149,150,151,153,154,156,157,158,160,161,163,164,165,167,168,170,171,172,174,175,177,178,179,181,182,184,185,186,188,189,191,192,193,195,196,198,199,200,202,203,205,206,207,209,210,212,213,214,216,217,219,220,221,223,224,226,227,228,231,232,233,236,237,238,240,241,243,244,245,248,249,250,252,253,255,256,257,259,260,262,263,264,266,267,269,270,271,273,274,276,277,278,280,281,283,284,285,287,288,290,291,292,294,295,297,298,299,301,302,304,305,306,307,308,309,310,311,312,313,314,315,316,317,318,319,320,323,324,325,327,328,330,331,332,334,335,337,338,339,341,342,344,345,346,347,349,350,352,353,354,356,357,359,360,361,364,365,366,368,369,371,372,373,376,377,378,380,381,383,384,385,388,389,390,392,393,395,396,397,399,400,402,403,404,406,407,409,410,411,413,414,416,417,418,420,421,423,424,425,427,428,430,431,432,434,435,437,438,439,441,442,444,445,446,448,449,451,452,453,455,456,458,459,460,462,463,465,466,472,474,475,477,478,479,481,482,484,485,486,489,490,496,498,499,501,502,503,505,506,508,509,510,512,513,515,516,517,520,521,522,524,525,527,528,529,531,532,534,535,536,538,539,541,542,543,546,547]
theorem hAs_eq:∀ P,hAs=(pack.heap_1 P).map (·.1):=fun _=>by kernel_rfl
def qv:Program:=view pw [1,2,4,5,6,7,8,9,10,11,12,14,15,16,18,19,20,21,22,23,24,25,27,28,29,30,31,32,33,35,36,37,38,39,40,41,43,44,45,46,47,48,49,50,51,52,54,55,56,57,58,60,61,62,64,65,66,67,68,69,70,71,72,74,75,76,77,78,79,80,81,82,83,84,85,86,87,88,89,90,91,92,93]
def Xv:Shared→Bool:=fun s=>xlAt qv [] s&&recOk (RowW.records (OpenRow.toRowW (OpenLaw.row lw))) s
abbrev N0:Nat:=5000
abbrev lo:List PySem.Str:=[PySem.Str.ofString "PART_PLACES"]
noncomputable def lhs1 (w:World)(os:OsState):=(tops pw N0 w os).map (fun s=>(look1 pw (boot_heap w.params) s.abs,s.abs.heap.bltView,tabsOk qv s.abs))
theorem lhs1_self:lhs1=lhs1:=rfl
name_quick hw1 for Hw.lhs1 by Hw.lhs1_self
set_option maxHeartbeats 0 in
theorem run1f:∀ (w:World) (os:OsState),PySem.W.Fast.hw1 (w.withFollow "special-get-raises" false) os=some (true,bltViewBooted,true):=by
  intro w os
  kernel_rfl
set_option maxHeartbeats 0 in
theorem run1t:∀ (w:World) (os:OsState),PySem.W.Fast.hw1 (w.withFollow "special-get-raises" true) os=some (true,bltViewBooted,true):=by
  intro w os
  kernel_rfl
theorem run1:∀ w os,PySem.W.Fast.hw1 w os=some (true,bltViewBooted,true):=fun w=>PySem.W.byRow2 "special-get-raises" (P:=fun w=>∀ os,PySem.W.Fast.hw1 w os=some (true,bltViewBooted,true)) run1f run1t w
noncomputable def lhs2 (w:World)(os:OsState):=(tops pw N0 w os).map (fun s=>seen ((recsOf qv).map (·.name)) (ownsOf qv) [] { s.abs with gens:=#[] })
theorem lhs2_self:lhs2=lhs2:=rfl
name_quick hw2 for Hw.lhs2 by Hw.lhs2_self
noncomputable def rhs2:=expectedOf qv
theorem rhs2_self:rhs2=rhs2:=rfl
name_quick hg2 for Hw.rhs2 by Hw.rhs2_self
set_option maxHeartbeats 0 in
theorem run2f:∀ (w:World) (os:OsState),PySem.W.Fast.hw2 (w.withFollow "special-get-raises" false) os=some (PySem.W.Fast.hg2):=by
  intro w os
  kernel_rfl
set_option maxHeartbeats 0 in
theorem run2t:∀ (w:World) (os:OsState),PySem.W.Fast.hw2 (w.withFollow "special-get-raises" true) os=some (PySem.W.Fast.hg2):=by
  intro w os
  kernel_rfl
theorem run2:∀ w os,PySem.W.Fast.hw2 w os=some (PySem.W.Fast.hg2):=fun w=>PySem.W.byRow2 "special-get-raises" (P:=fun w=>∀ os,PySem.W.Fast.hw2 w os=some (PySem.W.Fast.hg2)) run2f run2t w
noncomputable def lhs3 (w:World)(os:OsState):=(tops pw N0 w os).map (fun s=>look3 qv lo (importedModules pw.main.body) Xv true s.abs)
theorem lhs3_self:lhs3=lhs3:=rfl
name_quick hw3 for Hw.lhs3 by Hw.lhs3_self
set_option maxHeartbeats 0 in
theorem run3f:∀ (w:World) (os:OsState),PySem.W.Fast.hw3 (w.withFollow "special-get-raises" false) os=some (true):=by
  intro w os
  kernel_rfl
set_option maxHeartbeats 0 in
theorem run3t:∀ (w:World) (os:OsState),PySem.W.Fast.hw3 (w.withFollow "special-get-raises" true) os=some (true):=by
  intro w os
  kernel_rfl
theorem run3:∀ w os,PySem.W.Fast.hw3 w os=some (true):=fun w=>PySem.W.byRow2 "special-get-raises" (P:=fun w=>∀ os,PySem.W.Fast.hw3 w os=some (true)) run3f run3t w
noncomputable def lhs4 (w:World)(os:OsState):=(tops pw N0 w os).map (fun s=>(pinSeenD qv (drecsOf qv) s.abs,plainSeenE qv (looseW qv lo) s.abs,plainSeenD qv lo s.abs,wideSeen qv s.abs,clsSeenW qv lo s.abs))
theorem lhs4_self:lhs4=lhs4:=rfl
name_quick hw4 for Hw.lhs4 by Hw.lhs4_self
noncomputable def rhs4:=(pinGoodD (drecsOf qv),plainGoodE qv (looseW qv lo),plainGoodD qv lo,wideGood qv,clsGoodW qv lo)
theorem rhs4_self:rhs4=rhs4:=rfl
name_quick hg4 for Hw.rhs4 by Hw.rhs4_self
set_option maxHeartbeats 0 in
theorem run4f:∀ (w:World) (os:OsState),PySem.W.Fast.hw4 (w.withFollow "special-get-raises" false) os=some (PySem.W.Fast.hg4):=by
  intro w os
  kernel_rfl
set_option maxHeartbeats 0 in
theorem run4t:∀ (w:World) (os:OsState),PySem.W.Fast.hw4 (w.withFollow "special-get-raises" true) os=some (PySem.W.Fast.hg4):=by
  intro w os
  kernel_rfl
theorem run4:∀ w os,PySem.W.Fast.hw4 w os=some (PySem.W.Fast.hg4):=fun w=>PySem.W.byRow2 "special-get-raises" (P:=fun w=>∀ os,PySem.W.Fast.hw4 w os=some (PySem.W.Fast.hg4)) run4f run4t w
noncomputable def lhs5 (w:World)(os:OsState):=(tops pw N0 w os).map (fun s=>hAs.map s.abs.heap.get?)
theorem lhs5_self:lhs5=lhs5:=rfl
name_quick hw5 for Hw.lhs5 by Hw.lhs5_self
set_option maxHeartbeats 0 in
theorem run5f:∀ (w:World) (os:OsState),PySem.W.Fast.hw5 (w.withFollow "special-get-raises" false) os=some ((pack.heap_1 (w.withFollow "special-get-raises" false).params).map fun p=>some p.2):=by
  intro w os
  kernel_rfl
set_option maxHeartbeats 0 in
theorem run5t:∀ (w:World) (os:OsState),PySem.W.Fast.hw5 (w.withFollow "special-get-raises" true) os=some ((pack.heap_1 (w.withFollow "special-get-raises" true).params).map fun p=>some p.2):=by
  intro w os
  kernel_rfl
theorem run5:∀ w os,PySem.W.Fast.hw5 w os=some ((pack.heap_1 w.params).map fun p=>some p.2):=fun w=>PySem.W.byRow2 "special-get-raises" (P:=fun w=>∀ os,PySem.W.Fast.hw5 w os=some ((pack.heap_1 w.params).map fun p=>some p.2)) run5f run5t w
theorem q_open:opening pw=plainProg pw.main.scope.names:=by kernel_rfl
theorem q_fence:∀ s,fenceModules? pw s=some s:=fun s=>by kernel_rfl
theorem left:LeftO pw qv lo Xv (Hook.obs (kHook pack.heap_1 hAs hAs_eq)) (Hook.val (kHook pack.heap_1 hAs hAs_eq)) N0 true:=
  left_whole q_open rfl q_fence (fun w os=>(congrFun (congrFun PySem.W.Fast.hw1_eq w) os).trans (run1 w os))
    (fun w os=>((congrFun (congrFun PySem.W.Fast.hw2_eq w) os).trans (run2 w os)).trans (congrArg some PySem.W.Fast.hg2_eq.symm))
    (fun w os=>(congrFun (congrFun PySem.W.Fast.hw3_eq w) os).trans (run3 w os))
    (fun w os=>((congrFun (congrFun PySem.W.Fast.hw4_eq w) os).trans (run4 w os)).trans (congrArg some PySem.W.Fast.hg4_eq.symm))
    (fun w os=>(congrFun (congrFun PySem.W.Fast.hw5_eq w) os).trans (run5 w os))
end Hw
set_option Elab.async false
set_option linter.all false
set_option maxRecDepth 100000
namespace L2
open PySem PySem.Spec PyProof.Rows
abbrev Key:=Sum Int Str
def ZHg:Key→Value→Bool
  | .inl k,v=>Value.isInt k v
  | .inr x,v=>Value.isStrOf x v
def ZRU (w:World):Key→Int
  | .inl k=>hashInt k
  | .inr x=>hashStr w x
theorem ZBG:∀ {k:Key} {v:Value},ZHg k v=true→(∃ i t,k=Sum.inl i∧v=Value.int i t)∨(∃ x t,k=Sum.inr x∧v=Value.str x t)
  | .inl i,v,h=>by
    obtain ⟨t,e⟩:=Value.isInt_shape (k:=i) (v:=v) h
    exact .inl ⟨i,t,rfl,e⟩
  | .inr x,v,h=>by
    obtain ⟨t,e⟩:=Value.isStrOf_shape (x:=x) (v:=v) h
    exact .inr ⟨x,t,rfl,e⟩
theorem ZJU (i:Int)(t:Tok):ZHg (.inl i) (.int i t)=true:=by simp [ZHg,Value.isInt]
theorem ZJV (x:Str)(t:Tok):ZHg (.inr x) (.str x t)=true:=by simp [ZHg,Value.isStrOf]
theorem ZNv (a b:Int):decide ((Sum.inl a:Key)=Sum.inl b)=(a==b):=by
  by_cases e:a=b
  · subst e;simp
  · have h:¬ (Sum.inl a:Key)=Sum.inl b:=fun q=>e (Sum.inl.inj q)
    rw [decide_eq_false h]
    exact (beq_eq_false_iff_ne.mpr e).symm
theorem ZNw (a b:Str):decide ((Sum.inr a:Key)=Sum.inr b)=decide (a=b):=by
  by_cases e:a=b
  · subst e;simp
  · have h:¬ (Sum.inr a:Key)=Sum.inr b:=fun q=>e (Sum.inr.inj q)
    rw [decide_eq_false h,decide_eq_false e]
theorem ZNx (a:Int)(b:Str):decide ((Sum.inl a:Key)=Sum.inr b)=false:=decide_eq_false (fun q=>nomatch q)
theorem ZNy (a:Str)(b:Int):decide ((Sum.inr a:Key)=Sum.inl b)=false:=decide_eq_false (fun q=>nomatch q)
def ZBH (prog:Program)(w:World):PySem.KeyKind prog w Key where
  is:=ZHg
  hash:=ZRU w
  inj:=fun v a b ha hb=>by
    rcases ZBG ha with ⟨i,t,rfl,rfl⟩ | ⟨x,t,rfl,rfl⟩
    · rcases ZBG hb with ⟨j,u,rfl,e⟩ | ⟨y,u,rfl,e⟩
      · injection e with e1 _;rw [e1]
      · exact nomatch e
    · rcases ZBG hb with ⟨j,u,rfl,e⟩ | ⟨y,u,rfl,e⟩
      · exact nomatch e
      · injection e with e1 _;rw [e1]
  byValue:=fun k v h=>by
    rcases ZBG h with ⟨i,t,rfl,rfl⟩ | ⟨x,t,rfl,rfl⟩ <;> rfl
  pyHash:=fun hv h=>by
    rcases ZBG hv with ⟨i,t,rfl,rfl⟩ | ⟨x,t,rfl,rfl⟩
    · exact wpAny_pyHash_int h
    · exact wpAny_pyHash_str h
  eqBool:=fun hu hv h=>by
    rcases ZBG hu with ⟨i,t,rfl,rfl⟩ | ⟨x,t,rfl,rfl⟩
    · rcases ZBG hv with ⟨j,u,rfl,rfl⟩ | ⟨y,u,rfl,rfl⟩
      · rw [ZNv] at h;exact wpAny_eqBool_int h
      · rw [ZNx] at h;exact SeqAt.EqAt.int_str i t y u _ _ _ _ h
    · rcases ZBG hv with ⟨j,u,rfl,rfl⟩ | ⟨y,u,rfl,rfl⟩
      · rw [ZNy] at h;exact SeqAt.EqAt.str_int x t j u _ _ _ _ h
      · rw [ZNw] at h;exact wpAny_eqBool_str h
  «strs»:=fun k x t v h=>by
    rcases ZBG h with ⟨i,u,rfl,e⟩ | ⟨y,u,rfl,e⟩
    · exact nomatch e
    · injection e with e1 _
      subst e1
      cases v <;> rfl
theorem ZHh (prog:Program)(w:World)(i:Int)(t:Tok):(ZBH prog w).is (.inl i) (.int i t)=true:=ZJU i t
theorem ZHi (prog:Program)(w:World)(x:Str)(t:Tok):(ZBH prog w).is (.inr x) (.str x t)=true:=ZJV x t
end L2
namespace L2
open PySem PySem.Spec PyProof.Rows
inductive V where
  | non | bl (b:Bool) | int (i:Int) | str (x:Str) | byt (b:Array UInt8) | flt (b:UInt64) | ref (a:Addr) | ty (n:String)
  deriving DecidableEq
def ZBC:V→Value→Prop
  | .non,u=>u=Value.none
  | .bl b,u=>u=Value.bool b
  | .int i,u=>∃ t,u=Value.int i t
  | .str x,u=>∃ t,u=Value.str x t
  | .byt b,u=>∃ t,u=Value.bytes b t
  | .flt b,u=>∃ t,u=Value.float b t
  | .ref a,u=>u=Value.ref a
  | .ty n,u=>u=Value.type n
abbrev ZBJ:List V→List Value→Prop:=Paired ZBC
theorem ZBJ.length {xs:List V}{us:List Value}(r:ZBJ xs us):xs.length=us.length:=Paired.length r
theorem ZBJ.get:∀ {xs:List V} {us:List Value} {i:Nat} {x:V},ZBJ xs us→xs[i]?=some x→∃ u,us[i]?=some u∧ZBC x u:=by
  intro A B j x h
  induction h generalizing j with
  | nil=>
    intro e
    simp at e
  | cons r t ih=>
    intro e
    cases j with
    | zero=>
      simp at e
      subst e
      exact ⟨_,rfl,r⟩
    | succ j=>
      obtain ⟨y,h1,h2⟩:=ih (by simpa using e)
      exact ⟨y,by simpa using h1,h2⟩
theorem ZBJ.set {x:V}{u:Value}(r:ZBC x u):∀ {xs:List V} {us:List Value} (i:Nat),ZBJ xs us→ZBJ (xs.set i x) (us.set i u)
  | _,_,_,.nil=>.nil
  | _,_,0,.cons _ t=>.cons r t
  | _,_,i+1,.cons q t=>.cons q (ZBJ.set r i t)
theorem ZBJ.append:∀ {xs ys:List V} {us ws:List Value},ZBJ xs us→ZBJ ys ws→ZBJ (xs++ys) (us++ws):=by
  intro A B C D h g
  induction h with
  | nil=>exact g
  | cons r t ih=>exact .cons r ih
theorem ZBJ.take:∀ {xs:List V} {us:List Value} (n:Nat),ZBJ xs us→ZBJ (xs.take n) (us.take n)
  | _,_,0,_=>.nil
  | _,_,_+1,.nil=>.nil
  | _,_,n+1,.cons r t=>.cons r (ZBJ.take n t)
theorem ZBJ.drop:∀ {xs:List V} {us:List Value} (n:Nat),ZBJ xs us→ZBJ (xs.drop n) (us.drop n)
  | _,_,0,r=>r
  | _,_,_+1,.nil=>.nil
  | _,_,n+1,.cons _ t=>ZBJ.drop n t
def ZIt:Option V→Option Value→Prop
  | some v,some u=>ZBC v u
  | none,none=>True
  | _,_=>False
def KV {κ:Type}:List (κ×V)→List (κ×Value)→Prop:=Paired fun (p:κ×V) (q:κ×Value)=>p.1=q.1∧ZBC p.2 q.2
def kV:Key→V
  | .inl i=>.int i
  | .inr x=>.str x
inductive HO where
    | lst (xs:List V)
    | tup (xs:List V)
    | dK (kvs:List (Key×V)) | dT (kvs:List (List Key×V))
    | set (S:Int→Bool) (n:Nat)
    | ins (C dx:Addr) (fs:List (Str×V))
    | own (x:Addr)
    | xd (fs:List (Str×V))
    | met (f x:Addr)
    | rng (lo hi:Int)
    | frz (o:Obj) (u:HO)
    | tbl (ps:Array Value)
    | ext (φ:Heap→Prop)
abbrev Hp:=Addr→Option HO
def upd (H:Hp)(a:Addr)(o:HO):Hp:=fun b=>if b=a then some o else H b
theorem ZAE {H:Hp}{a:Addr}{o:HO}:upd H a o a=some o:=by unfold upd;rw [if_pos rfl]
theorem ZAa {H:Hp}{a b:Addr}{o:HO}(h:b≠a):upd H a o b=H b:=by unfold upd;rw [if_neg h]
theorem ZHj {H:Hp}{a:Addr}{o u:HO}:upd (upd H a o) a u=upd H a u:=by
  funext b;unfold upd;split <;> rfl
theorem ZCH {H:Hp}{a b:Addr}{o u:HO}(h:H a=some o)(h':H b=some u)(d:o≠u):a≠b:=by
  intro e;subst e;rw [h] at h';exact d (Option.some.inj h')
theorem ZAY {H:Hp}{a b:Addr}{o:HO}(h:H a=some o)(h':H b=none):a≠b:=by
  intro e;subst e;rw [h] at h';cases h'
section
variable (P:Program)(w:World)
def ZBx (H:Hp)(h:Heap)(a:Addr):HO→Prop
  | .lst xs=>xs.length≤sizeLine∧∃ (its:List Value) (n:Nat),ZBJ xs its∧h.get? a=some { cls:=.type "list",data:=.seq its.toArray n }
  | .tup xs=>xs.length≤sizeLine∧∃ its:List Value,ZBJ xs its∧IsTup h a its.toArray
  | .dK kvs=>kvs.length≤sizeLine∧(a==sysModules)=false∧∃ vs,KV kvs vs∧h.DictOf (ZBH P w) a vs
  | .dT kvs=>kvs.length≤sizeLine∧(a==sysModules)=false∧∃ xs:List (List Key×Addr×Value),
      Paired (fun (p:List Key×V) (q:List Key×Addr×Value)=>p.1=q.1∧H q.2.1=some (.tup (p.1.map kV))∧ZBC p.2 q.2.2) kvs xs∧
      ∃ o es ep,h.get? a=some o∧o.ExactDict∧o.data=.dict es ep∧es.toList=xs.map (entryOfKey (tupleKind (ZBH P w)))∧(xs.map (·.1)).Nodup
  | .set S n=>h.SetOf (intKind P w) a S n
  | .ins C dx fs=>H dx=some (.own a)∧fs.length≤1000∧dx≠a∧h.get? a=some (PySem.W.instObj C dx)∧
      ∃ mA,h.Ns1 dx mA∧(∀ f,ZIt (fs.lookup f) (mA f))∧PySem.Within mA (fs.map (·.1))
  | .own _=>∃ o,h.get? a=some o
  | .xd fs=>∃ mA,h.Ns1 a mA∧∀ f,ZIt (fs.lookup f) (mA f)
  | .rng lo hi=>∃ t u v,h.get? a=some { cls:=.type "range",data:=.fields #[.int lo t,.int hi u,.int 1 v] }
  | .frz o u=>h.get? a=some o∧ZBx H h a u
  | .tbl ps=>h.get? a=some { cls:=.none,data:=.fields ps }
  | .met f x=>h.get? a=some (PySem.W.methodObj (.ref f) (.ref x))
  | .ext φ=>φ h∧(∃ o,h.get? a=some o)∧∀ h1 h2:Heap,φ h1→(∀ o,h1.get? a=some o→h2.get? a=some o)→φ h2
def HOk (H:Hp)(h:Heap):Prop:=∀ a o,H a=some o→ZBx P w H h a o
end
section
variable {P:Program}{w:World}{H H':Hp}{h h':Heap}{a:Addr}{o:HO}
theorem ZBx.lt (x:ZBx P w H h a o):a<h.objs.size:=by
  cases o with
  | lst xs=>obtain ⟨_,_,_,_,e⟩:=x;exact Heap.lt_size e
  | tup xs=>obtain ⟨_,_,_,p⟩:=x;exact p.lt
  | dK kvs=>obtain ⟨_,_,_,_,o,_,_,e,_⟩:=x;exact Heap.lt_size e
  | dT kvs=>obtain ⟨_,_,_,_,o,_,_,e,_⟩:=x;exact Heap.lt_size e
  | set S n=>obtain ⟨o,_,_,_,e,_⟩:=x;exact Heap.lt_size e
  | ins C dx fs=>obtain ⟨_,_,_,e,_⟩:=x;exact Heap.lt_size e
  | own y=>obtain ⟨_,e⟩:=x;exact Heap.lt_size e
  | xd fs=>obtain ⟨_,⟨_,_,_,e,_⟩,_⟩:=x;exact Heap.lt_size e
  | rng lo hi=>obtain ⟨_,_,_,e⟩:=x;exact Heap.lt_size e
  | frz ob u=>obtain ⟨e,_⟩:=x;exact Heap.lt_size e
  | tbl ps=>exact Heap.lt_size (show h.get? a=some _ from x)
  | met f y=>exact Heap.lt_size (show h.get? a=some _ from x)
  | ext φ=>obtain ⟨_,⟨_,e⟩,_⟩:=x;exact Heap.lt_size e
theorem Paired.mapP {α β:Type}{F G:α→β→Prop}:∀ {l₁:List α} {l₂:List β},Paired F l₁ l₂→(∀ a b,F a b→G a b)→Paired G l₁ l₂:=by
  intro A B h f
  induction h with
  | nil=>exact .nil
  | cons r t ih=>exact .cons (f _ _ r) ih
theorem Paired.imp' {α β:Type}{F G:α→β→Prop}(f:∀ a b,F a b→G a b){l₁:List α}{l₂:List β}(r:Paired F l₁ l₂):Paired G l₁ l₂:=Paired.mapP r f
theorem ZBx.stay (x:ZBx P w H h a o)(k:∀ b u,(b=a∨H b=some (.own a))→h.get? b=some u→h'.get? b=some u)
    (ho:∀ b,H b=some (.own a)→H' b=some (.own a)) (ht:∀ b xs,H b=some (.tup xs)→H' b=some (.tup xs)):ZBx P w H' h' a o:=by
  induction o with
  | lst xs=>obtain ⟨z,its,n,r,e⟩:=x;exact ⟨z,its,n,r,k _ _ (.inl rfl) e⟩
  | tup xs=>obtain ⟨z,its,r,ob,e,c⟩:=x;exact ⟨z,its,r,ob,k _ _ (.inl rfl) e,c⟩
  | dK kvs=>obtain ⟨z,y,vs,r,ob,es,ep,e,c⟩:=x;exact ⟨z,y,vs,r,ob,es,ep,k _ _ (.inl rfl) e,c⟩
  | dT kvs=>
    obtain ⟨z,y,xs,r,ob,es,ep,e,c⟩:=x
    exact ⟨z,y,xs,Paired.mapP r fun p q z=>⟨z.1,ht _ _ z.2.1,z.2.2⟩,ob,es,ep,k _ _ (.inl rfl) e,c⟩
  | set S n=>obtain ⟨ob,es,ep,t,e,c⟩:=x;exact ⟨ob,es,ep,t,k _ _ (.inl rfl) e,c⟩
  | ins C dx fs=>
    obtain ⟨d,z,ne,e,mA,⟨od,es,ep,e2,c⟩,r⟩:=x
    exact ⟨ho _ d,z,ne,k _ _ (.inl rfl) e,mA,⟨od,es,ep,k _ _ (.inr d) e2,c⟩,r⟩
  | own y=>obtain ⟨ob,e⟩:=x;exact ⟨ob,k _ _ (.inl rfl) e⟩
  | xd fs=>obtain ⟨mA,⟨od,es,ep,e,c⟩,r⟩:=x;exact ⟨mA,⟨od,es,ep,k _ _ (.inl rfl) e,c⟩,r⟩
  | rng lo hi=>obtain ⟨t,u,v,e⟩:=x;exact ⟨t,u,v,k _ _ (.inl rfl) e⟩
  | frz ob u ih=>obtain ⟨e,q⟩:=x;exact ⟨k _ _ (.inl rfl) e,ih q⟩
  | tbl ps=>
    have e:h.get? a=some { cls:=.none,data:=.fields ps }:=x
    show h'.get? a=some { cls:=.none,data:=.fields ps }
    exact k a _ (.inl rfl) e
  | met f y=>
    have e:h.get? a=some (PySem.W.methodObj (.ref f) (.ref y)):=x
    show h'.get? a=some (PySem.W.methodObj (.ref f) (.ref y))
    exact k a _ (.inl rfl) e
  | ext φ=>obtain ⟨p,⟨o,e⟩,st⟩:=x;exact ⟨st _ _ p fun o q=>k _ _ (.inl rfl) q,⟨o,k _ _ (.inl rfl) e⟩,st⟩
theorem HOk.lt (x:HOk P w H h)(e:H a=some o):a<h.objs.size:=(x a o e).lt
theorem HOk.fresh (x:HOk P w H h)(e:h.objs.size≤a):H a=none:=by
  cases q:H a with
  | none=>rfl
  | some u=>exact absurd (Nat.lt_of_lt_of_le (x.lt q) e) (Nat.lt_irrefl _)
theorem HOk.kept (x:HOk P w H h)(k:∀ b u,h.get? b=some u→h'.get? b=some u):HOk P w H h':=fun a o e=>
  (x a o e).stay (fun b u _ q=>k b u q) (fun _ q=>q) fun _ _ q=>q
theorem HOk.laid (x:HOk P w H h)(k:∀ b u,h.get? b=some u→h'.get? b=some u)(hp:h.objs.size≤a)(new:ZBx P w (upd H a o) h' a o):HOk P w (upd H a o) h':=fun b u e=>by
  have hn:=x.fresh hp
  by_cases hb:b=a
  · subst hb;rw [ZAE] at e;cases e;exact new
  · rw [ZAa hb] at e
    exact (x b u e).stay (fun c v _ q=>k c v q) (fun c q=>by rw [ZAa (ZAY q hn)];exact q) fun c xs q=>by rw [ZAa (ZAY q hn)];exact q
end
def Rd (H:Hp)(a:Addr)(u:HO):Prop:=H a=some u∨∃ o,H a=some (.frz o u)
theorem Rd.ok {P:Program}{w:World}{H:Hp}{h:Heap}{a:Addr}{u:HO}(r:Rd H a u)(x:HOk P w H h):ZBx P w H h a u:=by
  rcases r with r | ⟨o,r⟩
  · exact x a u r
  · obtain ⟨_,q⟩:=x a _ r
    exact q
def Mut:Option HO→Prop
  | some (.lst _)=>True
  | some (.dK _)=>True
  | some (.dT _)=>True
  | some (.set _ _)=>True
  | some (.ins _ _ _)=>True
  | some (.ext _)=>True
  | _=>False
section
variable {P:Program}{w:World}{H:Hp}{h h':Heap}{x e:Addr}{o':HO}
theorem HOk.write (ok:HOk P w H h)(mu:Mut (H x))(he:e=x∨H e=some (.own x))(k:∀ b u,b≠e→h.get? b=some u→h'.get? b=some u)(heo:∃ u,h'.get? e=some u)
    (new:ZBx P w (upd H x o') h' x o'):HOk P w (upd H x o') h':=fun b u q=>by
  have nown:∀ c y,H c=some (.own y)→c≠x:=fun c y r z=>by subst z;rw [r] at mu;exact mu
  have ntup:∀ c xs,H c=some (.tup xs)→c≠x:=fun c xs r z=>by subst z;rw [r] at mu;exact mu
  by_cases hb:b=x
  · subst hb;rw [ZAE] at q;cases q;exact new
  · rw [ZAa hb] at q
    by_cases hbe:b=e
    · have q':H b=some (.own x):=by
        rcases he with z | z
        · exact absurd (hbe.trans z) hb
        · rw [hbe];exact z
      rw [q] at q';cases q'
      obtain ⟨v,hv⟩:=heo
      exact ⟨v,by rw [hbe];exact hv⟩
    · refine (ok b u q).stay (fun c v hc r=>k c v ?_ r) (fun c r=>by rw [ZAa (nown c b r)];exact r) fun c xs r=>by rw [ZAa (ntup c xs r)];exact r
      rcases hc with rfl | hc
      · exact hbe
      · rintro rfl
        rcases he with z | z
        · exact nown c b hc z
        · rw [hc] at z;cases z;exact hb rfl
end
structure Un (fs ex:List Addr)(H H':Hp)(h h':Heap):Prop where
  keep:∀ b o,h.get? b=some o→H b=none→b∉fs→b∉ex→h'.get? b=some o
  slot:∀ b o,h.get? b=some o→H b=none→b∈fs→b∉ex→∃ sl,h'.get? b=some { o with slots:=sl }
  free:∀ b o,h.get? b=some o→H b=none→b∉ex→H' b=none
  there:∀ b o,h.get? b=some o→b∉ex→∃ o',h'.get? b=some o'
  tups:∀ b xs,H b=some (.tup xs)→H' b=some (.tup xs)
  frzs:∀ b o u,H b=some (.frz o u)→H' b=some (.frz o u)
  tbls:∀ b ps,H b=some (.tbl ps)→∃ more,H' b=some (.tbl (ps++more))
section
variable {fs fs' ex ex':List Addr}{H H1 H2:Hp}{h h1 h2 h':Heap}{a x e:Addr}{o:HO}
theorem Un.any (u:Un fs ex H H1 h h1){b:Addr}{ob:Obj}(q:h.get? b=some ob)(n:H b=none)(hx:b∉ex):∃ sl,h1.get? b=some { ob with slots:=sl }:=by
  by_cases hb:b∈fs
  · exact u.slot b ob q n hb hx
  · exact ⟨ob.slots,u.keep b ob q n hb hx⟩
theorem Un.kept (k:∀ b u,h.get? b=some u→h'.get? b=some u):Un fs ex H H h h':=
  ⟨fun b ob q _ _ _=>k b ob q,fun b ob q _ _ _=>⟨ob.slots,k b ob q⟩,fun _ _ _ n _=>n,fun b ob q _=>⟨ob,k b ob q⟩,fun _ _ q=>q,fun _ _ _ q=>q,fun _ ps q=>⟨#[],by rw [q];simp⟩⟩
theorem Un.refl:Un fs ex H H h h:=Un.kept fun _ _ q=>q
theorem Un.laid (k:∀ b u,h.get? b=some u→h'.get? b=some u)(hp:h.objs.size≤a)(hn:H a=none):Un fs ex H (upd H a o) h h' where
  keep:=fun b u q _ _ _=>k b u q
  slot:=fun b u q _ _ _=>⟨u.slots,k b u q⟩
  free:=fun b u q n _=>by rw [ZAa (Nat.ne_of_lt (Nat.lt_of_lt_of_le (Heap.lt_size q) hp))];exact n
  there:=fun b u q _=>⟨u,k b u q⟩
  tups:=fun b xs q=>by rw [ZAa (ZAY q hn)];exact q
  frzs:=fun b u xs q=>by rw [ZAa (ZAY q hn)];exact q
  tbls:=fun b ps q=>⟨#[],by rw [ZAa (ZAY q hn),q];simp⟩
theorem Un.write (mu:Mut (H x))(he:e=x∨H e=some (.own x))(k:∀ b u,b≠e→h.get? b=some u→h'.get? b=some u)(heo:∃ u,h'.get? e=some u):Un fs ex H (upd H x o) h h':=by
  have hx:∀ b,H b=none→b≠x:=fun b n z=>by subst z;rw [n] at mu;exact mu
  have hb:∀ b,H b=none→b≠e:=fun b n z=>by
    subst z
    rcases he with r | r
    · exact hx b n r
    · rw [n] at r;cases r
  have hm:∀ b u,H b=some u→¬ Mut (some u)→b≠x:=fun b u q nm z=>by subst z;rw [q] at mu;exact nm mu
  refine ⟨fun b u q n _ _=>k b u (hb b n) q,fun b u q n _ _=>⟨u.slots,k b u (hb b n) q⟩,fun b u q n _=>by rw [ZAa (hx b n)];exact n,fun b u q _=>?_,
    fun b xs q=>by rw [ZAa (hm b _ q fun z=>z)];exact q,fun b u xs q=>by rw [ZAa (hm b _ q fun z=>z)];exact q,fun b ps q=>⟨#[],by rw [ZAa (hm b _ q fun z=>z),q];simp⟩⟩
  by_cases hbe:b=e
  · subst hbe;exact heo
  · exact ⟨u,k b u hbe q⟩
end
def trk (h:Heap)(H:Hp):List Addr:=(List.range h.objs.size).filter fun a=>(H a).isSome
def ZJQ (h:Heap)(H:Hp):Heap:=PySem.W.hideAll h (trk h H)
theorem ZGv (h:Heap)(H:Hp):(ZJQ h H).objs.size=h.objs.size:=PySem.W.hideAll_size _ _
theorem ZIG {h:Heap}{H:Hp}{b:Addr}{o:Obj}(e:h.get? b=some o)(n:H b=none):(ZJQ h H).get? b=some o:=
  PySem.W.hideAll_get _ e fun hm=>by
    have q:(H b).isSome=true:=(List.mem_filter.mp hm).2
    rw [n] at q;simp at q
theorem ZJW {h:Heap}{H:Hp}{b:Addr}{o:Obj}(e:(ZJQ h H).get? b=some o):h.get? b=some o∧H b=none:=by
  have e':h.get? b=some o:=PySem.W.of_hideAll (trk h H) e
  refine ⟨e',?_⟩
  cases q:H b with
  | none=>rfl
  | some x=>
    have hm:b∈trk h H:=List.mem_filter.mpr ⟨List.mem_range.mpr (Heap.lt_size e'),by simp [q]⟩
    have z:(ZJQ h H).get? b=none:=PySem.W.hideAll_none (trk h H) hm
    rw [z] at e;cases e
def ZMm (g h:Heap)(L:Addr):List (Addr×Obj):=(List.range h.objs.size).filterMap fun a=>if a=L∨(g.get? a).isSome=true then none else (h.get? a).map fun o=>(a,o)
def ZEu (g h:Heap)(L d:Addr):List (Addr×Obj):=(ZMm g h L).filter fun p=>decide (p.1≠d)
end L2
namespace L2
open PySem PySem.Spec PyProof.Rows
structure Mod (K:PySem.W.Frag)(mg:Str→Option Value)(base:Heap):Prop where
  kin:K.In base
  glob:base.Ns mainGlobals mg
  blt:∃ mb,base.Ns builtinsNs mb∧∀ x:Str,x≠"__name__"→mb x=bootBuiltins x
  nolimit:base.NoLimit
structure Cx where
  prog:Program
  w:World
  K:PySem.W.Frag
  mg:Str→Option Value
  base:Heap
  A:Around
  N:List Str
  s₀:Shared
  H₀:Hp
  env:Env
  outer:List Env
  stack:List Env
  ex:List Addr
  fn:Str→Bool
  calm:Bool
  pn:List (Addr×Obj)
  xe:Value→Shared→Prop
def frs (l:List Env):List Addr:=l.filterMap (·.frame)
abbrev Cx.fs (X:Cx):List Addr:=frs X.outer
def Vis (sc:Scope)(x:Str):Prop:=sc.names.lookup x=some .local∨sc.names.lookup x=some .cell∨sc.names.lookup x=some .free
def Loc (sc:Scope)(x:Str):Prop:=sc.names.lookup x=some .local∨sc.names.lookup x=some .cell
def Look (env:Env)(h:Heap)(m:Str→Option Value)(x:Str)(u:Value):Prop:=
  (env.kindOf x=some .local∧m x=some u)∨((env.kindOf x=some .cell∨env.kindOf x=some .free)∧∃ c,env.cells.lookup x=some c∧h.IsCell c (some u))
structure Cx.Ok (X:Cx):Prop where
  mod:Mod X.K X.mg X.base
  kind:X.env.scope.kind=.function
  glob:X.env.globals=mainGlobals
  blt:X.env.builtins=builtinsNs
  above:X.s₀.heap.objs.size≤X.env.locals
  inj:∀ x y c,X.env.cells.lookup x=some c→X.env.cells.lookup y=some c→x=y
  has:∀ x,(X.env.kindOf x=some .cell∨X.env.kindOf x=some .free)→∃ c,X.env.cells.lookup x=some c
  cab:∀ x c,X.fn x=true→X.env.cells.lookup x=some c→X.s₀.heap.objs.size≤c
  hd:X.calm=true→X.A.handled=none
  frames:X.A.frames=some X.stack
  stk:X.stack=X.outer∨(X.stack=X.env::X.outer∧X.env.frame=some X.env.locals)
  exf:∀ b∈X.ex,b≠X.env.locals∧∀ x c,X.env.cells.lookup x=some c→c≠b
  bs:∀ b o,X.base.get? b=some o→X.s₀.heap.get? b=some o∧X.H₀ b=none
  bsz:X.base.objs.size≤X.s₀.heap.objs.size
  noex:∀ b o,X.base.get? b=some o→b∉X.ex
  exfs:∀ b∈X.ex,b∉X.fs
  funs:X.s₀.heap.FunFrames X.base X.outer
  frf:∀ b∈X.fs,X.H₀ b=none
structure Inv (X:Cx)(pins:List (Addr×Obj))(σ:List (Option V))(H:Hp)(s:Shared):Prop where
  ok:X.Ok
  os:s.os=X.s₀.os
  bare:AllBare s.gens
  base:Un X.fs X.ex X.H₀ H X.s₀.heap s.heap
  loc:∃ m,s.heap.Ns X.env.locals m∧∀ (i:Nat) (x:Str) (v:V),X.N[i]?=some x→σ[i]?=some (some v)→Vis X.env.scope x→∃ u,ZBC v u∧Look X.env s.heap m x u
  cell:∀ x c,X.env.cells.lookup x=some c→∃ v,s.heap.IsCell c v
  free:H X.env.locals=none
  freeC:∀ x c,X.env.cells.lookup x=some c→H c=none
  pin:∀ p∈X.pn++pins,s.heap.get? p.1=some p.2∧H p.1=none∧p.1≠X.env.locals∧p.1∉X.fs∧∀ v,p.2.data≠.cell v
  hok:HOk X.prog X.w H s.heap
  len:σ.length=X.N.length
section
variable {X:Cx}{pins:List (Addr×Obj)}{σ:List (Option V)}{H H':Hp}{s:Shared}{h':Heap}
theorem Cx.Ok.nofr (ok:X.Ok){b:Addr}{o:Obj}(e:X.base.get? b=some o):b∉X.fs:=fun hb=>by
  have:=(ok.funs.mem hb).1
  rw [e] at this;cases this
theorem Inv.bs (I:Inv X pins σ H s):∀ b o,X.base.get? b=some o→s.heap.get? b=some o∧H b=none:=fun b o e=>
  ⟨I.base.keep b o (I.ok.bs b o e).1 (I.ok.bs b o e).2 (I.ok.nofr e) (I.ok.noex b o e),I.base.free b o (I.ok.bs b o e).1 (I.ok.bs b o e).2 (I.ok.noex b o e)⟩
theorem Inv.bk (I:Inv X pins σ H s):∀ b o,X.base.get? b=some o→s.heap.get? b=some o:=fun b o e=>(I.bs b o e).1
theorem Inv.mod (I:Inv X pins σ H s):Mod X.K X.mg X.base:=I.ok.mod
theorem Inv.kIn (I:Inv X pins σ H s):X.K.In s.heap:=I.ok.mod.kin.keeps I.bk
theorem Inv.lt (I:Inv X pins σ H s):X.env.locals<s.heap.objs.size:=by
  obtain ⟨_,hn,_⟩:=I.loc
  exact hn.lt
theorem Inv.sz (I:Inv X pins σ H s):X.s₀.heap.objs.size≤s.heap.objs.size:=Nat.le_trans I.ok.above (Nat.le_of_lt I.lt)
theorem Inv.nofs (I:Inv X pins σ H s){a:Addr}(h:s.heap.objs.size≤a):a∉X.fs:=fun hb=>by
  obtain ⟨_,o,ho,_⟩:=I.ok.funs.mem hb
  exact absurd (Nat.lt_of_lt_of_le (Heap.lt_size ho) (Nat.le_trans I.sz h)) (Nat.lt_irrefl _)
theorem Inv.cne (I:Inv X pins σ H s):∀ x c,X.env.cells.lookup x=some c→c≠X.env.locals:=fun x c e z=>by
  obtain ⟨v,o,ho,hd⟩:=I.cell x c e
  obtain ⟨m,⟨o',es,ep,ho',hd',_⟩,_⟩:=I.loc
  rw [z,ho'] at ho;cases ho;rw [hd'] at hd;cases hd
theorem Inv.funs (I:Inv X pins σ H s):s.heap.FunFrames X.base X.outer:=by
  have all:∀ (l:List Env),(∀ b∈frs l,b∈X.fs)→X.s₀.heap.FunFrames X.base l→s.heap.FunFrames X.base l:=by
    intro l
    induction l with
    | nil=>intro _ _;trivial
    | cons env r ih=>
      intro hs hl
      obtain ⟨hk,⟨L,o,hf,hn,ho,hd⟩,hr⟩:=hl
      have hL:L∈X.fs:=hs L (by unfold frs;rw [List.filterMap_cons,hf];exact List.mem_cons_self)
      obtain ⟨sl,e⟩:=I.base.slot L o ho (I.ok.frf L hL) hL fun z=>I.ok.exfs L z hL
      exact ⟨hk,⟨L,_,hf,hn,e,hd⟩,ih (fun b hb=>hs b (by unfold frs;rw [List.filterMap_cons,hf];exact List.mem_cons_of_mem _ hb)) hr⟩
  exact all X.outer (fun _ hb=>hb) I.ok.funs
theorem Inv.stack (I:Inv X pins σ H s):s.heap.FunFrames X.base X.stack:=by
  rcases I.ok.stk with e | ⟨e,hf⟩
  · rw [e];exact I.funs
  · rw [e]
    obtain ⟨m,hn,_⟩:=I.loc
    refine .cons (by rw [I.ok.kind];decide) hf hn ?_ I.funs
    exact Heap.get?_none_of_le (Nat.le_trans I.ok.bsz I.ok.above)
theorem Inv.stkSub (I:Inv X pins σ H s):∀ b∈frs X.stack,b∈X.env.locals::X.fs:=fun b hb=>by
  rcases I.ok.stk with e | ⟨e,hf⟩
  · rw [e] at hb;exact List.mem_cons_of_mem _ hb
  · rw [e] at hb
    unfold frs at hb
    rw [List.filterMap_cons,hf] at hb
    exact hb
theorem Inv.stkFree (I:Inv X pins σ H s):∀ b∈frs X.stack,H b=none:=fun b hb=>by
  rcases List.mem_cons.mp (I.stkSub b hb) with e | hb
  · rw [e];exact I.free
  · obtain ⟨_,o,ho,_⟩:=I.ok.funs.mem hb
    exact I.base.free b o ho (I.ok.frf b hb) fun z=>I.ok.exfs b z hb
theorem Inv.step {g':Array GenState}{t':Nat}{d':Drawn}{ch:List Addr}(I:Inv X pins σ H s)
    (hch:∀ b∈ch,(b∈X.ex∨X.s₀.heap.objs.size≤b)∧b≠X.env.locals∧(∀ x c,X.env.cells.lookup x=some c→c≠b)∧∀ p∈X.pn++pins,p.1≠b)
    (keep:∀ b o,b≠X.env.locals→b∉X.fs→b∉ch→s.heap.get? b=some o→H b=none→h'.get? b=some o)
    (slot:∀ b o,b≠X.env.locals→b∈X.fs→b∉ch→s.heap.get? b=some o→H b=none→∃ sl,h'.get? b=some { o with slots:=sl }) (free:∀ b o,b∉ch→s.heap.get? b=some o→H b=none→H' b=none)
    (there:∀ b o,b∉ch→s.heap.get? b=some o→∃ o',h'.get? b=some o')
    (tups:∀ b xs,H b=some (.tup xs)→H' b=some (.tup xs)) (frzs:∀ b o u,H b=some (.frz o u)→H' b=some (.frz o u)) (tbls:∀ b ps,H b=some (.tbl ps)→∃ more,H' b=some (.tbl (ps++more)))
    (ns:∀ m,s.heap.Ns X.env.locals m→h'.Ns X.env.locals m) (hok:HOk X.prog X.w H' h') (hg:AllBare g'):
    Inv X pins σ H' { s with heap:=h',gens:=g',drawn:=d',toks:=t' }:=by
  have neL:∀ b o,X.s₀.heap.get? b=some o→b≠X.env.locals:=fun b o e=>Nat.ne_of_lt (Nat.lt_of_lt_of_le (Heap.lt_size e) I.ok.above)
  have neC:∀ b o,X.s₀.heap.get? b=some o→b∉X.ex→b∉ch:=fun b o e hx hb=>by
    rcases (hch b hb).1 with z | z
    · exact hx z
    · exact absurd (Nat.lt_of_lt_of_le (Heap.lt_size e) z) (Nat.lt_irrefl _)
  have cellK:∀ x c,X.env.cells.lookup x=some c→∀ v,s.heap.IsCell c v→h'.IsCell c v:=fun x c e v ⟨o,ho,hd⟩=>by
    have nch:c∉ch:=fun z=>(hch c z).2.2.1 x c e rfl
    by_cases hc:c∈X.fs
    · obtain ⟨sl,q⟩:=slot c o (I.cne x c e) hc nch ho (I.freeC x c e)
      exact ⟨_,q,hd⟩
    · exact ⟨o,keep c o (I.cne x c e) hc nch ho (I.freeC x c e),hd⟩
  refine ⟨I.ok,I.os,hg,⟨fun b o e n hb hx=>?_,fun b o e n hb hx=>?_,fun b o e n hx=>?_,fun b o e hx=>?_,fun b xs e=>tups b xs (I.base.tups b xs e),fun b o xs e=>frzs b o xs (I.base.frzs b o xs e),fun b ps e=>?_⟩,?_,fun x c e=>?_,?_,fun x c e=>?_,fun p hp=>?_,hok,I.len⟩
  · exact keep b o (neL b o e) hb (neC b o e hx) (I.base.keep b o e n hb hx) (I.base.free b o e n hx)
  · obtain ⟨sl,e1⟩:=I.base.slot b o e n hb hx
    obtain ⟨sl',e2⟩:=slot b _ (neL b o e) hb (neC b o e hx) e1 (I.base.free b o e n hx)
    exact ⟨sl',e2⟩
  · obtain ⟨o',e1⟩:=I.base.there b o e hx
    exact free b o' (neC b o e hx) e1 (I.base.free b o e n hx)
  · obtain ⟨o',e1⟩:=I.base.there b o e hx
    exact there b o' (neC b o e hx) e1
  · obtain ⟨m1,e1⟩:=I.base.tbls b ps e
    obtain ⟨m2,e2⟩:=tbls b _ e1
    exact ⟨m1++m2,by rw [e2,Array.append_assoc]⟩
  · obtain ⟨m,hn,hl⟩:=I.loc
    refine ⟨m,ns m hn,fun i x v e1 e2 e3=>?_⟩
    obtain ⟨u,r,l⟩:=hl i x v e1 e2 e3
    refine ⟨u,r,?_⟩
    rcases l with l | ⟨k,c,e,z⟩
    · exact .inl l
    · exact .inr ⟨k,c,e,cellK x c e _ z⟩
  · obtain ⟨v,z⟩:=I.cell x c e
    exact ⟨v,cellK x c e v z⟩
  · obtain ⟨m,⟨o,_,_,ho,_⟩,_⟩:=I.loc
    exact free _ o (fun z=>(hch _ z).2.1 rfl) ho I.free
  · obtain ⟨v,o,ho,hd⟩:=I.cell x c e
    exact free c o (fun z=>(hch c z).2.2.1 x c e rfl) ho (I.freeC x c e)
  · obtain ⟨e,n,ne,nf,d⟩:=I.pin p hp
    have nch:p.1∉ch:=fun z=>(hch p.1 z).2.2.2 p hp rfl
    exact ⟨keep p.1 p.2 ne nf nch e n,free p.1 p.2 nch e n,ne,nf,d⟩
theorem Inv.un {t':Nat}(I:Inv X pins σ H s)(u:Un X.fs [] H H' s.heap h')(hok:HOk X.prog X.w H' h'):Inv X pins σ H' { s with heap:=h',toks:=t' }:=by
  obtain ⟨m,⟨o,es,ep,ho,r⟩,_⟩:=id I.loc
  obtain ⟨sl,hL⟩:=u.any ho I.free (by simp)
  exact I.step (g':=s.gens) (d':=s.drawn) (ch:=[]) (fun _ z=>nomatch z) (fun b o _ hb _ e n=>u.keep b o e n hb (by simp)) (fun b o _ hb _ e n=>u.slot b o e n hb (by simp)) (fun b o _ e n=>u.free b o e n (by simp)) (fun b o _ e=>u.there b o e (by simp)) u.tups u.frzs u.tbls (fun m' hm=>by
    obtain ⟨o',es',ep',ho',r'⟩:=hm
    rw [ho] at ho';cases ho'
    exact ⟨_,es',ep',hL,r'⟩) hok I.bare
theorem Inv.call {g':Array GenState}{t':Nat}{d':Drawn}{ch:List Addr}(I:Inv X pins σ H s)(u:Un (frs X.stack) ch H H' s.heap h')(hok:HOk X.prog X.w H' h')(hg:AllBare g')
    (hch:∀ b∈ch,(b∈X.ex∨X.s₀.heap.objs.size≤b)∧b≠X.env.locals∧(∀ x c,X.env.cells.lookup x=some c→c≠b)∧∀ p∈X.pn++pins,p.1≠b):
    Inv X pins σ H' { s with heap:=h',gens:=g',drawn:=d',toks:=t' }:=by
  obtain ⟨m,⟨o,es,ep,ho,r⟩,_⟩:=id I.loc
  obtain ⟨sl,hL⟩:=u.any ho I.free fun z=>(hch _ z).2.1 rfl
  exact I.step (ch:=ch) hch (fun b o hL hb hc e n=>u.keep b o e n (fun z=>(List.mem_cons.mp (I.stkSub b z)).elim hL hb) hc) (fun b o _ _ hc e n=>u.any e n hc) (fun b o hc e n=>u.free b o e n hc) (fun b o hc e=>u.there b o e hc) u.tups u.frzs u.tbls (fun m' hm=>by
    obtain ⟨o',es',ep',ho',r'⟩:=hm
    rw [ho] at ho';cases ho'
    exact ⟨_,es',ep',hL,r'⟩) hok hg
theorem Inv.turned {t':Nat}{it:Addr}(I:Inv X pins σ H s)(k:∀ b o,b≠it→s.heap.get? b=some o→h'.get? b=some o)(hn:H it=none)(hL:it≠X.env.locals)
    (h1:it∈X.ex∨X.s₀.heap.objs.size≤it) (h2:∀ x c,X.env.cells.lookup x=some c→c≠it) (h3:∀ p∈X.pn++pins,p.1≠it):Inv X pins σ H { s with heap:=h',toks:=t' }:=by
  have nit:∀ b u,H b=some u→b≠it:=fun b u e z=>by rw [z,hn] at e;cases e
  refine I.step (g':=s.gens) (d':=s.drawn) (ch:=[it]) (fun b hb=>?_) (fun b o _ _ hc e _=>k b o (fun z=>hc (by simp [z])) e) (fun b o _ _ hc e _=>⟨o.slots,k b o (fun z=>hc (by simp [z])) e⟩) (fun _ _ _ _ n=>n)
    (fun b o hc e=>⟨o,k b o (fun z=>hc (by simp [z])) e⟩) (fun _ _ e=>e) (fun _ _ _ e=>e) (fun b ps e=>⟨#[],by rw [e];simp⟩) (fun m hm=>?_) (fun b u e=>?_) I.bare
  · have e:b=it:=by simpa using hb
    subst e
    exact ⟨h1,hL,h2,h3⟩
  · obtain ⟨o,es,ep,ho,r⟩:=hm
    exact ⟨o,es,ep,k _ o (Ne.symm hL) ho,r⟩
  · refine (I.hok b u e).stay (fun c v hc q=>k c v ?_ q) (fun _ q=>q) fun _ _ q=>q
    rcases hc with z | z
    · rw [z];exact nit b u e
    · exact nit c _ z
theorem Inv.tok (I:Inv X pins σ H s)(t:Nat):Inv X pins σ H { s with toks:=t }:=I.un (h':=s.heap) (t':=t) Un.refl I.hok
theorem Inv.kept {t':Nat}(I:Inv X pins σ H s)(k:∀ b u,s.heap.get? b=some u→h'.get? b=some u):Inv X pins σ H { s with heap:=h',toks:=t' }:=I.un (Un.kept k) (I.hok.kept k)
theorem Inv.laid {a:Addr}{o:HO}{t':Nat}(I:Inv X pins σ H s)(k:∀ b u,s.heap.get? b=some u→h'.get? b=some u)(hp:s.heap.objs.size≤a)(new:ZBx X.prog X.w (upd H a o) h' a o):
    Inv X pins σ (upd H a o) { s with heap:=h',toks:=t' }:=I.un (Un.laid k hp (I.hok.fresh hp)) (I.hok.laid k hp new)
theorem Inv.write {x e:Addr}{o:HO}{t':Nat}(I:Inv X pins σ H s)(mu:Mut (H x))(he:e=x∨H e=some (.own x))(k:∀ b u,b≠e→s.heap.get? b=some u→h'.get? b=some u)(heo:∃ u,h'.get? e=some u)
    (new:ZBx X.prog X.w (upd H x o) h' x o):Inv X pins σ (upd H x o) { s with heap:=h',toks:=t' }:=I.un (Un.write mu he k heo) (I.hok.write mu he k heo new)
theorem Inv.pins_of {pins':List (Addr×Obj)}(I:Inv X pins σ H s)(h:∀ p∈pins',s.heap.get? p.1=some p.2∧H p.1=none∧p.1≠X.env.locals∧p.1∉X.fs∧∀ v,p.2.data≠.cell v):Inv X pins' σ H s:=
  ⟨I.ok,I.os,I.bare,I.base,I.loc,I.cell,I.free,I.freeC,fun p hp=>(List.mem_append.mp hp).elim (fun z=>I.pin p (List.mem_append_left _ z)) (h p),I.hok,I.len⟩
theorem ZIH {N:List Str}(hN:N.Nodup){i j:Nat}{x:Str}(a:N[i]?=some x)(b:N[j]?=some x):i=j:=by
  obtain ⟨h1,e1⟩:=List.getElem?_eq_some_iff.mp a
  obtain ⟨h2,e2⟩:=List.getElem?_eq_some_iff.mp b
  exact (List.getElem_inj hN).mp (e1.trans e2.symm)
theorem ZGw {M:Model}{A:Around}{E:Value→Shared→Prop}{i:Nat}{x:Str}{v:V}{u:Value}{Q:Unit→Shared→Prop}(I:Inv X pins σ H s)(hN:X.N.Nodup)(hi:X.N[i]?=some x)(hx:Loc X.env.scope x)(r:ZBC v u)
    (h:∀ s',Inv X pins (σ.set i (some v)) H s'→(∃ a,Heap.SameBut a s.heap s'.heap∧(a=X.env.locals∨X.env.cells.lookup x=some a))→Q () s') (hf:X.fn x=true∨X.env.scope.names.lookup x=some .local:=by first | exact .inl rfl | exact .inr rfl | assumption):wpAny M A (storeName X.env x u) Q E s:=by
  obtain ⟨m,hn,hl⟩:=id I.loc
  have hcls:(X.env.scope.kind==.class||(X.env.scope.kind==.module&&X.env.locals != X.env.globals))=false:=by rw [I.ok.kind];rfl
  have hiσ:i<σ.length:=by rw [I.len];exact (List.getElem?_eq_some_iff.mp hi).1
  have cne:=I.cne
  have tracked:∀ {a:Addr} {h':Heap},(∃ o,s.heap.get? a=some o∧H a=none)→Heap.SameBut a s.heap h'→HOk X.prog X.w H h':=fun {a h'} ha hs b ob e=>by
    obtain ⟨_,_,hfree⟩:=ha
    refine (I.hok b ob e).stay (fun c w' hc q=>(hs.2 c ?_).trans q) (fun _ q=>q) fun _ _ q=>q
    rintro rfl
    rcases hc with rfl | hc
    · rw [hfree] at e;cases e
    · rw [hfree] at hc;cases hc
  rcases hx with hk | hk
  · refine wpAny_storeName_local hk hn (fun h' hn' hs=>?_) hcls
    obtain ⟨oL,_,_,hoL,_⟩:=id hn
    refine h _ ⟨I.ok,I.os,I.bare,⟨fun b o e n hb hx=>?_,fun b o e n hb hx=>?_,I.base.free,fun b o e hx=>?_,I.base.tups,I.base.frzs,I.base.tbls⟩,⟨_,hn',fun j y v' e1 e2 e3=>?_⟩,fun y c e=>?_,I.free,I.freeC,fun p hp=>?_,tracked ⟨oL,hoL,I.free⟩ hs,by simpa using I.len⟩ ⟨_,hs,.inl rfl⟩
    · exact (hs.2 b (Nat.ne_of_lt (Nat.lt_of_lt_of_le (Heap.lt_size e) I.ok.above))).trans (I.base.keep b o e n hb hx)
    · obtain ⟨sl,e1⟩:=I.base.slot b o e n hb hx
      exact ⟨sl,(hs.2 b (Nat.ne_of_lt (Nat.lt_of_lt_of_le (Heap.lt_size e) I.ok.above))).trans e1⟩
    · obtain ⟨o',e1⟩:=I.base.there b o e hx
      exact ⟨o',(hs.2 b (Nat.ne_of_lt (Nat.lt_of_lt_of_le (Heap.lt_size e) I.ok.above))).trans e1⟩
    · by_cases hj:j=i
      · subst hj
        rw [hi] at e1;cases e1
        rw [List.getElem?_set_self hiσ] at e2
        cases e2
        exact ⟨u,r,.inl ⟨hk,by simp⟩⟩
      · rw [List.getElem?_set_ne (Ne.symm hj)] at e2
        obtain ⟨u',r',q⟩:=hl j y v' e1 e2 e3
        refine ⟨u',r',?_⟩
        rcases q with ⟨k,e⟩ | ⟨k,c,e,z⟩
        · refine .inl ⟨k,?_⟩
          have:y≠x:=fun e=>hj (ZIH hN e1 (e▸hi))
          simp [this,e]
        · exact .inr ⟨k,c,e,z.sameBut hs (cne y c e)⟩
    · obtain ⟨w',z⟩:=I.cell y c e
      exact ⟨w',z.sameBut hs (cne y c e)⟩
    · obtain ⟨e,n,ne,nf,d⟩:=I.pin p hp
      exact ⟨(hs.2 p.1 ne).trans e,n,ne,nf,d⟩
  · have hfn:X.fn x=true:=by
      rcases hf with z | z
      · exact z
      · rw [z] at hk;cases hk
    obtain ⟨c,hc⟩:=I.ok.has x (.inl hk)
    obtain ⟨w',z⟩:=I.cell x c hc
    refine wpAny_storeName_cell I.ok.kind hk hc z (fun h' hc' hs=>?_)
    obtain ⟨oc,hoc,hocd⟩:=id z
    refine h { s with heap:=h' } ⟨I.ok,I.os,I.bare,⟨fun b o e n hb hx=>?_,fun b o e n hb hx=>?_,I.base.free,fun b o e hx=>?_,I.base.tups,I.base.frzs,I.base.tbls⟩,⟨m,hn.sameBut hs (Ne.symm (cne x c hc)),fun j y v' e1 e2 e3=>?_⟩,fun y c' e=>?_,I.free,I.freeC,fun p hp=>?_,tracked ⟨oc,hoc,I.freeC x c hc⟩ hs,by simpa using I.len⟩ ⟨c,hs,.inr hc⟩
    · exact (hs.2 b (Nat.ne_of_lt (Nat.lt_of_lt_of_le (Heap.lt_size e) (I.ok.cab x c hfn hc)))).trans (I.base.keep b o e n hb hx)
    · obtain ⟨sl,e1⟩:=I.base.slot b o e n hb hx
      exact ⟨sl,(hs.2 b (Nat.ne_of_lt (Nat.lt_of_lt_of_le (Heap.lt_size e) (I.ok.cab x c hfn hc)))).trans e1⟩
    · obtain ⟨o',e1⟩:=I.base.there b o e hx
      exact ⟨o',(hs.2 b (Nat.ne_of_lt (Nat.lt_of_lt_of_le (Heap.lt_size e) (I.ok.cab x c hfn hc)))).trans e1⟩
    · by_cases hj:j=i
      · subst hj
        rw [hi] at e1;cases e1
        rw [List.getElem?_set_self hiσ] at e2
        cases e2
        exact ⟨u,r,.inr ⟨.inl hk,c,hc,hc'⟩⟩
      · rw [List.getElem?_set_ne (Ne.symm hj)] at e2
        obtain ⟨u',r',q⟩:=hl j y v' e1 e2 e3
        refine ⟨u',r',?_⟩
        rcases q with q | ⟨k,c',e,z'⟩
        · exact .inl q
        · refine .inr ⟨k,c',e,z'.sameBut hs ?_⟩
          rintro rfl
          exact hj (ZIH hN e1 (I.ok.inj _ _ _ e hc▸hi))
    · by_cases hcc:c'=c
      · subst hcc;exact ⟨_,hc'⟩
      · obtain ⟨w2,z2⟩:=I.cell y c' e
        exact ⟨w2,z2.sameBut hs hcc⟩
    · obtain ⟨e,n,ne,nf,d⟩:=I.pin p hp
      refine ⟨(hs.2 p.1 ?_).trans e,n,ne,nf,d⟩
      intro q
      rw [q,hoc] at e
      have q':oc=p.2:=Option.some.inj e
      exact d w' (by rw [← q'];exact hocd)
theorem ZEv {M:Model}{A:Around}{E:Value→Shared→Prop}{i:Nat}{x:Str}{v:V}{u:Value}{Q:Unit→Shared→Prop}(I:Inv X pins σ H s)(hN:X.N.Nodup)(hi:X.N[i]?=some x)(hx:Loc X.env.scope x)(r:ZBC v u)
    (h:∀ s',Inv X pins (σ.set i (some v)) H s'→Q () s') (hf:X.fn x=true∨X.env.scope.names.lookup x=some .local:=by first | exact .inl rfl | exact .inr rfl | assumption):wpAny M A (storeName X.env x u) Q E s:=
  ZGw I hN hi hx r (fun s' I' _=>h s' I') hf
theorem Inv.call' {s':Shared}{ch:List Addr}(I:Inv X pins σ H s)(ho:s'.os=s.os)(u:Un (frs X.stack) ch H H' s.heap s'.heap)(hok:HOk X.prog X.w H' s'.heap)(hg:AllBare s'.gens)
    (hch:∀ b∈ch,(b∈X.ex∨X.s₀.heap.objs.size≤b)∧b≠X.env.locals∧(∀ x c,X.env.cells.lookup x=some c→c≠b)∧∀ p∈X.pn++pins,p.1≠b):Inv X pins σ H' s':=by
  obtain ⟨h',g',d',t',o'⟩:=s'
  have e:o'=s.os:=ho
  subst e
  exact I.call (g':=g') (t':=t') (d':=d') u hok hg hch
end
abbrev XK:=Value→Option Addr→Hp→Prop
abbrev St:=List (Option V)
abbrev VK:=V→Hp→Prop
abbrev TE:=St→Hp→VK→Prop
abbrev TT:=St→Hp→(Bool→Hp→Prop)→Prop
abbrev TA:=St→Hp→(List V→Hp→Prop)→Prop
structure ZHd where
  nx:St→Hp→Prop
  rt:VK
  bk:St→Hp→Prop:=fun _ _=>False
  ct:St→Hp→Prop:=fun _ _=>False
abbrev TS:=ZHd→St→Hp→Prop
def EP (X:Cx)(pins:List (Addr×Obj))(σ:St)(Q:VK)(u:Value)(s':Shared):Prop:=∃ v H',Inv X pins σ H' s'∧ZBC v u∧Q v H'
def TP (X:Cx)(pins:List (Addr×Obj))(σ:St)(Q:Bool→Hp→Prop)(b:Bool)(s':Shared):Prop:=∃ H',Inv X pins σ H' s'∧Q b H'
def AP (X:Cx)(pins:List (Addr×Obj))(σ:St)(Q:List V→Hp→Prop)(us:List Value)(s':Shared):Prop:=∃ vs H',Inv X pins σ H' s'∧ZBJ vs us∧Q vs H'
def SP (X:Cx)(pins:List (Addr×Obj))(D:ZHd)(f:Flow)(s':Shared):Prop:=
  match f with
  | .next=>∃ σ' H',Inv X pins σ' H' s'∧D.nx σ' H'
  | .brk=>∃ σ' H',Inv X pins σ' H' s'∧D.bk σ' H'
  | .cont=>∃ σ' H',Inv X pins σ' H' s'∧D.ct σ' H'
  | .ret u=>∃ v σ' H',Inv X pins σ' H' s'∧ZBC v u∧D.rt v H'
def PE (X:Cx)(e:Expr)(t:TE):Prop:=
  ∀ (pins:List (Addr×Obj)) (s:Shared) (σ:St) (H:Hp) (Q:VK),Inv X pins σ H s→t σ H Q→wpAny (model X.prog X.w) X.A (eval e X.env) (EP X pins σ Q) X.xe s
def PT (X:Cx)(e:Expr)(t:TT):Prop:=
  ∀ (pins:List (Addr×Obj)) (s:Shared) (σ:St) (H:Hp) (Q:Bool→Hp→Prop),Inv X pins σ H s→t σ H Q→wpAny (model X.prog X.w) X.A (isTrue e X.env (eval e X.env)) (TP X pins σ Q) X.xe s
def PW (X:Cx)(e:Expr)(t:TT):Prop:=
  ∀ (whole:Sem Value) (pins:List (Addr×Obj)) (s:Shared) (σ:St) (H:Hp) (Q:Bool→Hp→Prop),Inv X pins σ H s→t σ H Q→wpAny (model X.prog X.w) X.A (isTrue e X.env whole) (TP X pins σ Q) X.xe s
theorem PW.pt {X:Cx}{e:Expr}{t:TT}(h:PW X e t):PT X e t:=h _
def PA (X:Cx)(es:List Expr)(t:TA):Prop:=
  ∀ (pos:Pos) (pins:List (Addr×Obj)) (s:Shared) (σ:St) (H:Hp) (Q:List V→Hp→Prop),Inv X pins σ H s→t σ H Q→wpAny (model X.prog X.w) X.A (spliced (backTo pos (starEach es X.env))) (AP X pins σ Q) X.xe s
def PS (X:Cx)(st:Stmt)(t:TS):Prop:=
  ∀ (pins:List (Addr×Obj)) (s:Shared) (σ:St) (H:Hp) (D:ZHd),Inv X pins σ H s→t D σ H→wpAny (model X.prog X.w) X.A (exec st X.env) (SP X pins D) X.xe s
def PSs (X:Cx)(st:List Stmt)(t:TS):Prop:=
  ∀ (pins:List (Addr×Obj)) (s:Shared) (σ:St) (H:Hp) (D:ZHd),Inv X pins σ H s→t D σ H→wpAny (model X.prog X.w) X.A (execs st X.env) (SP X pins D) X.xe s
theorem thn {α:Type}{t:Sem α}{Q Q':α→Shared→Prop}{M:Model}{A:Around}{E:Value→Shared→Prop}{s:Shared}(h:wpAny M A t Q E s)(hQ:∀ a s,Q a s→Q' a s):wpAny M A t Q' E s:=wpAny_mono h hQ fun _ _ x=>x
end L2
namespace L2
open PySem PySem.Spec PyProof.Rows
section
variable {X:Cx}
def ZPW (i:Nat):TE:=fun σ H Q=>∃ v,σ[i]?=some (some v)∧Q v H
def tC (v:V):TE:=fun _ H Q=>Q v H
theorem ZNz {i:Nat}{x:Str}{pos:Pos}(hN:X.N[i]?=some x)(hv:Vis X.env.scope x)(hd:(x==("__debug__":Str))=false:=by decide)(hcd:(x==("__classdict__":Str))=false:=by decide):PE X (.Name x pos) (ZPW i):=by
  intro pins s σ H Q I h
  obtain ⟨v,e,h⟩:=h
  obtain ⟨m,hn,hl⟩:=I.loc
  obtain ⟨u,r,l⟩:=hl i x v hN e hv
  have fin:EP X pins σ Q u s:=⟨v,H,I,r,h⟩
  rcases l with ⟨hk,hm⟩ | ⟨hk,c,hc,hcell⟩
  · exact wpAny_Name (wpAny_loadName_local I.ok.kind hk hn hm fin) hd
  · rcases hk with hk | hk
    · exact wpAny_Name (wpAny_loadName_cell I.ok.kind hk hc hcell fin) hd
    · exact wpAny_Name (wpAny_loadName_free I.ok.kind hk hc hcell fin hcd) hd
theorem ZAC {i j pos}:PE X (.Constant (.int i) j pos) (tC (.int i)):=fun _ _ _ H _ I h=>wpAny_Constant_int ⟨.int i,H,I.tok _,⟨_,rfl⟩,h⟩
theorem ZFi {b j pos}:PE X (.Constant (.bool b) j pos) (tC (.bl b)):=fun _ _ _ H _ I h=>Constant_bool ⟨.bl b,H,I,rfl,h⟩
theorem ZF0 {j pos}:PE X (.Constant .none j pos) (tC .non):=fun _ _ _ H _ I h=>Constant_none ⟨.non,H,I,rfl,h⟩
theorem ZAI {x j pos}:PE X (.Constant (.str x) j pos) (tC (.str x)):=fun _ _ _ H _ I h=>Calls.Constant_str ⟨.str x,H,I.tok _,⟨_,rfl⟩,h⟩
def Gl (X:Cx)(x:Str):Prop:=X.env.kindOf x=some .globalImplicit
theorem ZE5 {E:Value→Shared→Prop}{pins:List (Addr×Obj)}{s:Shared}{σ:St}{H:Hp}{x:Str}{u:Value}{pos:Pos}{Q:Value→Shared→Prop}(I:Inv X pins σ H s)(hg:Gl X x)(hm:X.mg x=some u)(h:Q u s)
    (hd:(x==("__debug__":Str))=false:=by decide):wpAny (model X.prog X.w) X.A (eval (.Name x pos) X.env) Q E s:=
  Calls.Name_function_global I.ok.kind hg (Calls.loadGlobal_global (by rw [I.ok.glob];exact I.mod.glob.keeps I.bk) hm h) hd
theorem ZDp {E:Value→Shared→Prop}{pins:List (Addr×Obj)}{s:Shared}{σ:St}{H:Hp}{x:Str}{u:Value}{pos:Pos}{Q:Value→Shared→Prop}(I:Inv X pins σ H s)(hg:Gl X x)(hm:X.mg x=none)(hv:bootBuiltins x=some u)(h:Q u s)
    (hn:x≠"__name__":=by decide) (hd:(x==("__debug__":Str))=false:=by decide):wpAny (model X.prog X.w) X.A (eval (.Name x pos) X.env) Q E s:=by
  obtain ⟨mb,h1,h2⟩:=I.mod.blt
  exact Calls.Name_function_global I.ok.kind hg (Calls.loadGlobal_builtin (by rw [I.ok.glob];exact I.mod.glob.keeps I.bk) hm (by rw [I.ok.blt];exact h1.keeps I.bk) ((h2 x hn).trans hv) h) hd
theorem ZJX {x:Str}{v:V}{u:Value}{pos:Pos}(hg:Gl X x)(hm:X.mg x=some u)(r:ZBC v u)(hd:(x==("__debug__":Str))=false:=by decide):PE X (.Name x pos) (tC v):=
  fun _ _ _ H _ I h=>ZE5 I hg hm ⟨v,H,I,r,h⟩ hd
theorem ZMn {x:Str}{v:V}{u:Value}{pos:Pos}(hg:Gl X x)(hm:X.mg x=none)(hv:bootBuiltins x=some u)(r:ZBC v u)(hn:x≠"__name__":=by decide)(hd:(x==("__debug__":Str))=false:=by decide):PE X (.Name x pos) (tC v):=
  fun _ _ _ H _ I h=>ZDp I hg hm hv ⟨v,H,I,r,h⟩ hn hd
def t2I (ta tb:TE)(k:Int→Int→Hp→Prop):St→Hp→Prop:=fun σ H=>ta σ H fun x H1=>tb σ H1 fun y H2=>∃ i j,x=.int i∧y=.int j∧k i j H2
def tAdd (ta tb:TE):TE:=fun σ H Q=>t2I ta tb (fun i j H2=>Q (.int (i+j)) H2) σ H
def tSub (ta tb:TE):TE:=fun σ H Q=>t2I ta tb (fun i j H2=>Q (.int (i-j)) H2) σ H
def tMul (ta tb:TE):TE:=fun σ H Q=>t2I ta tb (fun i j H2=>(-(2 ^ 64)<i∧i<2 ^ 64)∧Q (.int (i*j)) H2) σ H
variable {a b:Expr}{ta tb:TE}{pos:Pos}
def PC (X:Cx)(op:CmpOp)(a b:Expr)(t:TE):Prop:=
  ∀ (pins:List (Addr×Obj)) (s:Shared) (σ:St) (H:Hp) (Q:VK),Inv X pins σ H s→t σ H Q→
    wpAny (model X.prog X.w) X.A (eval a X.env) (fun v s₁=>wpAny (model X.prog X.w) X.A (eval b X.env) (fun u s₂=>wpAny (model X.prog X.w) X.A (compareOp op v u) (EP X pins σ Q) X.xe s₂) X.xe s₁) X.xe s
def ZNk (p:Int→Int→Bool)(ta tb:TE):TE:=fun σ H Q=>t2I ta tb (fun i j H2=>Q (.bl (p i j)) H2) σ H
abbrev tLt:TE→TE→TE:=ZNk fun i j=>decide (i<j)
abbrev tLe:TE→TE→TE:=ZNk fun i j=>decide (i≤j)
abbrev tGt:TE→TE→TE:=ZNk fun i j=>decide (j<i)
abbrev tGe:TE→TE→TE:=ZNk fun i j=>decide (j≤i)
abbrev tEqI:TE→TE→TE:=ZNk fun i j=>decide (i=j)
abbrev tNeI:TE→TE→TE:=ZNk fun i j=>!decide (i=j)
def tIsN (ta:TE):TE:=fun σ H Q=>ta σ H fun x H1=>Q (.bl (decide (x=.non))) H1
def tNotN (ta:TE):TE:=fun σ H Q=>ta σ H fun x H1=>Q (.bl (!decide (x=.non))) H1
def tB (t:TE):TT:=fun σ H Q=>t σ H fun x H1=>∃ c,x=.bl c∧Q c H1
theorem ZCd {e:Expr}{t:TE}(h:PE X e t)(he:∀ whole,isTrue e X.env whole=(do let v ← whole;standAt e.pos;holding [v] (truthy v)):=by intro _;rfl):PT X e (tB t):=by
  intro pins s σ H Q I hw
  refine isTrue_plain (thn (h pins s σ H _ I hw) fun v s1 zq=>?_) (he _)
  obtain ⟨x,H1,I1,r1,q1⟩:=zq
  obtain ⟨d,rfl,q⟩:=q1
  cases r1
  exact wpAny_truthy_bool ⟨H1,I1,q⟩
variable {tA tB':TT}{ZEu:List Expr}
def tAnd (t u:TT):TT:=fun σ H Q=>t σ H fun c H1=>if c=true then u σ H1 Q else Q false H1
def tOr (t u:TT):TT:=fun σ H Q=>t σ H fun c H1=>if c=true then Q true H1 else u σ H1 Q
def tNot (t:TT):TT:=fun σ H Q=>t σ H fun c H1=>Q (!c) H1
theorem ZE6 (ha:PT X a tA):PW X (.BoolOp .And [a] pos) tA:=by
  intro wh pins s σ H Q I h
  refine isTrue_and (thn (ha pins s σ H Q I h) fun c s1 e=>?_)
  cases c with
  | true=>exact isTrue_and_nil e
  | false=>exact e
theorem ZDq (ha:PT X a tA):PW X (.BoolOp .Or [a] pos) tA:=by
  intro wh pins s σ H Q I h
  refine isTrue_or (thn (ha pins s σ H Q I h) fun c s1 e=>?_)
  cases c with
  | false=>exact isTrue_or_nil e
  | true=>exact e
theorem ZE7 (ha:PT X a tA)(hb:PW X (.BoolOp .And (b::ZEu) pos) tB'):PW X (.BoolOp .And (a::b::ZEu) pos) (tAnd tA tB'):=by
  intro wh pins s σ H Q I h
  refine isTrue_and (thn (ha pins s σ H _ I h) fun c s1 zq=>?_)
  obtain ⟨H1,I1,q1⟩:=zq
  cases c with
  | true=>exact hb wh pins s1 σ H1 Q I1 q1
  | false=>exact ⟨H1,I1,q1⟩
theorem ZFj (ha:PT X a tA)(hb:PW X (.BoolOp .Or (b::ZEu) pos) tB'):PW X (.BoolOp .Or (a::b::ZEu) pos) (tOr tA tB'):=by
  intro wh pins s σ H Q I h
  refine isTrue_or (thn (ha pins s σ H _ I h) fun c s1 zq=>?_)
  obtain ⟨H1,I1,q1⟩:=zq
  cases c with
  | true=>exact ⟨H1,I1,q1⟩
  | false=>exact hb wh pins s1 σ H1 Q I1 q1
theorem ZII (ha:PT X a tA):PT X (.UnaryOp .Not a pos) (tNot tA):=by
  intro pins s σ H Q I h
  exact isTrue_not (ha pins s σ H (fun c H1=>Q (!c) H1) I h)
def ZPX (ta tb:TE):TE:=fun σ H Q=>ta σ H fun x H1=>∃ c,x=.bl c∧if c=true then tb σ H1 Q else Q (.bl false) H1
def tOrV (ta tb:TE):TE:=fun σ H Q=>ta σ H fun x H1=>∃ c,x=.bl c∧if c=true then Q (.bl true) H1 else tb σ H1 Q
def ZPY (ta:TE):TE:=fun σ H Q=>ta σ H fun x H1=>∃ c,x=.bl c∧Q (.bl (!c)) H1
theorem ZDW {op}{t:TE}(h:PE X a t):PE X (.BoolOp op [a] pos) t:=fun pins s σ H Q I hw=>BoolOp_one (h pins s σ H Q I hw)
theorem ZDB (ha:PE X a ta)(hb:PE X (.BoolOp .And (b::ZEu) pos) tb):PE X (.BoolOp .And (a::b::ZEu) pos) (ZPX ta tb):=by
  intro pins s σ H Q I h
  refine BoolOp_and (thn (ha pins s σ H _ I h) fun v s1 zq=>?_)
  obtain ⟨x,H1,I1,r1,q1⟩:=zq
  obtain ⟨c,rfl,q1⟩:=q1
  cases r1
  refine wpAny_truthy_bool ?_
  cases c with
  | true=>exact hb pins s1 σ H1 Q I1 q1
  | false=>exact ⟨.bl false,H1,I1,rfl,q1⟩
theorem ZPZ (ha:PE X a ta)(hb:PE X (.BoolOp .Or (b::ZEu) pos) tb):PE X (.BoolOp .Or (a::b::ZEu) pos) (tOrV ta tb):=by
  intro pins s σ H Q I h
  refine BoolOp_or (thn (ha pins s σ H _ I h) fun v s1 zq=>?_)
  obtain ⟨x,H1,I1,r1,q1⟩:=zq
  obtain ⟨c,rfl,q1⟩:=q1
  cases r1
  refine wpAny_truthy_bool ?_
  cases c with
  | false=>exact hb pins s1 σ H1 Q I1 q1
  | true=>exact ⟨.bl true,H1,I1,rfl,q1⟩
theorem ZL7 (ha:PE X a ta):PE X (.UnaryOp .Not a pos) (ZPY ta):=by
  intro pins s σ H Q I h
  refine UnaryOp_ (thn (ha pins s σ H _ I h) fun v s1 zq=>?_)
  obtain ⟨x,H1,I1,r1,q1⟩:=zq
  obtain ⟨c,rfl,q1⟩:=q1
  cases r1
  exact not_of (wpAny_truthy_bool ⟨.bl (!c),H1,I1,rfl,q1⟩)
def tIf (t:TT)(ta tb:TE):TE:=fun σ H Q=>t σ H fun c H1=>if c=true then ta σ H1 Q else tb σ H1 Q
theorem ZCf {c:Expr}(hc:PT X c tA)(ha:PE X a ta)(hb:PE X b tb):PE X (.IfExp c a b pos) (tIf tA ta tb):=by
  intro pins s σ H Q I h
  refine wpAny_IfExp (thn (hc pins s σ H _ I h) fun d s1 zq=>?_)
  obtain ⟨H1,I1,q1⟩:=zq
  cases d with
  | true=>exact ha pins s1 σ H1 Q I1 q1
  | false=>exact hb pins s1 σ H1 Q I1 q1
end
end L2
namespace L2
open PySem PySem.Spec PyProof.Rows
def SqL (K:PySem.W.Frag)(H:Hp)(a:Addr)(xs:List V):Prop:=
  Rd H a (.lst xs)∨
    ∃ (o:Obj) (its:Array Value) (n:Nat),K.lookup a=some o∧o.cls=.type "list"∧o.dict=none∧o.data=.seq its n∧its.size≤sizeLine∧ZBJ xs its.toList
def SqT (K:PySem.W.Frag)(H:Hp)(a:Addr)(xs:List V):Prop:=
  Rd H a (.tup xs)∨
    ∃ (o:Obj) (its:Array Value) (n:Nat),K.lookup a=some o∧o.cls=.type "tuple"∧o.data=.seq its n∧its.size≤sizeLine∧ZBJ xs its.toList
def absV:Value→Option V
  | .none=>some .non
  | .bool b=>some (.bl b)
  | .int i _=>some (.int i)
  | .str x _=>some (.str x)
  | .bytes b _=>some (.byt b)
  | .float b _=>some (.flt b)
  | .ref a=>some (.ref a)
  | .type n=>some (.ty n)
  | _=>none
theorem ZBC.abs {x:V}{u:Value}(r:ZBC x u):absV u=some x:=by
  cases x with
  | non=>cases r;rfl
  | bl _=>cases r;rfl
  | int _=>obtain ⟨t,rfl⟩:=r;rfl
  | str _=>obtain ⟨t,rfl⟩:=r;rfl
  | byt _=>obtain ⟨t,rfl⟩:=r;rfl
  | flt _=>obtain ⟨t,rfl⟩:=r;rfl
  | ref _=>cases r;rfl
  | ty _=>cases r;rfl
theorem ZBC.inj {x y:V}{u:Value}(r:ZBC x u)(q:ZBC y u):x=y:=Option.some.inj (r.abs.symm.trans q.abs)
theorem ZBJ.inj:∀ {xs ys:List V} {us:List Value},ZBJ xs us→ZBJ ys us→xs=ys:=by
  intro A B C h g
  induction h generalizing B with
  | nil=>
    cases g
    rfl
  | cons r t ih=>
    cases g with
    | cons r' t'=>rw [r.inj r',ih t']
section
variable {X:Cx}{pins:List (Addr×Obj)}{σ:St}{H:Hp}{s:Shared}{a:Addr}{xs ys:List V}
theorem SqL.of {K:PySem.W.Frag}(h:H a=some (.lst xs)):SqL K H a xs:=.inl (.inl h)
theorem SqT.of {K:PySem.W.Frag}(h:H a=some (.tup xs)):SqT K H a xs:=.inl (.inl h)
theorem Inv.list (I:Inv X pins σ H s)(h:SqL X.K H a xs):∃ its:List Value,ZBJ xs its∧PlainL s.heap a its.toArray∧xs.length≤sizeLine:=by
  rcases h with h | ⟨o,its,n,hk,hc,hd,hs,hz,r⟩
  · obtain ⟨z,its,n,r,e⟩:=h.ok I.hok
    exact ⟨its,r,⟨_,n,e,rfl,rfl,rfl⟩,z⟩
  · refine ⟨its.toList,r,⟨o,n,I.kIn a o hk,hc,hd,by simpa using hs⟩,?_⟩
    have e:=r.length
    simp only [Array.length_toList] at e
    omega
theorem Inv.tuple (I:Inv X pins σ H s)(h:SqT X.K H a xs):∃ its:List Value,ZBJ xs its∧IsTup s.heap a its.toArray∧xs.length≤sizeLine:=by
  rcases h with h | ⟨o,its,n,hk,hc,hs,hz,r⟩
  · obtain ⟨z,its,r,p⟩:=h.ok I.hok
    exact ⟨its,r,p,z⟩
  · refine ⟨its.toList,r,⟨o,I.kIn a o hk,hc,n,by simpa using hs⟩,?_⟩
    have e:=r.length
    simp only [Array.length_toList] at e
    omega
theorem Inv.list_inj (I:Inv X pins σ H s)(h:SqL X.K H a xs)(h':SqL X.K H a ys):xs=ys:=by
  obtain ⟨its,r,⟨o,n,e,_,_,d⟩,_⟩:=I.list h
  obtain ⟨its',r',⟨o',n',e',_,_,d'⟩,_⟩:=I.list h'
  rw [e] at e';cases e'
  rw [d] at d'
  injection d' with d1 _
  have:its=its':=by simpa using congrArg Array.toList d1
  subst this
  exact r.inj r'
theorem Inv.tuple_inj (I:Inv X pins σ H s)(h:SqT X.K H a xs)(h':SqT X.K H a ys):xs=ys:=by
  obtain ⟨its,r,⟨o,e,_,n,d⟩,_⟩:=I.tuple h
  obtain ⟨its',r',⟨o',e',_,n',d'⟩,_⟩:=I.tuple h'
  rw [e] at e';cases e'
  rw [d] at d'
  injection d' with d1 _
  have:its=its':=by simpa using congrArg Array.toList d1
  subst this
  exact r.inj r'
end
abbrev Cx.wish (X:Cx)(E:Value→Shared→Prop):Cx:={ X with xe:=E }
abbrev Cx.nox (X:Cx):Cx:=X.wish fun _ _=>False
theorem Cx.Ok.wish {X:Cx}(ok:X.Ok)(E:Value→Shared→Prop):(X.wish E).Ok:=
  ⟨ok.mod,ok.kind,ok.glob,ok.blt,ok.above,ok.inj,ok.has,ok.cab,ok.hd,ok.frames,ok.stk,ok.exf,ok.bs,ok.bsz,ok.noex,ok.exfs,ok.funs,ok.frf⟩
theorem Cx.Ok.unwish {X:Cx}{E:Value→Shared→Prop}(ok:(X.wish E).Ok):X.Ok:=
  ⟨ok.mod,ok.kind,ok.glob,ok.blt,ok.above,ok.inj,ok.has,ok.cab,ok.hd,ok.frames,ok.stk,ok.exf,ok.bs,ok.bsz,ok.noex,ok.exfs,ok.funs,ok.frf⟩
section
variable {X:Cx}{pins:List (Addr×Obj)}{σ:St}{H:Hp}{s:Shared}{E:Value→Shared→Prop}
theorem Inv.wish (I:Inv X pins σ H s)(E:Value→Shared→Prop):Inv (X.wish E) pins σ H s:=⟨I.ok.wish E,I.os,I.bare,I.base,I.loc,I.cell,I.free,I.freeC,I.pin,I.hok,I.len⟩
theorem Inv.unwish (I:Inv (X.wish E) pins σ H s):Inv X pins σ H s:=⟨I.ok.unwish,I.os,I.bare,I.base,I.loc,I.cell,I.free,I.freeC,I.pin,I.hok,I.len⟩
theorem SP.unwish {D:ZHd}{f:Flow}{s':Shared}(h:SP (X.wish E) pins D f s'):SP X pins D f s':=by
  cases f with
  | next=>obtain ⟨σ',H',I,q⟩:=h;exact ⟨σ',H',I.unwish,q⟩
  | brk=>obtain ⟨σ',H',I,q⟩:=h;exact ⟨σ',H',I.unwish,q⟩
  | cont=>obtain ⟨σ',H',I,q⟩:=h;exact ⟨σ',H',I.unwish,q⟩
  | ret u=>obtain ⟨v,σ',H',I,r,q⟩:=h;exact ⟨v,σ',H',I.unwish,r,q⟩
theorem PSs.nox {st:List Stmt}{t:TS}(h:PSs X.nox st t):PSs X st t:=fun pins s σ H D I hw=>
  wpAny_mono (h pins s σ H D (I.wish _) hw) (fun _ _ q=>q.unwish) fun _ _ z=>False.elim z
end
section
variable {X:Cx}{st:Stmt}{ZEu:List Stmt}{t u:TS}{e:Expr}{te:TE}{pos:Pos}
def ZPa:TS:=fun D σ H=>D.nx σ H
def ZEl (t u:TS):TS:=fun D σ H=>t { D with nx:=u D } σ H
theorem ZAP:PSs X [] ZPa:=fun _ _ σ H _ I h=>wpAny_execs_nil ⟨σ,H,I,h⟩
theorem ZAD (h1:PS X st t)(h2:PSs X ZEu u):PSs X (st::ZEu) (ZEl t u):=by
  intro pins s σ H D I h
  refine wpAny_execs_cons (thn (h1 pins s σ H { D with nx:=u D } I h) fun f s1 q=>?_)
  cases f with
  | next=>
    obtain ⟨σ',H',I',q⟩:=q
    exact h2 pins s1 σ' H' D I' q
  | ret v=>exact q
  | brk=>exact q
  | cont=>exact q
theorem ZAG (h1:PS X st t):PSs X [st] t:=by
  intro pins s σ H D I h
  refine wpAny_execs_cons (thn (h1 pins s σ H D I h) fun f s1 q=>?_)
  cases f with
  | next=>exact wpAny_execs_nil q
  | ret v=>exact q
  | brk=>exact q
  | cont=>exact q
def ZRV:TS:=fun D σ H=>D.bk σ H
def tCont:TS:=fun D σ H=>D.ct σ H
theorem Inv.quiet {pins:List (Addr×Obj)}{σ:St}{H:Hp}{s:Shared}(I:Inv X pins σ H s):interactive X.env=false:=by simp [interactive,I.ok.kind]
def ZPb (te:TE):TS:=fun D σ H=>te σ H fun _ H1=>D.nx σ H1
theorem ZCa (he:PE X e te)(hs:swapsWith e none pos.line X.env=pure false:=by rfl):PS X (.Expr e pos) (ZPb te):=by
  intro pins s σ H D I h
  exact wpAny_Expr_any (thn (he pins s σ H _ I h) fun v s1 ⟨x,H1,I1,r1,q1⟩=>⟨σ,H1,I1,q1⟩) I.quiet hs
def tRet (te:TE):TS:=fun D σ H=>te σ H D.rt
theorem ZAK (he:PE X e te):PS X (.Return (some e) pos) (tRet te):=by
  intro pins s σ H D I h
  exact wpAny_Return_some (thn (he pins s σ H _ I h) fun v s1 ⟨x,H1,I1,r1,q1⟩=>⟨x,σ,H1,I1,r1,q1⟩)
def tRetN:TS:=fun D _ H=>D.rt .non H
def tIfS (c:TT)(t u:TS):TS:=fun D σ H=>c σ H fun b H1=>if b=true then t D σ H1 else u D σ H1
theorem ZAj {c:Expr}{a b:List Stmt}{tc:TT}(hc:PT X c tc)(ha:PSs X a t)(hb:PSs X b u):PS X (.If c a b pos) (tIfS tc t u):=by
  intro pins s σ H D I h
  refine wpAny_If (thn (hc pins s σ H _ I h) fun d s1 zq=>?_)
  obtain ⟨H1,I1,q1⟩:=zq
  cases d with
  | true=>exact ha pins s1 σ H1 D I1 q1
  | false=>exact hb pins s1 σ H1 D I1 q1
def ZN0:TS:=fun _ _ _=>False
theorem ZCB:PS X st ZN0:=fun _ _ _ _ _ _ h=>h.elim
end
abbrev TG:=V→St→Hp→(St→Hp→Prop)→Prop
abbrev TGs:=List V→St→Hp→(St→Hp→Prop)→Prop
def PG (X:Cx)(target:Expr)(t:TG):Prop:=
  ∀ (pins:List (Addr×Obj)) (s:Shared) (σ:St) (H:Hp) (v:V) (u:Value) (Q:St→Hp→Prop),Inv X pins σ H s→ZBC v u→t v σ H Q→
    wpAny (model X.prog X.w) X.A (assign target X.env u) (fun _ s'=>∃ σ' H',Inv X pins σ' H' s'∧Q σ' H') X.xe s
def PGs (X:Cx)(ts:List Expr)(t:TGs):Prop:=
  ∀ (pins:List (Addr×Obj)) (s:Shared) (σ:St) (H:Hp) (vs:List V) (us:List Value) (Q:St→Hp→Prop),Inv X pins σ H s→ZBJ vs us→t vs σ H Q→
    wpAny (model X.prog X.w) X.A (assignInOrder ((assignEach ts X.env).map (·.2)) us) (fun _ s'=>∃ σ' H',Inv X pins σ' H' s'∧Q σ' H') X.xe s
abbrev ZPM:=V→V→V→Hp→(Hp→Prop)→Prop
def ZRW (X:Cx)(t:ZPM):Prop:=
  ∀ (pins:List (Addr×Obj)) (s:Shared) (σ:St) (H:Hp) (o i v:V) (ov iv u:Value) (Q:Hp→Prop),Inv X pins σ H s→ZBC o ov→ZBC i iv→ZBC v u→t o i v H Q→
    wpAny (model X.prog X.w) X.A (setItem ov iv u) (fun _ s'=>∃ H',Inv X pins σ H' s'∧Q H') X.xe s
abbrev TIp:=V→V→Hp→VK→Prop
def PIp (X:Cx)(op:Operator)(t:TIp):Prop:=
  ∀ (pins:List (Addr×Obj)) (s:Shared) (σ:St) (H:Hp) (x y:V) (v u:Value) (Q:VK),Inv X pins σ H s→ZBC x v→ZBC y u→t x y H Q→
    wpAny (model X.prog X.w) X.A (inplaceOp op v u) (EP X pins σ Q) X.xe s
section
variable {X:Cx}{pos:Pos}
def ZE8 (i:Nat):TG:=fun v σ H Q=>Q (σ.set i (some v)) H
theorem ZA2 {i:Nat}{x:Str}(hN:X.N.Nodup)(hi:X.N[i]?=some x)(hx:Loc X.env.scope x)(hf:X.fn x=true∨X.env.scope.names.lookup x=some .local:=by first | exact .inl rfl | exact .inr rfl | assumption):PG X (.Name x pos) (ZE8 i):=by
  intro pins s σ H v u Q I r h
  exact wpAny_assign_Name (ZEv I hN hi hx r (fun s' I'=>⟨_,H,I',h⟩) hf)
def ZPc:TGs:=fun vs σ H Q=>vs=[]∧Q σ H
def ZJY (t:TG)(u:TGs):TGs:=fun vs σ H Q=>∃ v r,vs=v::r∧t v σ H fun σ' H'=>u r σ' H' Q
theorem ZER:PGs X [] ZPc:=by
  intro pins s σ H vs us Q I r h
  obtain ⟨e,h⟩:=h
  subst e
  cases r
  exact assignInOrder_nil ⟨σ,H,I,h⟩
theorem ZB0 {e:Expr}{es:List Expr}{t:TG}{u:TGs}(h1:PG X e t)(h2:PGs X es u)
    (hs:(assignEach (e::es) X.env).map (·.2)=assign e X.env::(assignEach es X.env).map (·.2):=by rfl):PGs X (e::es) (ZJY t u):=by
  intro pins s σ H vs us Q I r h
  obtain ⟨v,vr,e1,h⟩:=h
  subst e1
  cases r with
  | cons r rr=>
    rw [hs]
    refine assignInOrder_cons (thn (h1 pins s σ H _ _ _ I r h) fun _ s1 zq=>?_)
    obtain ⟨σ1,H1,I1,q1⟩:=zq
    exact h2 pins s1 σ1 H1 _ _ Q I1 rr q1
def ZPd (K:PySem.W.Frag)(n:Nat)(t:TGs):TG:=fun v σ H Q=>∃ a xs,v=.ref a∧SqT K H a xs∧xs.length=n∧t xs σ H Q
theorem ZGx {es:List Expr}{k:Nat}{t:TGs}{n:Nat}(hc:X.calm=true)(h:PGs X es t)
    (hn:(assignEach es X.env).length=n:=by rfl) (hst:(assignEach es X.env).findIdx? (·.1)=none:=by rfl):PG X (.Tuple es k pos) (ZPd X.K n t):=by
  intro pins s σ H v u Q I r hw
  obtain ⟨a,xs,e1,hq,hl,hw⟩:=hw
  subst e1
  cases r
  obtain ⟨its,rv,ht,hz⟩:=I.tuple hq
  refine assign_Tuple_tuple (I.ok.hd hc) ht (by simp [hn,← hl,rv.length]) hst fun h' hx=>?_
  have I1:Inv X pins σ H { s with heap:=h' }:=I.kept (t':=s.toks) fun b o e=>hx b o (Nat.ne_of_lt (Heap.lt_size e)) e
  exact h pins _ σ H xs _ Q I1 (by simpa using rv) hw
def gSub (to ti:TE)(t:ZPM):TG:=fun v σ H Q=>to σ H fun o H1=>ti σ H1 fun i H2=>t o i v H2 fun H3=>Q σ H3
theorem ZJZ {o i:Expr}{to ti:TE}{t:ZPM}(ho:PE X o to)(hi:PE X i ti)(hs:ZRW X t)
    (ha:∀ v,assign (.Subscript o i pos) X.env v=(do
      let ov ← holding [v] (eval o X.env)
      let iv ← holding [v,ov] (eval i X.env)
      standAt pos
      holding [v,ov,iv] (setItem ov iv v)
      release [v,ov,iv] []):=by intro _;rfl):PG X (.Subscript o i pos) (gSub to ti t):=by
  intro pins s σ H v u Q I r h
  rw [ha]
  refine wpAny_bind (wpAny_holding (thn (ho pins s σ H _ I h) fun ov s1 zq=>?_))
  obtain ⟨x,H1,I1,r1,q1⟩:=zq
  refine wpAny_bind (wpAny_holding (thn (hi pins s1 σ H1 _ I1 q1) fun iv s2 zq=>?_))
  obtain ⟨y,H2,I2,r2,q2⟩:=zq
  refine wpAny_bind (wpAny_standAt (wpAny_bind (wpAny_holding (thn (hs pins s2 σ H2 x y v ov iv u _ I2 r1 r2 r q2) fun _ s3 zq=>?_))))
  obtain ⟨H3,I3,q3⟩:=zq
  exact wpAny_release ⟨σ,H3,I3,q3⟩
def ZPe (te:TE)(g:TG):TS:=fun D σ H=>te σ H fun x H1=>g x σ H1 D.nx
theorem ZIJ {tg e:Expr}{te:TE}{g:TG}(he:PE X e te)(hg:PG X tg g)(hs:swapsWithSole [tg] e pos.line X.env=pure false:=by rfl)(hw:swappedStores [tg] e X.env=pure none:=by rfl)
    (h1:(assignEach [tg] X.env).map (·.2)=[assign tg X.env]:=by rfl):PS X (.Assign [tg] e pos) (ZPe te g):=by
  intro pins s σ H D I h
  refine wpAny_Assign_stores (thn (he pins s σ H _ I h) fun v s1 zq=>?_) hs hw
  obtain ⟨x,H1,I1,r1,q1⟩:=zq
  rw [h1]
  exact thn (hg pins s1 σ H1 x v _ I1 r1 q1) fun _ s2 q=>q
theorem ZAd {i:Nat}{x:Str}{e:Expr}{te:TE}{pos':Pos}(hN:X.N.Nodup)(hi:X.N[i]?=some x)(hx:Loc X.env.scope x)(he:PE X e te)(hs:swapsWith e (some (.Name x pos')) pos.line X.env=pure false:=by rfl)(hf:X.fn x=true∨X.env.scope.names.lookup x=some .local:=by first | exact .inl rfl | exact .inr rfl | assumption):
    PS X (.Assign [.Name x pos'] e pos) (ZPe te (ZE8 i)):=by
  intro pins s σ H D I h
  refine wpAny_Assign_Name (thn (he pins s σ H _ I h) fun v s1 zq=>?_) hs
  obtain ⟨y,H1,I1,r1,q1⟩:=zq
  exact ZEv I1 hN hi hx r1 (fun s2 I2=>⟨_,H1,I2,q1⟩) hf
def tPar (i j:Nat)(ta:TA):TS:=fun D σ H=>ta σ H fun vs H1=>∃ v w,vs=[v,w]∧D.nx ((σ.set i (some v)).set j (some w)) H1
theorem ZN1 {i j:Nat}{x y:Str}{a b:Expr}{ta:TA}{px py pt:Pos}{kt k2 pt2}(hc:X.calm=true)(hN:X.N.Nodup)(hi:X.N[i]?=some x)(hj:X.N[j]?=some y)(hij:i≠j)
    (hx:X.env.scope.names.lookup x=some .local) (hy:X.env.scope.names.lookup y=some .local) (ha:PA X [a,b] ta)
    (hw:swappedStores [.Tuple [.Name x px,.Name y py] kt pt] (.Tuple [a,b] k2 pt2) X.env=pure (some [x,y]))
    (hs:swapsWithSole [.Tuple [.Name x px,.Name y py] kt pt] (.Tuple [a,b] k2 pt2) pos.line X.env=pure false:=by rfl):
    PS X (.Assign [.Tuple [.Name x px,.Name y py] kt pt] (.Tuple [a,b] k2 pt2) pos) (tPar i j ta):=by
  intro pins s σ H D I h
  rw [exec_Assign_arm]
  refine wpAny_bind (wpAny_standAt ?_)
  rw [hs]
  refine wpAny_bind (wpAny_pure ?_)
  rw [if_neg (by decide)]
  refine wpAny_bind (Tuple_ (thn (ha _ pins s σ H _ I h) fun us s1 zq=>?_))
  obtain ⟨vs,H1,I1,r1,q1⟩:=zq
  obtain ⟨v,w,e1,q1⟩:=q1
  subst e1
  obtain ⟨u1,u2,rfl,rv,rw'⟩:∃ u1 u2,us=[u1,u2]∧ZBC v u1∧ZBC w u2:=by
    cases r1 with
    | cons p q=>
      cases q with
      | cons p' q'=>
        cases q'
        exact ⟨_,_,rfl,p,p'⟩
  refine wpAny_newObj_type ?_ (by show 2≤sizeLine;decide)
  have I2:Inv X pins σ H1 { s1 with heap:=s1.heap.push { cls:=.type "tuple",data:=.seq [u1,u2].toArray } }:=I1.kept (t':=s1.toks) fun b o e=>Heap.get?_push_of_some _ e
  rw [hw]
  refine wpAny_bind (wpAny_pure ?_)
  show wpAny (model X.prog X.w) X.A (do rule "assign.swapped-stores";let items ← unpackItems (.ref s1.heap.objs.size) 2 none;assignInOrder [fun v=>bindName X.env y v,fun v=>bindName X.env x v] items.reverse;pure Flow.next) _ _ _
  refine wpAny_bind (wpAny_rule (wpAny_bind (unpackItems_tuple (items:=#[u1,u2]) (I.ok.hd hc) (IsTup.new s1.heap _) fun h' hx'=>?_)))
  have I3:=I2.kept (h':=h') (t':=s1.toks) fun b o e=>hx' b o (Nat.ne_of_lt (Heap.lt_size e)) e
  show wpAny _ _ (assignInOrder [fun v=>bindName X.env y v,fun v=>bindName X.env x v] [u2,u1] >>= fun _=>pure Flow.next) _ _ _
  refine wpAny_bind (assignInOrder_cons (wpAny_bindName (ZEv I3 hN hj (.inl hy) rw' (fun s2 I4=>?_) (.inr hy))))
  refine assignInOrder_cons (wpAny_bindName (ZEv I4 hN hi (.inl hx) rv (fun s3 I5=>assignInOrder_nil (wpAny_pure ?_)) (.inr hx)))
  rw [List.set_comm _ _ (Ne.symm hij)] at I5
  exact ⟨_,H1,I5,q1⟩
def tAug (i:Nat)(te:TE)(ti:TIp):TS:=fun D σ H=>∃ x,σ[i]?=some (some x)∧te σ H fun y H1=>ti x y H1 fun z H2=>D.nx (σ.set i (some z)) H2
def tAugS (to ti te:TE)(tget:V→V→Hp→VK→Prop)(tip:TIp)(tset:ZPM):TS:=fun D σ H=>to σ H fun o H1=>ti σ H1 fun i H2=>tget o i H2 fun x H3=>te σ H3 fun y H4=>tip x y H4 fun z H5=>tset o i z H5 fun H6=>D.nx σ H6
def PGet (X:Cx)(t:V→V→Hp→VK→Prop):Prop:=
  ∀ (pins:List (Addr×Obj)) (s:Shared) (σ:St) (H:Hp) (o i:V) (ov iv:Value) (Q:VK),Inv X pins σ H s→ZBC o ov→ZBC i iv→t o i H Q→
    wpAny (model X.prog X.w) X.A (getItem ov iv) (EP X pins σ Q) X.xe s
def ipI (f:Int→Int→Int):TIp:=fun x y H Q=>∃ i j,x=.int i∧y=.int j∧Q (.int (f i j)) H
end
section
variable {X:Cx}{pos:Pos}
def ZL8 (c:TT)(tb:TS):TS:=fun D σ H=>∃ W:Nat→St→Hp→Prop,(∃ m,W m σ H)∧∀ m σ H,W m σ H→
  c σ H fun b H1=>if b=true then ∃ N:St→Hp→Prop,(∀ σ' H',N σ' H'→∃ m',m'<m∧W m' σ' H')∧tb { D with nx:=N,ct:=N,bk:=D.nx } σ H1 else D.nx σ H1
theorem ZGB {c:Expr}{body:List Stmt}{tc:TT}{tb:TS}(hp:PassesOwn (model X.prog X.w) X.A X.env X.xe)(hc:PT X c tc)(hb:PSs X body tb):PS X (.While c body [] pos) (ZL8 tc tb):=by
  intro pins s σ H D I h
  obtain ⟨W,⟨m0,w0⟩,turn⟩:=h
  refine wpAny_While (codeAny_whileLoop (fun n s'=>∃ σ' H',Inv X pins σ' H' s'∧W n σ' H') ?_ m0 ⟨σ,H,I,w0⟩)
  rintro n s1 ⟨σ1,H1,I1,w1⟩
  refine wpAny_passesOwn hp (thn (hc pins s1 σ1 H1 _ I1 (turn n σ1 H1 w1)) fun b s2 zq=>?_)
  obtain ⟨H2,I2,q2⟩:=zq
  cases b with
  | true=>
    obtain ⟨N,hN,q2⟩:=q2
    rw [if_pos rfl]
    refine wpAny_passesOwn hp (thn (hb pins s2 σ1 H2 _ I2 q2) fun f s3 q3=>?_)
    cases f with
    | next=>
      obtain ⟨σ3,H3,I3,n3⟩:=q3
      obtain ⟨m',hm,w3⟩:=hN σ3 H3 n3
      exact ⟨m',hm,σ3,H3,I3,w3⟩
    | cont=>
      obtain ⟨σ3,H3,I3,n3⟩:=q3
      obtain ⟨m',hm,w3⟩:=hN σ3 H3 n3
      exact ⟨m',hm,σ3,H3,I3,w3⟩
    | brk=>exact q3
    | ret v=>exact q3
  | false=>
    rw [if_neg Bool.false_ne_true]
    exact wpAny_execs_nil ⟨σ1,H2,I2,q2⟩
end
structure It where
  go:Nat→Hp→Prop
  yld:Nat→Hp→V→Hp→Prop
  stop:Nat→Hp→Prop
def ZGs (X:Cx)(pins:List (Addr×Obj))(H:Hp)(b:Addr):Prop:=
  H b=none∧b≠X.env.locals∧b∉X.fs∧(b∈X.ex∨X.s₀.heap.objs.size≤b)∧(∀ x c,X.env.cells.lookup x=some c→c≠b)∧∀ p∈X.pn++pins,p.1≠b
theorem Inv.fpOk {X:Cx}{pins:List (Addr×Obj)}{σ:St}{H H':Hp}{s:Shared}{b:Addr}(I:Inv X pins σ H s)(hb:s.heap.objs.size≤b)(hn:H' b=none):ZGs X pins H' b:=by
  refine ⟨hn,Nat.ne_of_gt (Nat.lt_of_lt_of_le I.lt hb),I.nofs hb,.inr (Nat.le_trans I.sz hb),fun x c e z=>?_,fun p hp z=>?_⟩
  · obtain ⟨v,q⟩:=I.cell x c e
    exact absurd (Nat.lt_of_lt_of_le q.lt (by rw [z];exact hb)) (Nat.lt_irrefl _)
  · exact absurd (Nat.lt_of_lt_of_le (Heap.lt_size (I.pin p hp).1) (by rw [z];exact hb)) (Nat.lt_irrefl _)
structure ZLC (P:Program)(w:World)(K:PySem.W.Frag)(tg:Expr)(J:It)(fp:List Addr)(it:Addr)(tn:Nat→Heap→Prop):Prop where
  mem:it∈fp
  obj:∀ i h,tn i h→∀ b∈fp,∃ o,h.get? b=some o∧∀ v,o.data≠.cell v
  keep:∀ i h h',tn i h→(∀ b∈fp,∀ o,h.get? b=some o→h'.get? b=some o)→tn i h'
  item:∀ (X:Cx),X.prog=P→X.w=w→X.K=K→X.calm=true→∀ (i:Nat) (pins:List (Addr×Obj)) (s:Shared) (σ:St) (H:Hp) (E:Value→Shared→Prop),Inv X pins σ H s→(∀ b∈fp,ZGs X pins H b)→tn i s.heap→J.go i H→
    wpAny (model P w) X.A (pyNext (.ref it)) (fun r s1=>∃ u,r=some u∧
      wpAny (model P w) X.A (letOwnedTupleGo tg (.ref it) u) (fun _ s2=>∃ x H',Inv X pins σ H' s2∧ZBC x u∧J.yld i H x H'∧tn (i+1) s2.heap∧∀ b∈fp,H' b=none) E s1) E s
  done:∀ (X:Cx),X.prog=P→X.w=w→X.K=K→X.calm=true→∀ (i:Nat) (pins:List (Addr×Obj)) (s:Shared) (σ:St) (H:Hp) (E:Value→Shared→Prop),Inv X pins σ H s→(∀ b∈fp,ZGs X pins H b)→tn i s.heap→J.stop i H→
    wpAny (model P w) X.A (pyNext (.ref it)) (fun r s1=>r=none∧Inv X pins σ H s1) E s
  self:∀ (A:Around) (i:Nat) (s:Shared) (Q:Value→Shared→Prop) (E:Value→Shared→Prop),tn i s.heap→Q (.ref it) s→wpAny (model P w) A (pyIter (.ref it)) Q E s
abbrev TI:=St→Hp→(It→Hp→Prop)→Prop
def PIE (X:Cx)(pins:List (Addr×Obj))(σ:St)(tg:Expr)(R:It→Hp→Prop)(itv:Value)(s2:Shared):Prop:=
  ∃ (it:Addr) (fp:List Addr) (tn:Nat→Heap→Prop) (J:It) (H':Hp),itv=.ref it∧Inv X pins σ H' s2∧ZLC X.prog X.w X.K tg J fp it tn∧tn 0 s2.heap∧(∀ b∈fp,ZGs X pins H' b)∧R J H'
def PI (X:Cx)(tg iter:Expr)(wi:TI):Prop:=
  ∀ (pins:List (Addr×Obj)) (s:Shared) (σ:St) (H:Hp) (R:It→Hp→Prop),Inv X pins σ H s→wi σ H R→
    wpAny (model X.prog X.w) X.A (eval iter X.env) (fun v s1=>wpAny (model X.prog X.w) X.A (pyIter v) (PIE X pins σ tg R) X.xe s1) X.xe s
theorem ZIu {M:Model}{A:Around}{E:Value→Shared→Prop}{s:Shared}{tg:Expr}{it:Addr}{u:Value}{o:Obj}{n:String}{vs:Array Value}{Q:Unit→Shared→Prop}(ho:s.heap.get? it=some o)(hc:o.cls=.type n)(hd:o.data=.fields vs)
    (hn:["enumerate","zip","dict_itemiterator","dict_reverseitemiterator","odict_iterator","itertools.zip_longest","itertools.pairwise"].contains n=false) (hQ:Q () s):wpAny M A (letOwnedTupleGo tg (.ref it) u) Q E s:=by
  unfold letOwnedTupleGo
  cases tg <;> first
    | exact wpAny_pure hQ
    | (cases u <;> first
        | exact wpAny_pure hQ
        | (refine wpAny_bind (wpAny_load ho ?_)
           rw [hc,hd]
           show wpAny M A (if (["enumerate","zip","dict_itemiterator","dict_reverseitemiterator","odict_iterator","itertools.zip_longest","itertools.pairwise"].contains n&&vs[0]?==some (rawInt _))=true then _ else _) Q E s
           rw [if_neg (by intro h;rw [hn,Bool.false_and] at h;cases h)]
           exact wpAny_pure hQ))
def Itl (K:PySem.W.Frag)(a:Addr):It:=
  ⟨fun i H=>∃ xs x,SqL K H a xs∧xs[i]?=some x,fun i H x H'=>H'=H∧∀ xs,SqL K H a xs→xs[i]?=some x,fun i H=>∃ xs,SqL K H a xs∧xs.length≤i⟩
def Itt (K:PySem.W.Frag)(a:Addr):It:=
  ⟨fun i H=>∃ xs x,SqT K H a xs∧xs[i]?=some x,fun i H x H'=>H'=H∧∀ xs,SqT K H a xs→xs[i]?=some x,fun i H=>∃ xs,SqT K H a xs∧xs.length≤i⟩
def Itr (lo:Int)(n:Nat):It:=⟨fun i _=>i<n,fun i H x H'=>H'=H∧x=.int (lo+i),fun i _=>n≤i⟩
theorem ZJa {P:Program}{w:World}{K:PySem.W.Frag}{tg:Expr}(a it:Addr):ZLC P w K tg (Itl K a) [it] it (fun i h=>h.IsListIter it a i) where
  mem:=by simp
  obj:=fun i h st b hb=>by
    have e:b=it:=by simpa using hb
    subst e
    obtain ⟨o,e,c,d⟩:=st
    exact ⟨o,e,fun v z=>by rw [d] at z;cases z⟩
  keep:=fun i h h' st k=>st.at fun o e=>k it (by simp) o e
  item:=by
    intro X hP hw hK hc i pins s σ H E I hf st hg
    subst hP hw hK
    obtain ⟨xs,x,hq,hx⟩:=hg
    obtain ⟨its,rv,p,hz⟩:=I.list hq
    obtain ⟨u,hu,ru⟩:=rv.get hx
    obtain ⟨f0,f1,f2,f3,f4,f5⟩:=hf it (by simp)
    refine wpAny_pyNext_list_item st p.isList (x:=u) (by simpa using hu) fun h' st' sb=>?_
    have I1:Inv X pins σ H { s with heap:=h' }:=I.turned (t':=s.toks) (fun b o hb e=>(sb.2 b hb).trans e) f0 f1 f3 f4 f5
    obtain ⟨o,e,c,d⟩:=id st'
    exact ⟨u,rfl,ZIu (s:={ s with heap:=h' }) e c d (by decide) ⟨x,H,I1,ru,⟨rfl,fun ys hy=>by rw [I.list_inj hy hq];exact hx⟩,st',fun b hb=>(hf b hb).1⟩⟩
  done:=by
    intro X hP hw hK hc i pins s σ H E I hf st hg
    subst hP hw hK
    obtain ⟨xs,hq,hx⟩:=hg
    obtain ⟨its,rv,p,hz⟩:=I.list hq
    obtain ⟨f0,f1,f2,f3,f4,f5⟩:=hf it (by simp)
    have hl:=rv.length
    exact wpAny_pyNext_list_end (I.ok.hd hc) st p.isList (by simp;omega) fun h' eb=>⟨rfl,I.turned (t':=s.toks) (fun b o hb e=>eb b o hb e) f0 f1 f3 f4 f5⟩
  self:=fun _ _ _ _ _ st h=>wpAny_pyIter_listiter st h
theorem ZIv {P:Program}{w:World}{K:PySem.W.Frag}{tg:Expr}(a it:Addr):ZLC P w K tg (Itt K a) [it] it (fun i h=>h.IsTupleIter it a i) where
  mem:=by simp
  obj:=fun i h st b hb=>by
    have e:b=it:=by simpa using hb
    subst e
    obtain ⟨o,e,c,d⟩:=st
    exact ⟨o,e,fun v z=>by rw [d] at z;cases z⟩
  keep:=fun i h h' st k=>st.at fun o e=>k it (by simp) o e
  item:=by
    intro X hP hw hK hc i pins s σ H E I hf st hg
    subst hP hw hK
    obtain ⟨xs,x,hq,hx⟩:=hg
    obtain ⟨its,rv,p,hz⟩:=I.tuple hq
    obtain ⟨u,hu,ru⟩:=rv.get hx
    obtain ⟨f0,f1,f2,f3,f4,f5⟩:=hf it (by simp)
    refine wpAny_pyNext_tuple_item st (show s.heap.IsTuple a its.toArray from p) (x:=u) (by simpa using hu) fun h' st' sb=>?_
    have I1:Inv X pins σ H { s with heap:=h' }:=I.turned (t':=s.toks) (fun b o hb e=>(sb.2 b hb).trans e) f0 f1 f3 f4 f5
    obtain ⟨o,e,c,d⟩:=id st'
    exact ⟨u,rfl,ZIu (s:={ s with heap:=h' }) e c d (by decide) ⟨x,H,I1,ru,⟨rfl,fun ys hy=>by rw [I.tuple_inj hy hq];exact hx⟩,st',fun b hb=>(hf b hb).1⟩⟩
  done:=by
    intro X hP hw hK hc i pins s σ H E I hf st hg
    subst hP hw hK
    obtain ⟨xs,hq,hx⟩:=hg
    obtain ⟨its,rv,p,hz⟩:=I.tuple hq
    obtain ⟨f0,f1,f2,f3,f4,f5⟩:=hf it (by simp)
    have hl:=rv.length
    exact wpAny_pyNext_tuple_end (I.ok.hd hc) st (show s.heap.IsTuple a its.toArray from p) (by simp;omega) fun h' eb=>⟨rfl,I.turned (t':=s.toks) (fun b o hb e=>eb b o hb e) f0 f1 f3 f4 f5⟩
  self:=fun _ _ _ _ _ st h=>wpAny_pyIter_tupleiter st h
theorem ZIw {P:Program}{w:World}{K:PySem.W.Frag}{tg:Expr}(it:Addr)(lo:Int)(n:Nat):ZLC P w K tg (Itr lo n) [it] it (fun i h=>IsRangeIter h it (lo+(i:Nat)*1) ((n:Int)-(i:Nat)) 1) where
  mem:=by simp
  obj:=fun i h st b hb=>by
    have e:b=it:=by simpa using hb
    subst e
    exact ⟨_,st,fun v z=>by
      have z':Data.fields _=Data.cell v:=z
      cases z'⟩
  keep:=fun i h h' st k=>k it (by simp) _ st
  item:=by
    intro X hP hw hK hc i pins s σ H E I hf st hg
    subst hP hw hK
    obtain ⟨f0,f1,f2,f3,f4,f5⟩:=hf it (by simp)
    have W:=Walks.range (prog:=X.prog) (w:=X.w) (I.ok.hd hc) it lo 1 n
    refine W.item i s _ _ hg st fun v h' tk hv st' kk=>?_
    obtain ⟨t,rfl⟩:=hv
    have I1:Inv X pins σ H { s with heap:=h',toks:=tk }:=I.turned (fun b o hb e=>kk b o (by simpa using hb) e) f0 f1 f3 f4 f5
    refine ⟨_,rfl,ZIu (s:={ s with heap:=h',toks:=tk }) (n:="range_iterator") st' rfl rfl (by decide) ⟨.int (lo+i),H,I1,⟨t,?_⟩,⟨rfl,rfl⟩,st',fun b hb=>(hf b hb).1⟩⟩
    rw [Int.mul_one]
  done:=by
    intro X hP hw hK hc i pins s σ H E I hf st hg
    subst hP hw hK
    obtain ⟨f0,f1,f2,f3,f4,f5⟩:=hf it (by simp)
    exact wpAny_pyNext_range_end (I.ok.hd hc) st (by have:n≤i:=hg;omega) fun h' eb=>⟨rfl,I.turned (t':=s.toks) (fun b o hb e=>eb b o hb e) f0 f1 f3 f4 f5⟩
  self:=fun _ _ _ _ _ st h=>wpAny_pyIter_rangeiter st h
end L2
namespace L2
open PySem PySem.Spec PyProof.Rows
section
variable {X:Cx}{tg:Expr}
def ZPf (K:PySem.W.Frag)(tl:TE):TI:=fun σ H R=>tl σ H fun x H1=>∃ a,x=.ref a∧(∃ xs,SqL K H1 a xs)∧R (Itl K a) H1
def iTup (K:PySem.W.Frag)(tl:TE):TI:=fun σ H R=>tl σ H fun x H1=>∃ a,x=.ref a∧(∃ xs,SqT K H1 a xs)∧R (Itt K a) H1
theorem ZDw {l:Expr}{tl:TE}(hl:PE X l tl):PI X tg l (ZPf X.K tl):=by
  intro pins s σ H R I h
  refine thn (hl pins s σ H _ I h) fun v s1 zq=>?_
  obtain ⟨x,H1,I1,r1,q1⟩:=zq
  obtain ⟨a,e,⟨xs,hq⟩,q⟩:=q1
  subst e
  cases r1
  obtain ⟨its,rv,p,hz⟩:=I1.list hq
  refine wpAny_pyIter_list p.isList ?_
  refine ⟨s1.heap.objs.size,[s1.heap.objs.size],_,_,H1,rfl,I1.kept (t':=s1.toks) fun b o e=>Heap.get?_push_of_some _ e,ZJa a _,⟨_,Heap.get?_push_size _ rfl,rfl,rfl⟩,fun b hb=>?_,q⟩
  have e:b=s1.heap.objs.size:=by simpa using hb
  subst e
  exact I1.fpOk (Nat.le_refl _) (I1.hok.fresh (Nat.le_refl _))
theorem ZGy {l:Expr}{tl:TE}(hl:PE X l tl):PI X tg l (iTup X.K tl):=by
  intro pins s σ H R I h
  refine thn (hl pins s σ H _ I h) fun v s1 zq=>?_
  obtain ⟨x,H1,I1,r1,q1⟩:=zq
  obtain ⟨a,e,⟨xs,hq⟩,q⟩:=q1
  subst e
  cases r1
  obtain ⟨its,rv,p,hz⟩:=I1.tuple hq
  refine wpAny_pyIter_tuple (show s1.heap.IsTuple a its.toArray from p) ?_
  refine ⟨s1.heap.objs.size,[s1.heap.objs.size],_,_,H1,rfl,I1.kept (t':=s1.toks) fun b o e=>Heap.get?_push_of_some _ e,ZIv a _,⟨_,Heap.get?_push_size _ rfl,rfl,rfl⟩,fun b hb=>?_,q⟩
  have e:b=s1.heap.objs.size:=by simpa using hb
  subst e
  exact I1.fpOk (Nat.le_refl _) (I1.hok.fresh (Nat.le_refl _))
theorem ZIK {pins:List (Addr×Obj)}{σ:St}{H:Hp}{s:Shared}{R:It→Hp→Prop}{E:Value→Shared→Prop}{lo hi:Int}{t u v:Tok}{tk:Nat}(I:Inv X pins σ H s)(h1:-(2 ^ 62)≤lo)(h2:lo<2 ^ 62)(h3:-(2 ^ 62)≤hi)(h4:hi<2 ^ 62)
    (q:R (Itr lo (hi-lo).toNat) H):wpAny (model X.prog X.w) X.A (pyIter (.ref s.heap.objs.size)) (PIE X pins σ tg R) E { s with heap:=s.heap.push { cls:=.type "range",data:=.fields #[.int lo t,.int hi u,.int 1 v] },toks:=tk }:=by
  refine wpAny_pyIter_range (IsRange.new ..) (small_one h1 h2 h3 h4) ?_
  have I1:Inv X pins σ H { s with heap:=s.heap.push { cls:=.type "range",data:=.fields #[.int lo t,.int hi u,.int 1 v] },toks:=tk }:=I.kept fun b o e=>Heap.get?_push_of_some _ e
  refine ⟨(s.heap.push { cls:=.type "range",data:=.fields #[.int lo t,.int hi u,.int 1 v] }).objs.size,[(s.heap.push { cls:=.type "range",data:=.fields #[.int lo t,.int hi u,.int 1 v] }).objs.size],_,_,H,rfl,
    I1.kept (t':=tk) fun b o e=>Heap.get?_push_of_some _ e,ZIw _ lo (hi-lo).toNat,?_,fun b hb=>?_,q⟩
  · have e1:lo+((0:Nat):Int)*1=lo:=by simp
    have e2:(((hi-lo).toNat:Nat):Int)-((0:Nat):Int)=Builtin.Range.rangeSize lo hi 1:=by rw [rangeSize_one];split <;> omega
    show IsRangeIter _ _ (lo+((0:Nat):Int)*1) ((((hi-lo).toNat:Nat):Int)-((0:Nat):Int)) 1
    rw [e1,e2]
    exact Heap.get?_push_size _ rfl
  · have e:b=(s.heap.push { cls:=.type "range",data:=.fields #[.int lo t,.int hi u,.int 1 v] }).objs.size:=by simpa using hb
    subst e
    exact I1.fpOk (Nat.le_refl _) (I1.hok.fresh (Nat.le_refl _))
def ZPg (ta:TA):TI:=fun σ H R=>ta σ H fun vs H1=>∃ j:Int,vs=[.int j]∧-(2 ^ 62)≤j∧j<2 ^ 62∧R (Itr 0 j.toNat) H1
def ZPh (ta:TA):TI:=fun σ H R=>ta σ H fun vs H1=>∃ i j:Int,vs=[.int i,.int j]∧(-(2 ^ 62)≤i∧i<2 ^ 62∧-(2 ^ 62)≤j∧j<2 ^ 62)∧R (Itr i (j-i).toNat) H1
theorem ZE9 {a:Expr}{ta:TA}{p pos:Pos}(hg:Gl X "range")(hm:X.mg "range"=none)(ha:PA X [a] ta)(hs:starEach [a] X.env=[(false,eval a X.env)]:=by rfl):PI X tg (.Call (.Name "range" p) [a] [] pos) (ZPg ta):=by
  intro pins s σ H R I h
  refine Call_ (ZDp I hg hm boot_range (PyProof.Rows.callWith_type1 (thn (ha pos pins s σ H _ I h) fun us s1 zq=>?_) hs rfl))
  obtain ⟨vs,H1,I1,r1,q1⟩:=zq
  obtain ⟨j,e,q1,q2,q⟩:=q1
  subst e
  cases r1 with
  | cons r rr=>
    cases rr
    obtain ⟨t,rfl⟩:=r
    exact call_range_1 (ZIK I1 (by omega) (by omega) q1 q2 (by simpa using q))
theorem ZGz {a b:Expr}{ta:TA}{p pos:Pos}(hg:Gl X "range")(hm:X.mg "range"=none)(ha:PA X [a,b] ta)(hs:starEach [a,b] X.env=[(false,eval a X.env),(false,eval b X.env)]:=by rfl)(hs2:starEach [b] X.env=[(false,eval b X.env)]:=by rfl):
    PI X tg (.Call (.Name "range" p) [a,b] [] pos) (ZPh ta):=by
  intro pins s σ H R I h
  refine Call_ (ZDp I hg hm boot_range (PyProof.Rows.callWith_type1 (thn (ha pos pins s σ H _ I h) fun us s1 zq=>?_) (by rw [hs,hs2]) (by rw [hs2];rfl)))
  obtain ⟨vs,H1,I1,r1,q1⟩:=zq
  obtain ⟨i,j,e,⟨q1,q2,q3,q4⟩,q⟩:=q1
  subst e
  cases r1 with
  | cons r rr=>
    cases rr with
    | cons r' rr=>
      cases rr
      obtain ⟨t,rfl⟩:=r
      obtain ⟨t',rfl⟩:=r'
      exact call_range_2 (ZIK I1 q1 q2 q3 q4 q)
def tFor (wi:TI)(g:TG)(tb:TS):TS:=fun D σ H=>wi σ H fun J H1=>∃ W:Nat→Nat→St→Hp→Prop,(∃ m,W 0 m σ H1)∧∀ i m σ H,W i m σ H→
  (J.stop i H∧D.nx σ H)∨(J.go i H∧∃ N:St→Hp→Prop,(∀ σ' H',N σ' H'→∃ m',m'<m∧W (i+1) m' σ' H')∧∀ x H',J.yld i H x H'→g x σ H' fun σ2 H2=>tb { D with nx:=N,ct:=N,bk:=D.nx } σ2 H2)
def ZFA (fp:List Addr)(h:Heap):List (Addr×Obj):=fp.filterMap fun b=>(h.get? b).map fun o=>(b,o)
theorem ZB2 {fp:List Addr}{h:Heap}{b:Addr}{o:Obj}(hb:b∈fp)(e:h.get? b=some o):(b,o)∈ZFA fp h:=List.mem_filterMap.mpr ⟨b,hb,by rw [e];rfl⟩
theorem ZJb {fp:List Addr}{h:Heap}{p:Addr×Obj}(hp:p∈ZFA fp h):p.1∈fp∧h.get? p.1=some p.2:=by
  obtain ⟨b,hb,e⟩:=List.mem_filterMap.mp hp
  cases q:h.get? b with
  | none=>rw [q] at e;cases e
  | some o=>
    rw [q] at e
    have e':(b,o)=p:=Option.some.inj e
    subst e'
    exact ⟨hb,q⟩
theorem Inv.pinned {pins:List (Addr×Obj)}{σ:St}{H:Hp}{s:Shared}{fp:List Addr}(I:Inv X pins σ H s)(hf:∀ b∈fp,ZGs X pins H b)(ho:∀ b∈fp,∃ o,s.heap.get? b=some o∧∀ v,o.data≠.cell v):Inv X (pins++ZFA fp s.heap) σ H s:=
  I.pins_of fun p hp=>(List.mem_append.mp hp).elim (fun z=>I.pin p (List.mem_append_right _ z)) fun z=>by
    obtain ⟨hb,e⟩:=ZJb z
    obtain ⟨f0,f1,f2,_⟩:=hf p.1 hb
    obtain ⟨o,e',d⟩:=ho p.1 hb
    rw [e] at e';cases e'
    exact ⟨e,f0,f1,f2,d⟩
theorem Inv.unpinned {pins pl:List (Addr×Obj)}{σ:St}{H:Hp}{s:Shared}(I:Inv X (pins++pl) σ H s):Inv X pins σ H s:=I.pins_of fun p hp=>I.pin p (List.mem_append_right _ (List.mem_append_left _ hp))
theorem ZC1 {iter:Expr}{body:List Stmt}{wi:TI}{g:TG}{tb:TS}{pos:Pos}(hp:PassesOwn (model X.prog X.w) X.A X.env X.xe)(hc:X.calm=true)(hi:PI X tg iter wi)(hg:PG X tg g)(hb:PSs X body tb)
    (hs:∀ x,foldedSetIterable iter X.env x=pure x:=by intro _;rfl):PS X (.For tg iter body [] pos) (tFor wi g tb):=by
  intro pins s σ H D I h
  refine wpAny_For (thn (hi pins s σ H _ I h) fun v s1 h1=>thn h1 fun itv s2 h2=>?_) hs
  obtain ⟨it,fp,tn,J,H2,e,I2,T,st2,f2,W,⟨m0,w0⟩,turn⟩:=h2
  subst e
  have stat:∀ {H':Hp},(∀ b∈fp,H' b=none)→∀ b∈fp,ZGs X pins H' b:=fun hn b hb=>⟨hn b hb,(f2 b hb).2⟩
  refine codeAny_forLoop_any (fun n s'=>∃ i σ' H',Inv X pins σ' H' s'∧tn i s'.heap∧(∀ b∈fp,H' b=none)∧W i n σ' H') ?_ m0 ⟨0,σ,H2,I2,st2,fun b hb=>(f2 b hb).1,w0⟩
  rintro n s3 ⟨i,σ3,H3,I3,st3,fr3,w3⟩
  rcases turn i n σ3 H3 w3 with ⟨stop,qn⟩ | ⟨go,N,hN,step⟩
  · refine wpAny_passesOwn hp (thn (T.done X rfl rfl rfl hc i pins s3 σ3 H3 X.xe I3 (stat fr3) st3 stop) fun r s4 zq=>?_)
    obtain ⟨hr,I4⟩:=zq
    subst hr
    exact wpAny_execs_nil ⟨σ3,H3,I4,qn⟩
  · refine wpAny_passesOwn hp (thn (T.item X rfl rfl rfl hc i pins s3 σ3 H3 X.xe I3 (stat fr3) st3 go) fun r s4 zq=>?_)
    obtain ⟨u,hr,h4⟩:=zq
    subst hr
    refine wpAny_passesOwn hp (thn h4 fun _ s5 zq=>?_)
    obtain ⟨x,H5,I5,r5,y5,st5,fr5⟩:=zq
    have I5':=I5.pinned (stat fr5) (T.obj _ _ st5)
    refine wpAny_passesOwn hp (thn (hg _ s5 σ3 H5 x u _ I5' r5 (step x H5 y5)) fun _ s6 zq=>?_)
    obtain ⟨σ6,H6,I6,q6⟩:=zq
    refine wpAny_passesOwn hp (thn (hb _ s6 σ6 H6 _ I6 q6) fun f s7 q7=>?_)
    have again:∀ {σ7:St} {H7:Hp},Inv X (pins++ZFA fp s5.heap) σ7 H7 s7→N σ7 H7→∃ m,m<n∧∃ i σ' H',Inv X pins σ' H' s7∧tn i s7.heap∧(∀ b∈fp,H' b=none)∧W i m σ' H':=fun {σ7 H7} I7 n7=>by
      obtain ⟨m',hm,w7⟩:=hN σ7 H7 n7
      refine ⟨m',hm,i+1,σ7,H7,I7.unpinned,T.keep _ _ _ st5 fun b hb o e=>(I7.pin (b,o) (List.mem_append_right _ (List.mem_append_right _ (ZB2 hb e)))).1,fun b hb=>?_,w7⟩
      obtain ⟨o,e,d⟩:=T.obj _ _ st5 b hb
      exact (I7.pin (b,o) (List.mem_append_right _ (List.mem_append_right _ (ZB2 hb e)))).2.1
    cases f with
    | next=>obtain ⟨σ7,H7,I7,n7⟩:=q7;exact again I7 n7
    | cont=>obtain ⟨σ7,H7,I7,n7⟩:=q7;exact again I7 n7
    | brk=>obtain ⟨σ7,H7,I7,q7⟩:=q7;exact ⟨σ7,H7,I7.unpinned,q7⟩
    | ret v=>obtain ⟨x7,σ7,H7,I7,r7,q7⟩:=q7;exact ⟨x7,σ7,H7,I7.unpinned,r7,q7⟩
end
theorem ZEw {K:PySem.W.Frag}{a:Addr}{xs:List V}{g:TG}{tb:TS}{D:ZHd}{σ:St}{H:Hp}(Pv:Nat→St→Hp→Prop)(h0:Pv 0 σ H)(hl:∀ i σ H,i≤xs.length→Pv i σ H→SqL K H a xs)
    (hs:∀ i x σ H,xs[i]?=some x→Pv i σ H→g x σ H fun σ2 H2=>tb { D with nx:=Pv (i+1),ct:=Pv (i+1),bk:=D.nx } σ2 H2) (hd:∀ σ H,Pv xs.length σ H→D.nx σ H):
    ∃ W:Nat→Nat→St→Hp→Prop,(∃ m,W 0 m σ H)∧∀ i m σ H,W i m σ H→
      ((Itl K a).stop i H∧D.nx σ H)∨((Itl K a).go i H∧∃ N:St→Hp→Prop,(∀ σ' H',N σ' H'→∃ m',m'<m∧W (i+1) m' σ' H')∧∀ x H',(Itl K a).yld i H x H'→g x σ H' fun σ2 H2=>tb { D with nx:=N,ct:=N,bk:=D.nx } σ2 H2):=by
  refine ⟨fun i m σ H=>m=xs.length-i∧i≤xs.length∧Pv i σ H,⟨xs.length,by simp,Nat.zero_le _,h0⟩,?_⟩
  rintro i m σ H ⟨rfl,hi,p⟩
  have q:=hl i σ H hi p
  by_cases hlt:i<xs.length
  · refine .inr ⟨⟨xs,xs[i],q,by simp [hlt]⟩,Pv (i+1),fun σ' H' p'=>⟨xs.length-(i+1),by omega,rfl,hlt,p'⟩,fun x H' y=>?_⟩
    obtain ⟨e,y⟩:=y
    subst e
    exact hs i x σ _ (y xs q) p
  · have e:i=xs.length:=by omega
    subst e
    exact .inl ⟨⟨xs,q,Nat.le_refl _⟩,hd σ H p⟩
theorem ZFB {K:PySem.W.Frag}{a:Addr}{xs:List V}{g:TG}{tb:TS}{D:ZHd}{σ:St}{H:Hp}(Pv:Nat→St→Hp→Prop)(h0:Pv 0 σ H)(hl:∀ i σ H,i≤xs.length→Pv i σ H→SqT K H a xs)
    (hs:∀ i x σ H,xs[i]?=some x→Pv i σ H→g x σ H fun σ2 H2=>tb { D with nx:=Pv (i+1),ct:=Pv (i+1),bk:=D.nx } σ2 H2) (hd:∀ σ H,Pv xs.length σ H→D.nx σ H):
    ∃ W:Nat→Nat→St→Hp→Prop,(∃ m,W 0 m σ H)∧∀ i m σ H,W i m σ H→
      ((Itt K a).stop i H∧D.nx σ H)∨((Itt K a).go i H∧∃ N:St→Hp→Prop,(∀ σ' H',N σ' H'→∃ m',m'<m∧W (i+1) m' σ' H')∧∀ x H',(Itt K a).yld i H x H'→g x σ H' fun σ2 H2=>tb { D with nx:=N,ct:=N,bk:=D.nx } σ2 H2):=by
  refine ⟨fun i m σ H=>m=xs.length-i∧i≤xs.length∧Pv i σ H,⟨xs.length,by simp,Nat.zero_le _,h0⟩,?_⟩
  rintro i m σ H ⟨rfl,hi,p⟩
  have q:=hl i σ H hi p
  by_cases hlt:i<xs.length
  · refine .inr ⟨⟨xs,xs[i],q,by simp [hlt]⟩,Pv (i+1),fun σ' H' p'=>⟨xs.length-(i+1),by omega,rfl,hlt,p'⟩,fun x H' y=>?_⟩
    obtain ⟨e,y⟩:=y
    subst e
    exact hs i x σ _ (y xs q) p
  · have e:i=xs.length:=by omega
    subst e
    exact .inl ⟨⟨xs,q,Nat.le_refl _⟩,hd σ H p⟩
theorem ZFC {lo:Int}{n:Nat}{g:TG}{tb:TS}{D:ZHd}{σ:St}{H:Hp}(Pv:Nat→St→Hp→Prop)(h0:Pv 0 σ H)
    (hs:∀ i σ H,i<n→Pv i σ H→g (.int (lo+i)) σ H fun σ2 H2=>tb { D with nx:=Pv (i+1),ct:=Pv (i+1),bk:=D.nx } σ2 H2) (hd:∀ σ H,Pv n σ H→D.nx σ H):
    ∃ W:Nat→Nat→St→Hp→Prop,(∃ m,W 0 m σ H)∧∀ i m σ H,W i m σ H→
      ((Itr lo n).stop i H∧D.nx σ H)∨((Itr lo n).go i H∧∃ N:St→Hp→Prop,(∀ σ' H',N σ' H'→∃ m',m'<m∧W (i+1) m' σ' H')∧∀ x H',(Itr lo n).yld i H x H'→g x σ H' fun σ2 H2=>tb { D with nx:=N,ct:=N,bk:=D.nx } σ2 H2):=by
  refine ⟨fun i m σ H=>m=n-i∧i≤n∧Pv i σ H,⟨n,by simp,Nat.zero_le _,h0⟩,?_⟩
  rintro i m σ H ⟨rfl,hi,p⟩
  by_cases hlt:i<n
  · refine .inr ⟨hlt,Pv (i+1),fun σ' H' p'=>⟨n-(i+1),by omega,rfl,hlt,p'⟩,fun x H' y=>?_⟩
    obtain ⟨e,y⟩:=y
    subst e y
    exact hs i σ _ hlt p
  · have e:i=n:=by omega
    subst e
    exact .inl ⟨Nat.le_refl _,hd σ H p⟩
theorem ZIL {c:TT}{tb:TS}{D:ZHd}{σ:St}{H:Hp}(Pv:St→Hp→Prop)(μ:St→Hp→Nat)(h0:Pv σ H)
    (hs:∀ σ H,Pv σ H→c σ H fun b H1=>if b=true then tb { D with nx:=fun σ' H'=>Pv σ' H'∧μ σ' H'<μ σ H,ct:=fun σ' H'=>Pv σ' H'∧μ σ' H'<μ σ H,bk:=D.nx } σ H1 else D.nx σ H1)
    (mono:∀ σ H Q Q',(∀ b H1,Q b H1→Q' b H1)→c σ H Q→c σ H Q'):ZL8 c tb D σ H:=by
  refine ⟨fun m σ H=>m=μ σ H∧Pv σ H,⟨_,rfl,h0⟩,?_⟩
  rintro m σ H ⟨rfl,p⟩
  refine mono σ H _ _ (fun b H1 q=>?_) (hs σ H p)
  cases b with
  | true=>exact ⟨_,fun σ' H' ⟨p',l⟩=>⟨_,l,rfl,p'⟩,q⟩
  | false=>exact q
end L2
namespace L2
open PySem PySem.Spec PyProof.Rows
abbrev R2:=V→V→Hp→VK→Prop
def OpR (X:Cx)(f:Value→Value→Sem Value)(r:R2):Prop:=
  ∀ (pins:List (Addr×Obj)) (s:Shared) (σ:St) (H:Hp) (x y:V) (v u:Value) (Q:VK),Inv X pins σ H s→ZBC x v→ZBC y u→r x y H Q→
    wpAny (model X.prog X.w) X.A (f v u) (EP X pins σ Q) X.xe s
def UnR (X:Cx)(f:Value→Sem Value)(r:V→Hp→VK→Prop):Prop:=
  ∀ (pins:List (Addr×Obj)) (s:Shared) (σ:St) (H:Hp) (x:V) (v:Value) (Q:VK),Inv X pins σ H s→ZBC x v→r x H Q→
    wpAny (model X.prog X.w) X.A (f v) (EP X pins σ Q) X.xe s
def ZD9 (X:Cx)(f:Value)(r:List V→Hp→VK→Prop):Prop:=
  ∀ (pins:List (Addr×Obj)) (s:Shared) (σ:St) (H:Hp) (xs:List V) (us:List Value) (Q:VK),Inv X pins σ H s→ZBJ xs us→r xs H Q→
    wpAny (model X.prog X.w) X.A (call f us) (EP X pins σ Q) X.xe s
def TruR (X:Cx)(r:V→Hp→(Bool→Hp→Prop)→Prop):Prop:=
  ∀ (pins:List (Addr×Obj)) (s:Shared) (σ:St) (H:Hp) (x:V) (v:Value) (Q:Bool→Hp→Prop),Inv X pins σ H s→ZBC x v→r x H Q→
    wpAny (model X.prog X.w) X.A (truthy v) (TP X pins σ Q) X.xe s
def tOp (r:R2)(ta tb:TE):TE:=fun σ H Q=>ta σ H fun x H1=>tb σ H1 fun y H2=>r x y H2 Q
def tUn (r:V→Hp→VK→Prop)(ta:TE):TE:=fun σ H Q=>ta σ H fun x H1=>r x H1 Q
def rI (C:Int→Int→Prop)(g:Int→Int→V):R2:=fun x y H Q=>∃ i j,x=.int i∧y=.int j∧C i j∧Q (g i j) H
def rI0 (g:Int→Int→V):R2:=fun x y H Q=>∃ i j,x=.int i∧y=.int j∧Q (g i j) H
def rU (g:Int→V):V→Hp→VK→Prop:=fun x H Q=>∃ i,x=.int i∧Q (g i) H
section
variable {X:Cx}{a b c:Expr}{ta tb tc:TE}{pos:Pos}
theorem ZPi (ha:PE X a ta)(hb:PE X b tb){pins:List (Addr×Obj)}{s:Shared}{σ:St}{H:Hp}{R:V→V→Hp→Prop}(I:Inv X pins σ H s)
    (h:ta σ H fun x H1=>tb σ H1 fun y H2=>R x y H2) {Q:Value→Shared→Prop} {f:Value→Value→Sem Value}
    (hf:∀ v u s2 x y H2,Inv X pins σ H2 s2→ZBC x v→ZBC y u→R x y H2→wpAny (model X.prog X.w) X.A (f v u) Q X.xe s2):
    wpAny (model X.prog X.w) X.A (eval a X.env) (fun v s₁=>wpAny (model X.prog X.w) X.A (eval b X.env) (fun u s₂=>wpAny (model X.prog X.w) X.A (f v u) Q X.xe s₂) X.xe s₁) X.xe s:=by
  refine thn (ha pins s σ H _ I h) fun v s1 zq=>?_
  obtain ⟨x,H1,I1,r1,q1⟩:=zq
  refine thn (hb pins s1 σ H1 _ I1 q1) fun u s2 zq=>?_
  obtain ⟨y,H2,I2,r2,q2⟩:=zq
  exact hf v u s2 x y H2 I2 r1 r2 q2
theorem ZAZ {op:Operator}{r:R2}(ho:OpR X (binaryOp op) r)(ha:PE X a ta)(hb:PE X b tb):PE X (.BinOp a op b pos) (tOp r ta tb):=by
  intro pins s σ H Q I h
  exact wpAny_BinOp (ZPi ha hb I h fun v u s2 x y H2 I2 rx ry q=>ho pins s2 σ H2 x y v u Q I2 rx ry q)
theorem ZLD {op:UnaryOp}{r:V→Hp→VK→Prop}(ho:UnR X (unaryOp op) r)(ha:PE X a ta):PE X (.UnaryOp op a pos) (tUn r ta):=by
  intro pins s σ H Q I h
  exact UnaryOp_ (thn (ha pins s σ H _ I h) fun v s1 ⟨x,H1,I1,r1,q1⟩=>ho pins s1 σ H1 x v Q I1 r1 q1)
theorem opI {f:Value→Value→Sem Value}{C:Int→Int→Prop}{g:Int→Int→Int}
    (rule:∀ (i j:Int) (t u:Tok) (s:Shared) (Q:Value→Shared→Prop) (E:Value→Shared→Prop),C i j→Q (.int (g i j) s.toks) { s with toks:=s.toks+1 }→wpAny (model X.prog X.w) X.A (f (.int i t) (.int j u)) Q E s):
    OpR X f (rI C fun i j=>.int (g i j)):=by
  intro pins s σ H x y v u Q I rx ry h
  obtain ⟨i,j,rfl,rfl,hc,q⟩:=h
  obtain ⟨t,rfl⟩:=rx
  obtain ⟨t',rfl⟩:=ry
  exact rule i j t t' s _ _ hc ⟨.int (g i j),H,I.tok _,⟨_,rfl⟩,q⟩
theorem ZRX {f:Value→Value→Sem Value}{g:Int→Int→Int}
    (rule:∀ (i j:Int) (t u:Tok) (s:Shared) (Q:Value→Shared→Prop) (E:Value→Shared→Prop),Q (.int (g i j) s.toks) { s with toks:=s.toks+1 }→wpAny (model X.prog X.w) X.A (f (.int i t) (.int j u)) Q E s):
    OpR X f (rI0 fun i j=>.int (g i j)):=by
  intro pins s σ H x y v u Q I rx ry h
  obtain ⟨i,j,rfl,rfl,q⟩:=h
  obtain ⟨t,rfl⟩:=rx
  obtain ⟨t',rfl⟩:=ry
  exact rule i j t t' s _ _ ⟨.int (g i j),H,I.tok _,⟨_,rfl⟩,q⟩
theorem ZPN {f:Value→Value→Sem Value}{g:Int→Int→Bool}
    (rule:∀ (i j:Int) (t u:Tok) (s:Shared) (Q:Value→Shared→Prop) (E:Value→Shared→Prop),Q (.bool (g i j)) s→wpAny (model X.prog X.w) X.A (f (.int i t) (.int j u)) Q E s):
    OpR X f (rI0 fun i j=>.bl (g i j)):=by
  intro pins s σ H x y v u Q I rx ry h
  obtain ⟨i,j,rfl,rfl,q⟩:=h
  obtain ⟨t,rfl⟩:=rx
  obtain ⟨t',rfl⟩:=ry
  exact rule i j t t' s _ _ ⟨.bl (g i j),H,I,rfl,q⟩
def CDiv (i j:Int):Prop:=0<j∧j<1073741824
def CDivN (i j:Int):Prop:=j≠0∧j.natAbs<1073741824
def ZRY (i j:Int):Prop:=0≤j∧j≤1000000∧i.natAbs<2 ^ 64
def CMul (i j:Int):Prop:=(-(2 ^ 64)<i∧i<2 ^ 64)∨(-(2 ^ 64)<j∧j<2 ^ 64)
theorem ZA9:OpR X (binaryOp .Add) (rI0 fun i j=>.int (i+j)):=ZRX fun _ _ _ _ _ _ _ q=>add_int q
theorem ZDC:OpR X (binaryOp .Sub) (rI0 fun i j=>.int (i-j)):=ZRX fun _ _ _ _ _ _ _ q=>sub_int q
theorem ZJc:OpR X (binaryOp .FloorDiv) (rI CDiv fun i j=>.int (i / j)):=opI fun i j _ _ _ _ _ hc q=>by
  have h1:(0:Int)<j:=hc.1
  have h2:j<1073741824:=hc.2
  exact floordiv_int (by omega) (by rw [Int.fdiv_eq_ediv_of_nonneg i (by omega)];exact q) (.inl (PyProof.noPylong_small (by omega)))
theorem ZDD:OpR X (binaryOp .Mod) (rI (fun _ j=>0<j) fun i j=>.int (i%j)):=opI fun i j _ _ _ _ _ hc q=>by
  have h1:(0:Int)<j:=hc
  exact mod_int' (by omega) (by rw [Int.fmod_eq_emod_of_nonneg i (by omega)];exact q)
theorem ZFD:OpR X (binaryOp .Pow) (rI ZRY fun i j=>.int (i ^ j.toNat)):=opI fun _ _ _ _ _ _ _ hc q=>pow_int_small hc.1 hc.2.1 hc.2.2 q
theorem unI {f:Value→Sem Value}{g:Int→Int}
    (rule:∀ (i:Int) (t:Tok) (s:Shared) (Q:Value→Shared→Prop) (E:Value→Shared→Prop),Q (.int (g i) s.toks) { s with toks:=s.toks+1 }→wpAny (model X.prog X.w) X.A (f (.int i t)) Q E s):
    UnR X f (rU fun i=>.int (g i)):=by
  intro pins s σ H x v Q I rx h
  obtain ⟨i,rfl,q⟩:=h
  obtain ⟨t,rfl⟩:=rx
  exact rule i t s _ _ ⟨.int (g i),H,I.tok _,⟨_,rfl⟩,q⟩
theorem ZIM:UnR X (unaryOp .USub) (rU fun i=>.int (-i)):=unI fun _ _ _ _ _ q=>neg_int q
end
def ZRZ:V→V→Bool
  | .non,.non=>true | .non,.int _=>true | .int _,.non=>true | .non,.bl _=>true | .bl _,.non=>true | .non,.str _=>true | .str _,.non=>true
  | .int _,.int _=>true | .bl _,.bl _=>true | .str _,.str _=>true | .byt _,.byt _=>true
  | .int _,.str _=>true | .str _,.int _=>true | .bl _,.str _=>true | .str _,.bl _=>true
  | _,_=>false
def rEq:R2:=fun x y H Q=>ZRZ x y=true∧Q (.bl (decide (x=y))) H
def rNe:R2:=fun x y H Q=>ZRZ x y=true∧Q (.bl (!decide (x=y))) H
theorem ZJd {i j:Int}:decide (V.int i=V.int j)=(i==j):=by
  rw [Bool.eq_iff_iff]
  simp
theorem ZL9 {i j:Bool}:decide (V.bl i=V.bl j)=(i==j):=by
  rw [Bool.eq_iff_iff]
  simp
theorem ZJe {i j:Str}:decide (V.str i=V.str j)=(i==j):=by
  rw [Bool.eq_iff_iff]
  simp
theorem ZJf {i j:Array UInt8}:decide (V.byt i=V.byt j)=(i.toList==j.toList):=by
  rw [Bool.eq_iff_iff]
  cases i
  cases j
  simp
section
variable {X:Cx}{a b c:Expr}{ta tb tc:TE}{pos:Pos}
theorem ZAu {pins:List (Addr×Obj)}{σ:St}{H:Hp}{s:Shared}{Q:VK}{k k':Bool}(I:Inv X pins σ H s)(q:Q (.bl k) H)(e:k=k'):EP X pins σ Q (.bool k') s:=by
  subst e
  exact ⟨.bl k,H,I,rfl,q⟩
theorem ZAm:OpR X (compareOp .Eq) rEq:=by
  intro pins s σ H x y v u Q I rx ry h
  obtain ⟨hs,q⟩:=h
  cases x with
  | non=>
    cases rx
    cases y with
    | non=>cases ry;exact PySem.EqNone.eq_none_none (ZAu I q (by simp))
    | bl j=>cases ry;exact PySem.EqNone.eq_none_bool (ZAu I q (by simp))
    | int j=>obtain ⟨t',rfl⟩:=ry;exact PySem.EqNone.eq_none_int (ZAu I q (by simp))
    | str j=>obtain ⟨t',rfl⟩:=ry;exact PySem.EqNone.eq_none_str (ZAu I q (by simp))
    | _=>exact absurd (show false=true from hs) Bool.false_ne_true
  | bl i=>
    cases rx
    cases y with
    | non=>cases ry;exact PySem.EqNone.eq_bool_none (ZAu I q (by simp))
    | bl j=>cases ry;exact eq_bool (ZAu I q ZL9)
    | str j=>obtain ⟨t',rfl⟩:=ry;exact PySem.EqMixed.eq_bool_str (ZAu I q (by simp))
    | _=>exact absurd (show false=true from hs) Bool.false_ne_true
  | int i=>
    obtain ⟨t,rfl⟩:=rx
    cases y with
    | non=>cases ry;exact PySem.EqNone.eq_int_none (ZAu I q (by simp))
    | int j=>obtain ⟨t',rfl⟩:=ry;exact eq_int (ZAu I q ZJd)
    | str j=>obtain ⟨t',rfl⟩:=ry;exact PySem.EqMixed.eq_int_str (ZAu I q (by simp))
    | _=>exact absurd (show false=true from hs) Bool.false_ne_true
  | str i=>
    obtain ⟨t,rfl⟩:=rx
    cases y with
    | non=>cases ry;exact PySem.EqNone.eq_str_none (ZAu I q (by simp))
    | bl j=>cases ry;exact PySem.EqMixed.eq_str_bool (ZAu I q (by simp))
    | int j=>obtain ⟨t',rfl⟩:=ry;exact PySem.EqMixed.eq_str_int (ZAu I q (by simp))
    | str j=>obtain ⟨t',rfl⟩:=ry;exact eq_str (ZAu I q ZJe)
    | _=>exact absurd (show false=true from hs) Bool.false_ne_true
  | byt i=>
    obtain ⟨t,rfl⟩:=rx
    cases y with
    | byt j=>obtain ⟨t',rfl⟩:=ry;exact PySem.W.eq_bytes (ZAu I q ZJf)
    | _=>exact absurd (show false=true from hs) Bool.false_ne_true
  | _=>cases y <;> exact absurd (show false=true from hs) Bool.false_ne_true
theorem ZHk:OpR X (compareOp .NotEq) rNe:=by
  intro pins s σ H x y v u Q I rx ry h
  obtain ⟨hs,q⟩:=h
  cases x with
  | non=>
    cases rx
    cases y with
    | non=>cases ry;exact PySem.EqNone.ne_none_none (ZAu I q (by simp))
    | bl j=>cases ry;exact PySem.EqNone.ne_none_bool (ZAu I q (by simp))
    | int j=>obtain ⟨t',rfl⟩:=ry;exact PySem.EqNone.ne_none_int (ZAu I q (by simp))
    | str j=>obtain ⟨t',rfl⟩:=ry;exact PySem.EqNone.ne_none_str (ZAu I q (by simp))
    | _=>exact absurd (show false=true from hs) Bool.false_ne_true
  | bl i=>
    cases rx
    cases y with
    | non=>cases ry;exact PySem.EqNone.ne_bool_none (ZAu I q (by simp))
    | bl j=>cases ry;exact ne_bool (ZAu I q (congrArg not ZL9))
    | str j=>obtain ⟨t',rfl⟩:=ry;exact PySem.EqMixed.ne_bool_str (ZAu I q (by simp))
    | _=>exact absurd (show false=true from hs) Bool.false_ne_true
  | int i=>
    obtain ⟨t,rfl⟩:=rx
    cases y with
    | non=>cases ry;exact PySem.EqNone.ne_int_none (ZAu I q (by simp))
    | int j=>obtain ⟨t',rfl⟩:=ry;exact ne_int (ZAu I q (congrArg not ZJd))
    | str j=>obtain ⟨t',rfl⟩:=ry;exact PySem.EqMixed.ne_int_str (ZAu I q (by simp))
    | _=>exact absurd (show false=true from hs) Bool.false_ne_true
  | str i=>
    obtain ⟨t,rfl⟩:=rx
    cases y with
    | non=>cases ry;exact PySem.EqNone.ne_str_none (ZAu I q (by simp))
    | bl j=>cases ry;exact PySem.EqMixed.ne_str_bool (ZAu I q (by simp))
    | int j=>obtain ⟨t',rfl⟩:=ry;exact PySem.EqMixed.ne_str_int (ZAu I q (by simp))
    | str j=>obtain ⟨t',rfl⟩:=ry;exact ne_str (ZAu I q (congrArg not ZJe))
    | _=>exact absurd (show false=true from hs) Bool.false_ne_true
  | byt i=>
    obtain ⟨t,rfl⟩:=rx
    cases y with
    | byt j=>obtain ⟨t',rfl⟩:=ry;exact PySem.W.ne_bytes (ZAu I q (congrArg not ZJf))
    | _=>exact absurd (show false=true from hs) Bool.false_ne_true
  | _=>cases y <;> exact absurd (show false=true from hs) Bool.false_ne_true
theorem ZGC:OpR X (compareOp .Lt) (rI0 fun i j=>.bl (decide (i<j))):=ZPN fun _ _ _ _ _ _ _ q=>lt_int q
theorem ZPj:OpR X (compareOp .LtE) (rI0 fun i j=>.bl (decide (i≤j))):=ZPN fun _ _ _ _ _ _ _ q=>le_int q
theorem ZIx:OpR X (compareOp .Gt) (rI0 fun i j=>.bl (decide (j<i))):=ZPN fun _ _ _ _ _ _ _ q=>gt_int q
theorem ZMo:OpR X (compareOp .GtE) (rI0 fun i j=>.bl (decide (j≤i))):=ZPN fun _ _ _ _ _ _ _ q=>ge_int q
theorem ZG0:OpR X (compareOp .Lt) (fun x y H Q=>∃ i j,x=.str i∧y=.str j∧Q (.bl (decide (i.cps.toList<j.cps.toList))) H):=by
  intro pins s σ H x y v u Q I rx ry h
  obtain ⟨i,j,rfl,rfl,q⟩:=h
  obtain ⟨t,rfl⟩:=rx
  obtain ⟨t',rfl⟩:=ry
  exact lt_str (ZAu I q rfl)
theorem ZJg:OpR X (compareOp .In) (fun x y H Q=>∃ i j,x=.str i∧y=.str j∧Q (.bl (!(Builtin.Str.occurrences j i 0 j.length 1).isEmpty)) H):=by
  intro pins s σ H x y v u Q I rx ry h
  obtain ⟨i,j,rfl,rfl,q⟩:=h
  obtain ⟨t,rfl⟩:=rx
  obtain ⟨t',rfl⟩:=ry
  exact in_str (ZAu I q rfl)
theorem ZJh:OpR X (compareOp .Is) (fun x y H Q=>y=.non∧Q (.bl (decide (x=.non))) H):=by
  intro pins s σ H x y v u Q I rx ry h
  obtain ⟨rfl,q⟩:=h
  cases ry
  refine is_none_gen (ZAu I q ?_)
  cases x <;> first
    | (cases rx;rfl)
    | (obtain ⟨t,rfl⟩:=rx;rfl)
theorem ZG1:OpR X (compareOp .NotIn) (fun x y H Q=>∃ i j,x=.str i∧y=.str j∧Q (.bl (!(!(Builtin.Str.occurrences j i 0 j.length 1).isEmpty))) H):=by
  intro pins s σ H x y v u Q I rx ry h
  obtain ⟨i,j,rfl,rfl,q⟩:=h
  obtain ⟨t,rfl⟩:=rx
  obtain ⟨t',rfl⟩:=ry
  exact notIn_str (ZAu I q rfl)
def isObj:HO→Bool
  | .lst _=>true
  | .ins _ _ _=>true
  | _=>false
theorem ZAO (b:Expr){op:CmpOp}(h:op≠.In:=by decide)(h2:op≠.NotIn:=by decide):behindInMarks op b=false:=by
  have e1:(op==CmpOp.In)=false:=by cases op <;> first | rfl | exact absurd rfl h
  have e2:(op==CmpOp.NotIn)=false:=by cases op <;> first | rfl | exact absurd rfl h2
  cases b <;> simp [behindInMarks,e1,e2]
theorem ZBB {op:CmpOp}{r:R2}(ho:OpR X (compareOp op) r)(ha:PE X a ta)(hb:PE X b tb)(hm:behindInMarks op b=false):PE X (.Compare a [op] [b] pos) (tOp r ta tb):=by
  intro pins s σ H Q I h
  exact wpAny_Compare1 (ZPi ha hb I h fun v u s2 x y H2 I2 rx ry q=>ho pins s2 σ H2 x y v u Q I2 rx ry q) hm
def ZPk (t:TE):TT:=fun σ H Q=>t σ H fun x H'=>∃ k,x=.bl k∧Q k H'
theorem ZAL {op:CmpOp}{r:R2}(ho:OpR X (compareOp op) r)(ha:PE X a ta)(hb:PE X b tb)(hm:behindInMarks op b=false):PT X (.Compare a [op] [b] pos) (ZPk (tOp r ta tb)):=by
  intro pins s σ H Q I h
  refine wpAny_isTrue_Compare1 (thn (ha pins s σ H _ I h) fun v s1 ⟨x,H1,I1,r1,q1⟩=>thn (hb pins s1 σ H1 _ I1 q1) fun u s2 ⟨y,H2,I2,r2,q2⟩=>
    thn (ho pins s2 σ H2 x y v u _ I2 r1 r2 q2) fun c s3 ⟨z,H3,I3,r3,k,e,q3⟩=>?_) hm
  subst e
  cases r3
  exact wpAny_truthy_bool ⟨H3,I3,q3⟩
def ZRa (r r':R2)(ta tb tc:TE):TE:=fun σ H Q=>ta σ H fun x H1=>tb σ H1 fun y H2=>r x y H2 fun z H3=>∃ k,z=.bl k∧
  (if k=true then tc σ H3 fun w' H4=>r' y w' H4 Q else Q (.bl false) H3)
def TruV (K:PySem.W.Frag)(x:V)(H:Hp)(k:Bool):Prop:=
  match x with
  | .non=>k=false
  | .bl b=>k=b
  | .int i=>k=(i != 0)
  | .str y=>y.length≤sizeLine∧k=((y.length:Int) != 0)
  | .byt y=>y.size≤sizeLine∧k=((y.size:Int) != 0)
  | .ref p=>(∃ xs,SqL K H p xs∧k=!xs.isEmpty)∨(∃ xs,SqT K H p xs∧k=!xs.isEmpty)∨∃ kvs,H p=some (.dK kvs)∧k=!kvs.isEmpty
  | _=>False
theorem ZF1:(sizeLine:Nat)<2 ^ 63:=by rw [sizeLine_eq];decide
theorem ZB3:OpR X (binaryOp .Add) (fun x y H Q=>∃ i j,x=.str i∧y=.str j∧i.length+j.length≤sizeLine∧Q (.str (i++j)) H):=by
  intro pins s σ H x y v u Q I rx ry h
  obtain ⟨i,j,rfl,rfl,hz,q⟩:=h
  obtain ⟨t,rfl⟩:=rx
  obtain ⟨t',rfl⟩:=ry
  exact add_str (fun t' tk=>⟨.str (i++j),H,I.tok _,⟨_,rfl⟩,q⟩) hz
def ZPO (b:Expr):Prop:=∀ o i,subscripted b false o i=operate [o,i] (getItem o i)
theorem ZFk {x:V}{us:List Value}(r:ZBJ [x] us):∃ u,us=[u]∧ZBC x u:=by
  cases r with
  | cons r1 r2=>cases r2;exact ⟨_,rfl,r1⟩
theorem ZN2 {x y:V}{us:List Value}(r:ZBJ [x,y] us):∃ u w',us=[u,w']∧ZBC x u∧ZBC y w':=by
  cases r with
  | cons r1 r2=>
    cases r2 with
    | cons r3 r4=>cases r4;exact ⟨_,_,rfl,r1,r3⟩
theorem ZDg:ZD9 X (.builtin "abs") (fun xs H Q=>∃ i,xs=[.int i]∧Q (.int (if i<0 then -i else i)) H):=by
  intro pins s σ H xs us Q I r h
  obtain ⟨i,rfl,q⟩:=h
  obtain ⟨u,rfl,t,rfl⟩:=ZFk r
  exact call_abs_int fun u tk=>⟨.int (if i<0 then -i else i),H,I.tok _,⟨_,rfl⟩,q⟩
theorem ZJi (hc:X.calm=true):ZD9 X (.builtin "max") (fun xs H Q=>∃ i j,xs=[.int i,.int j]∧Q (.int (if j>i then j else i)) H):=by
  intro pins s σ H xs us Q I r h
  obtain ⟨i,j,rfl,q⟩:=h
  obtain ⟨u,w',rfl,⟨t,rfl⟩,⟨t',rfl⟩⟩:=ZN2 r
  refine max_two_ints (I.ok.hd hc) fun h' tk k=>⟨_,H,I.kept k,?_,q⟩
  by_cases hj:j>i
  · rw [if_pos hj,if_pos hj];exact ⟨_,rfl⟩
  · rw [if_neg hj,if_neg hj];exact ⟨_,rfl⟩
theorem ZEA:ZD9 X (.type "int") (fun xs H Q=>(∃ i,xs=[.int i]∧Q (.int i) H)∨∃ k,xs=[.bl k]∧Q (.int (if k then 1 else 0)) H):=by
  intro pins s σ H xs us Q I r h
  rcases h with ⟨i,rfl,q⟩ | ⟨k,rfl,q⟩
  · obtain ⟨u,rfl,t,rfl⟩:=ZFk r
    exact call_int_int ⟨.int i,H,I,⟨_,rfl⟩,q⟩
  · obtain ⟨u,rfl,r1⟩:=ZFk r
    cases r1
    exact call_int_bool ⟨.int (if k then 1 else 0),H,I.tok _,⟨_,rfl⟩,q⟩
theorem ZDX:ZD9 X (.type "str") (fun xs H Q=>∃ i,xs=[.int i]∧i.natAbs.log2<1920∧Q (.str (toString i)) H):=by
  intro pins s σ H xs us Q I r h
  obtain ⟨i,rfl,hz,q⟩:=h
  obtain ⟨u,rfl,t,rfl⟩:=ZFk r
  exact PySem.P.str_of_int hz ⟨.str _,H,I.tok _,⟨_,rfl⟩,q⟩
def LenV (K:PySem.W.Frag)(x:V)(H:Hp)(n:Nat):Prop:=
  match x with
  | .str y=>y.length≤sizeLine∧n=y.length
  | .byt y=>y.size≤sizeLine∧n=y.size
  | .ref p=>(∃ xs,SqL K H p xs∧n=xs.length)∨∃ xs,SqT K H p xs∧n=xs.length
  | _=>False
end
end L2
namespace L2
open PySem PySem.Spec PyProof.Rows
structure ZPl (h:Heap)(x dx C:Addr)(mA:Str→Option Value):Prop where
  obj:h.get? x=some (PySem.W.instObj C dx)
  ns:h.Ns1 dx mA
  ne:dx≠x
theorem ZJj {h:Heap}{dx:Addr}{mA:Str→Option Value}(n:h.Ns1 dx mA):∃ od,h.get? dx=some od∧∀ name,PySem.W.lookIn name od=some (mA name):=by
  obtain ⟨o,es,ep,ho,hd,hk,_,hm⟩:=n
  refine ⟨o,ho,fun name=>?_⟩
  have e:=hm name
  unfold nsFind findBy at e
  rw [← Array.find?_toList] at e
  unfold PySem.W.lookIn
  rw [hd]
  dsimp only
  split
  · rename_i y q
    rw [q] at e
    exact congrArg some e
  · rename_i q
    rw [q] at e
    have a:es.toList.any (·.refKey)=false:=by
      rw [List.any_eq_false]
      intro y hy
      obtain ⟨z,t,hkey⟩:=hk y (Array.mem_toList_iff.mp hy)
      simp [DictEntry.refKey,hkey]
    have a':¬ es.toList.any (·.refKey)=true:=by rw [a];exact Bool.false_ne_true
    rw [if_neg a']
    exact congrArg some e
theorem ZPl.look {h:Heap}{x dx C:Addr}{mA:Str→Option Value}(I:ZPl h x dx C mA):∃ od,PySem.W.InstAt h x (PySem.W.instObj C dx) C (some od)∧∀ name,PySem.W.lookIn name od=some (mA name):=
  let ⟨od,ho,hl⟩:=ZJj I.ns
  ⟨od,⟨I.obj,rfl,rfl,ho⟩,hl⟩
section
variable {prog:Program}{w:World}{A:Around}{E:Value→Shared→Prop}{s:Shared}{K:PySem.W.Frag}{x dx C f:Addr}{mA:Str→Option Value}{name:Str}{v:Value}
end
def ZPm (f:Str)(v:V):List (Str×V)→List (Str×V)
  | []=>[(f,v)]
  | (g,x)::r=>if g=f then (g,v)::r else (g,x)::ZPm f v r
theorem ZIt.some_of {v:V}{o:Option Value}(r:ZIt (some v) o):∃ u,o=some u∧ZBC v u:=by
  cases o with
  | none=>exact (show False from r).elim
  | some u=>exact ⟨u,rfl,r⟩
section
variable {P:Program}{w:World}{H H':Hp}{h h':Heap}{a C dx:Addr}{fs fs':List (Str×V)}
theorem ZMp (hok:HOk P w H h)(e:H a=some (.ins C dx fs)):∃ mA,ZPl h a dx C mA∧(∀ f,ZIt (fs.lookup f) (mA f))∧PySem.Within mA (fs.map (·.1))∧fs.length≤1000∧H dx=some (.own a):=by
  obtain ⟨d,z,ne,ob,mA,n,r,q⟩:=(show ZBx P w H h a (.ins C dx fs) from hok a _ e)
  exact ⟨mA,⟨ob,n,ne⟩,r,q,z,d⟩
end
structure Cls (K:PySem.W.Frag)(C:Addr):Prop where
  pg:PySem.W.plainGet K C Str.empty=true
  hd:PySem.W.hasDictIn K C=true
  po:PySem.W.plainOver K C=true
  sa:PySem.W.findIn K (.ref C) "__setattr__"=some (some (.builtin "object.__setattr__"))
theorem Cls.get {K:PySem.W.Frag}{C:Addr}(c:Cls K C)(f:Str):PySem.W.plainGet K C f=true:=c.pg
def ZJk (K:PySem.W.Frag)(C:Addr)(f:Str):Prop:=PySem.W.findIn K (.ref C) f=some none
structure Con (K:PySem.W.Frag)(C:Addr)(f:Str)(v:V)(u:Value):Prop where
  at_:PySem.W.findIn K (.ref C) f=some (some u)
  rel:ZBC v u
  get:PySem.W.specialIn K u "__get__"=some none
  cp:PySem.W.copiedNames.contains f=false
structure Meth (K:PySem.W.Frag)(C:Addr)(m:Str)(f:Addr):Prop where
  at_:PySem.W.findIn K (.ref C) m=some (some (.ref f))
  fn:PySem.W.isFn K (.ref f)=true
  kp:PySem.W.keepIn K (.ref f)=true
section
variable {X:Cx}{pins:List (Addr×Obj)}{σ:St}{H:Hp}{s:Shared}{a C dx:Addr}{fs:List (Str×V)}{f:Str}{v:V}{A:Around}{E:Value→Shared→Prop}
end
def tFld (K:PySem.W.Frag)(ta:TE)(f:Str):TE:=fun σ H Q=>ta σ H fun x H1=>∃ a C dx fs v,x=.ref a∧H1 a=some (.ins C dx fs)∧Cls K C∧ZJk K C f∧fs.lookup f=some v∧Q v H1
def tCon (K:PySem.W.Frag)(ta:TE)(f:Str):TE:=fun σ H Q=>ta σ H fun x H1=>∃ a C dx fs v u,x=.ref a∧H1 a=some (.ins C dx fs)∧Cls K C∧Con K C f v u∧fs.lookup f=none∧Q v H1
def sFld (K:PySem.W.Frag)(ta tv:TE)(f:Str):TS:=fun D σ H=>tv σ H fun y H1=>ta σ H1 fun x H2=>∃ a C dx fs,x=.ref a∧H2 a=some (.ins C dx fs)∧Cls K C∧ZJk K C f∧fs.length<1000∧
  D.nx σ (upd H2 a (.ins C dx (ZPm f y fs)))
def InOp (X:Cx)(op:Operator)(rd:V→V→Hp→VK→Prop):Prop:=
  ∀ (pins:List (Addr×Obj)) (s:Shared) (σ:St) (H:Hp) (x y:V) (u v:Value) (Q:VK),Inv X pins σ H s→ZBC x u→ZBC y v→rd x y H Q→wpAny (model X.prog X.w) X.A (inplaceOp op u v) (EP X pins σ Q) X.xe s
def ZPn (K:PySem.W.Frag)(ta tv:TE)(rd:V→V→Hp→VK→Prop)(f:Str):TS:=fun D σ H=>ta σ H fun x H1=>∃ a C dx fs v,x=.ref a∧H1 a=some (.ins C dx fs)∧Cls K C∧ZJk K C f∧fs.lookup f=some v∧
  tv σ H1 fun y H2=>rd v y H2 fun z H3=>∃ dx' fs',H3 a=some (.ins C dx' fs')∧fs'.length<1000∧D.nx σ (upd H3 a (.ins C dx' (ZPm f z fs')))
section
variable {X:Cx}{o e value:Expr}{f:Str}{pos pos' tpos:Pos}{ta tv:TE}
def rAdd:V→V→Hp→VK→Prop:=fun x y H Q=>∃ i j,x=.int i∧y=.int j∧Q (.int (i+j)) H
def rSub:V→V→Hp→VK→Prop:=fun x y H Q=>∃ i j,x=.int i∧y=.int j∧Q (.int (i-j)) H
end
section
variable {X:Cx}{pins:List (Addr×Obj)}{σ:St}{H:Hp}{s:Shared}{A:Around}{E:Value→Shared→Prop}{Q:Value→Shared→Prop}{c:Value}{b:Bool}
inductive ZIy (K:PySem.W.Frag)(H:Hp):V→Value→Prop where
  | non:ZIy K H .non (.type "NoneType")
  | bl (x:Bool):ZIy K H (.bl x) (.type "bool")
  | int (i:Int):ZIy K H (.int i) (.type "int")
  | str (x:Str):ZIy K H (.str x) (.type "str")
  | flt (x:UInt64):ZIy K H (.flt x) (.type "float")
  | lst {a:Addr} {xs:List V} (e:H a=some (.lst xs)):ZIy K H (.ref a) (.type "list")
  | frz {a:Addr} {o:Obj} {xs:List V} (e:H a=some (.frz o (.lst xs))):ZIy K H (.ref a) (.type "list")
  | tup {a:Addr} {xs:List V} (e:H a=some (.tup xs)):ZIy K H (.ref a) (.type "tuple")
  | dK {a:Addr} {kvs:List (Key×V)} (e:H a=some (.dK kvs)):ZIy K H (.ref a) (.type "dict")
  | dT {a:Addr} {kvs:List (List Key×V)} (e:H a=some (.dT kvs)):ZIy K H (.ref a) (.type "dict")
  | ins {a C dx:Addr} {fs:List (Str×V)} (e:H a=some (.ins C dx fs)) (cl:Cls K C) (ha:PySem.W.findIn K (.ref C) "__class__"=some (some (.builtin "object.__class__")))
      (hn:PySem.W.specialIn K (.builtin "object.__class__") "__get__"=some (some (.builtin "getset_descriptor.__get__"))) (htk:PySem.W.takesIn K (.builtin "object.__class__")=some true)
      (hm:PySem.W.mroIn K C (.type "object")=some true):ZIy K H (.ref a) (.ref C)
theorem ZG2 {x:V}{u t:Value}(I:Inv X pins σ H s)(rx:ZBC x u)(ty:ZIy X.K H x t)(e:PySem.W.kitOne X.K t c=some b)(h:∀ tk,Q (.bool b) { s with toks:=tk }):
    wpAny (model X.prog X.w) A (call (.builtin "isinstance") [u,c]) Q E s:=by
  cases ty with
  | non=>cases (show u=Value.none from rx);exact PySem.W.kia_one PySem.W.kitx_none I.kIn True.intro e (fun z=>nomatch z) h
  | bl y=>cases (show u=Value.bool y from rx);exact PySem.W.kia_one PySem.W.kitx_bool I.kIn True.intro e (fun z=>nomatch z) h
  | int i=>obtain ⟨t,q⟩:=(show ∃ t,u=Value.int i t from rx);cases q;exact PySem.W.kia_one PySem.W.kitx_int I.kIn True.intro e (fun z=>nomatch z) h
  | str y=>obtain ⟨t,q⟩:=(show ∃ t,u=Value.str y t from rx);cases q;exact PySem.W.kia_one PySem.W.kitx_str I.kIn True.intro e (fun z=>nomatch z) h
  | flt y=>obtain ⟨t,q⟩:=(show ∃ t,u=Value.float y t from rx);cases q;exact PySem.W.kia_one PySem.W.kitx_float I.kIn True.intro e (fun z=>nomatch z) h
  | @lst a xs ea=>
    cases (show u=Value.ref a from rx)
    obtain ⟨_,_,n,_,h1⟩:=(show ZBx X.prog X.w H s.heap a (.lst xs) from I.hok a _ ea)
    exact PySem.W.kia_one PySem.W.kitx_list I.kIn ⟨_,h1,rfl⟩ e (fun z=>nomatch z) h
  | @frz a ob xs ea=>
    cases (show u=Value.ref a from rx)
    obtain ⟨_,_,_,n,_,h1⟩:=(show ZBx X.prog X.w H s.heap a (.frz ob (.lst xs)) from I.hok a _ ea)
    exact PySem.W.kia_one PySem.W.kitx_list I.kIn ⟨_,h1,rfl⟩ e (fun z=>nomatch z) h
  | @tup a xs ea=>
    cases (show u=Value.ref a from rx)
    obtain ⟨_,_,_,p⟩:=(show ZBx X.prog X.w H s.heap a (.tup xs) from I.hok a _ ea)
    obtain ⟨o,h1,h2,_⟩:=p
    exact PySem.W.kia_one PySem.W.kitx_tuple I.kIn ⟨o,h1,h2⟩ e (fun z=>nomatch z) h
  | @dK a kvs ea=>
    cases (show u=Value.ref a from rx)
    obtain ⟨_,_,vs,_,p⟩:=(show ZBx X.prog X.w H s.heap a (.dK kvs) from I.hok a _ ea)
    obtain ⟨o,es,ep,h1,h2,_⟩:=p
    exact PySem.W.kia_one PySem.W.kitx_dict I.kIn ⟨o,h1,h2.1⟩ e (fun z=>nomatch z) h
  | @dT a kvs ea=>
    cases (show u=Value.ref a from rx)
    obtain ⟨_,_,xs,_,o,es,ep,h1,h2,_⟩:=(show ZBx X.prog X.w H s.heap a (.dT kvs) from I.hok a _ ea)
    exact PySem.W.kia_one PySem.W.kitx_dict I.kIn ⟨o,h1,h2.1⟩ e (fun z=>nomatch z) h
  | @ins a C dx fs ea cl ha hn htk hm=>
    cases (show u=Value.ref a from rx)
    obtain ⟨mA,O,_⟩:=ZMp I.hok ea
    obtain ⟨od,J,_⟩:=O.look
    exact PySem.W.kia_one (PySem.W.kitx_own (cl.get _) cl.hd ha hn htk hm) I.kIn J e (fun z=>nomatch z) h
end
end L2
namespace L2
open PySem PySem.Spec PyProof.Rows
structure ZES (k:Nat)(A:Around):Prop where
  hd:A.handled=none
  dp:A.depth+3*k+5<recursionLimit
  un:A.units+16*k+200<cLine
theorem ZES.mono {j k:Nat}{A:Around}(r:ZES k A)(h:j≤k):ZES j A:=⟨r.hd,by have:=r.dp;omega,by have:=r.un;omega⟩
theorem ZES.deeper {k:Nat}{A:Around}(r:ZES (k+1) A)(env:Env):ZES k (A.deeper env):=
  ⟨r.hd,by have:=r.dp;show A.depth+1+3*k+5<_;omega,by have:=r.un;show A.units+3+16*k+200<_;omega⟩
theorem ZES.depth {k:Nat}{A:Around}(r:ZES k A):A.depth<recursionLimit:=by have:=r.dp;omega
theorem ZES.units {k:Nat}{A:Around}(r:ZES k A):A.units+64<cLine:=by have:=r.un;omega
theorem ZES.units0 {k:Nat}{A:Around}(r:ZES k A):A.units<cLine:=by have:=r.un;omega
def tNil:TA:=fun _ H Q=>Q [] H
def ZET (ta:TE)(tr:TA):TA:=fun σ H Q=>ta σ H fun x H1=>tr σ H1 fun xs H2=>Q (x::xs) H2
section
variable {X:Cx}{e:Expr}{es:List Expr}{te:TE}{t:TA}{pos:Pos}
theorem ZAB:PA X [] tNil:=fun _ _ _ _ H Q I h=>Calls.spliced_nil ⟨[],H,I,.nil,h⟩
theorem ZCb (ha:PE X e te)(hr:PA X es t)(hs:starEach (e::es) X.env=(false,eval e X.env)::starEach es X.env:=by rfl):PA X (e::es) (ZET te t):=by
  intro pos pins s σ H Q I h
  rw [hs]
  show wpAny _ _ (spliced ((false,eval e X.env)::backTo pos (starEach es X.env))) _ _ s
  refine Calls.spliced_cons (thn (ha pins s σ H _ I h) fun u s1 zq=>?_)
  obtain ⟨x,H1,I1,r1,q1⟩:=zq
  exact thn (hr pos pins s1 σ H1 _ I1 q1) fun us s2 ⟨xs,H2,I2,r2,q2⟩=>⟨x::xs,H2,I2,.cons r1 r2,q2⟩
def tTup (t:TA):TE:=fun σ H Q=>t σ H fun xs H1=>xs.length≤sizeLine∧∀ p,H1 p=none→Q (.ref p) (upd H1 p (.tup xs))
def tLst (t:TA):TE:=fun σ H Q=>t σ H fun xs H1=>xs.length≤sizeLine∧∀ p,H1 p=none→Q (.ref p) (upd H1 p (.lst xs))
theorem ZAb {x1}(h:PA X es t):PE X (.Tuple es x1 pos) (tTup t):=by
  intro pins s σ H Q I hq
  refine wpAny_Tuple_spliced (thn (h pos pins s σ H _ I hq) fun us s1 ⟨xs,H1,I1,r,z,q⟩=>⟨by rw [← r.length];exact z,?_⟩)
  have hf:H1 s1.heap.objs.size=none:=I1.hok.fresh (Nat.le_refl _)
  refine ⟨.ref s1.heap.objs.size,upd H1 s1.heap.objs.size (.tup xs),I1.laid (t':=s1.toks) (fun b u e=>Heap.get?_push_of_some _ e) (Nat.le_refl _) ?_,rfl,q _ hf⟩
  exact ⟨z,us,r,⟨_,Heap.get?_push_size _ rfl,rfl,_,rfl⟩⟩
theorem ZBh (h:PA X es t):PE X (.List es pos) (tLst t):=by
  intro pins s σ H Q I hq
  refine wpAny_List_spliced (thn (h pos pins s σ H _ I hq) fun us s1 ⟨xs,H1,I1,r,z,q⟩=>⟨by rw [← r.length];exact z,?_⟩)
  have hf:H1 s1.heap.objs.size=none:=I1.hok.fresh (Nat.le_refl _)
  refine ⟨.ref s1.heap.objs.size,upd H1 s1.heap.objs.size (.lst xs),I1.laid (t':=s1.toks) (fun b u e=>Heap.get?_push_of_some _ e) (Nat.le_refl _) ?_,rfl,q _ hf⟩
  exact ⟨z,us,0,r,Heap.get?_push_size _ rfl⟩
end
abbrev Sp:=List V→Hp→VK→XK→Prop
abbrev CXT:=List Env→Hp→Shared→XK→Value→Shared→Prop
structure ZN3 (P:Program)(w:World)(K:PySem.W.Frag)(mg:Str→Option Value)(base:Heap)(A:Around)(outer:List Env)(s:Shared)(H:Hp):Prop where
  frames:A.frames=some outer
  mod:Mod K mg base
  bs:∀ b o,base.get? b=some o→s.heap.get? b=some o∧H b=none
  bsz:base.objs.size≤s.heap.objs.size
  funs:s.heap.FunFrames base outer
  frf:∀ b∈frs outer,H b=none
  hok:HOk P w H s.heap
  bare:AllBare s.gens
def CE (outer:List Env)(P:Program)(w:World)(H:Hp)(s:Shared)(Q:VK)(u:Value)(s':Shared):Prop:=
  ∃ v H',s'.os=s.os∧AllBare s'.gens∧Un (frs outer) [] H H' s.heap s'.heap∧HOk P w H' s'.heap∧ZBC v u∧Q v H'
def CR (CX:CXT)(outer:List Env)(P:Program)(w:World)(H:Hp)(s:Shared)(Q:VK)(E:XK)(r:Result)(s':Shared):Prop:=
  match r with
  | .ok (.ret u)=>CE outer P w H s Q u s'
  | .ok _=>False
  | .error e=>CX outer H s E e s'
structure ZBS (P:Program)(w:World)(K:PySem.W.Frag)(mg:Str→Option Value)(base:Heap)(CX:CXT)(k:Nat)(f:Addr)(fd:FuncData)(ps:List Str)(sp:Sp):Prop where
  len:∀ vs H Q E,sp vs H Q E→vs.length=ps.length
  run:∀ (A:Around) (outer:List Env) (s:Shared) (H:Hp) (args:Args) (us:List Value) (vs:List V) (Q:VK) (E:XK),ZES k A→ZN3 P w K mg base A outer s H→BindsTo s fd args (ps.zip us)→ZBJ vs us→sp vs H Q E→
    codeAny (model P w) A (.call (.ref f) args) (CR CX outer P w H s Q E) s
section
variable {X:Cx}{pins:List (Addr×Obj)}{σ:St}{H:Hp}{s s':Shared}
theorem Inv.env0 (I:Inv X pins σ H s):ZN3 X.prog X.w X.K X.mg X.base X.A X.stack s H:=
  ⟨I.ok.frames,I.ok.mod,I.bs,Nat.le_trans I.ok.bsz I.sz,I.stack,I.stkFree,I.hok,I.bare⟩
theorem Inv.after {Q:VK}{u:Value}(I:Inv X pins σ H s)(h:CE X.stack X.prog X.w H s Q u s'):EP X pins σ Q u s':=by
  obtain ⟨v,H',os,bare,un,hok,r,q⟩:=h
  obtain ⟨hh,g,d,t,os'⟩:=s'
  obtain rfl:os'=s.os:=os
  exact ⟨v,H',I.call (h':=hh) (g':=g) (d':=d) (t':=t) (ch:=[]) un hok bare (fun b z=>absurd z (by simp)),r,q⟩
end
def ZN4 (sp:Sp)(dvs:List V)(E:XK)(t:TA):TE:=fun σ H Q=>t σ H fun vs H1=>sp (vs++dvs) H1 Q E
def tMeth (C:Addr)(m:Str)(sp:Sp)(dvs:List V)(E:XK)(ta:TE)(t:TA):TE:=fun σ H Q=>ta σ H fun x H1=>∃ a dx fs,x=.ref a∧H1 a=some (.ins C dx fs)∧fs.lookup m=none∧
  t σ H1 fun vs H2=>sp (x::(vs++dvs)) H2 Q E
def tMake (C:Addr)(sp:Sp)(dvs:List V)(E:XK)(t:TA):TE:=fun σ H Q=>t σ H fun vs H1=>∀ x dx,H1 x=none→H1 dx=none→dx≠x→
  sp (.ref x::(vs++dvs)) (upd (upd H1 dx (.own x)) x (.ins C dx [])) (fun v H2=>v=.non∧Q (.ref x) H2) E
def ZHl (K:PySem.W.Frag)(fd:FuncData)(ps:List Str)(ds:List Value):Prop:=
  ∀ (s:Shared) (us:List Value),K.In s.heap→(us++ds).length=ps.length→BindsTo s fd ⟨us,[]⟩ (ps.zip (us++ds))
theorem ZHl.all {K:PySem.W.Frag}{fd:FuncData}{ps:List Str}(h:∀ us:List Value,us.length=ps.length→bindArgs fd ⟨us,[]⟩=pure (ps.zip us)):ZHl K fd ps []:=fun s us _ hl=>by
  rw [List.append_nil] at hl ⊢
  exact .of_eq (h us hl)
def ZJl (CX:CXT)(X:Cx)(E:XK):Prop:=∀ (pins:List (Addr×Obj)) (σ:St) (H:Hp) (s:Shared) (e:Value) (s':Shared),Inv X pins σ H s→CX X.stack H s E e s'→X.xe e s'
section
variable {X:Cx}{CX:CXT}{k:Nat}{f C:Addr}{fd:FuncData}{ps:List Str}{sp:Sp}{dvs:List V}{ds:List Value}{E:XK}{x m:Str}{p pos apos:Pos}{e o:Expr}{es:List Expr}{ta:TE}{t:TA}
theorem ZN5 {pins:List (Addr×Obj)}{σ:St}{H:Hp}{s:Shared}{Q:VK}{us:List Value}{vs:List V}(F:ZBS X.prog X.w X.K X.mg X.base CX k f fd ps sp)(hr:ZES k X.A)(hb:ZHl X.K fd ps ds)(hd:ZBJ dvs ds)(hx:ZJl CX X E)
    (I:Inv X pins σ H s) (r:ZBJ vs us) (h:sp (vs++dvs) H Q E):wpAny (model X.prog X.w) X.A (call (.ref f) us) (EP X pins σ Q) X.xe s:=by
  have r2:ZBJ (vs++dvs) (us++ds):=r.append hd
  have hl:(us++ds).length=ps.length:=by rw [← r2.length];exact F.len _ _ _ _ h
  refine wpAny_call (codeAny_mono (F.run X.A X.stack s H ⟨us,[]⟩ (us++ds) (vs++dvs) Q E hr I.env0 (hb s us I.kIn hl) r2 h) fun r s' hq=>?_)
  cases r with
  | error e=>exact hx pins σ H s e s' I hq
  | ok fl=>
    cases fl with
    | ret u=>exact I.after hq
    | next=>exact False.elim hq
    | brk=>exact False.elim hq
    | cont=>exact False.elim hq
theorem ZMq (F:ZBS X.prog X.w X.K X.mg X.base CX k f fd ps sp)(hr:ZES k X.A)(hg:Gl X x)(hm:X.mg x=some (.ref f))(hk:PySem.W.keepIn X.K (.ref f)=true)(hb:ZHl X.K fd ps ds)(hd:ZBJ dvs ds)(hx:ZJl CX X E)
    (ha:PA X (e::es) t) (hdb:(x==("__debug__":Str))=false:=by decide) (he:starEach (e::es) X.env=(false,eval e X.env)::starEach es X.env:=by rfl) (hpl:(backTo pos (starEach es X.env)).any (·.1)=false:=by rfl):
    PE X (.Call (.Name x p) (e::es) [] pos) (ZN4 sp dvs E t):=by
  intro pins s σ H Q I h
  refine wpAny_Call_Name_kw (ZE5 I hg hm ?_ hdb)
  refine PySem.W.callWith_K (h₀:=X.base) I.ok.mod.kin hk (thn (ha pos pins s σ H _ I h) fun us s1 ⟨vs,H1,I1,r,q⟩=>⟨I1.kIn,?_⟩) he hpl
  exact ZN5 F hr hb hd hx I1 r q
structure Mk (K:PySem.W.Frag)(C f:Addr):Prop where
  makes:PySem.W.makesIn K C=true
  init:PySem.W.findIn K (.ref C) "__init__"=some (some (.ref f))
  fn:PySem.W.isFn K (.ref f)=true
  kp:PySem.W.keepIn K (.ref C)=true
end
def PK (X:Cx)(kws:List Keyword)(t:TA):Prop:=
  ∀ (pos:Pos) (pins:List (Addr×Obj)) (s:Shared) (σ:St) (H:Hp) (Q:List V→Hp→Prop),Inv X pins σ H s→t σ H Q→wpAny (model X.prog X.w) X.A (evalAll ((backToKw pos (keywordEach kws X.env)).map (·.2))) (AP X pins σ Q) X.xe s
section
variable {X:Cx}{CX:CXT}{k:Nat}{f C:Addr}{fd:FuncData}{ps ks:List Str}{sp:Sp}{E:XK}{x m:Str}{p pos apos kpos:Pos}{e o:Expr}{es:List Expr}{kws:List Keyword}{te ta:TE}{t tk:TA}{nm:Option Str}
structure ZRb (K:PySem.W.Frag)(fd:FuncData)(ps ks:List Str)(g:List Value→List Value→List Value)(gV:List V→List V→List V):Prop where
  to:∀ (s:Shared) (us ws:List Value),K.In s.heap→(g us ws).length=ps.length→BindsTo s fd ⟨us,ks.zip ws⟩ (ps.zip (g us ws))
  rel:∀ {vs:List V} {us:List Value} {zs:List V} {ws:List Value},ZBJ vs us→ZBJ zs ws→ZBJ (gV vs zs) (g us ws)
def ZRc (sp:Sp)(gV:List V→List V→List V)(E:XK)(t tk:TA):TE:=fun σ H Q=>t σ H fun vs H1=>tk σ H1 fun zs H2=>sp (gV vs zs) H2 Q E
variable {g:List Value→List Value→List Value}{gV:List V→List V→List V}
end
structure ZAS (N P:List Str)(sc:Scope):Prop where
  kind:sc.kind=.function
  co:sc.isCoroutine=false
  gen:sc.isGenerator=false
  nd:N.Nodup
  pre:N.take P.length=P
  par:∀ x∈P,sc.names.lookup x=some .local∨sc.names.lookup x=some .cell
  nofree:∀ y∈sc.names,y.2≠.free
theorem ZG3 {kindOf:Str→Option NameKind}{x:Str}:∀ {binds:List (Str×Value)} {m:Str→Option Value},(∀ v,(x,v)∉binds)→bindL kindOf binds m x=m x
  | [],_,_=>rfl
  | (n,v)::r,m,h=>by
    unfold bindL
    rw [ZG3 fun w hw=>h w (List.mem_cons_of_mem _ hw)]
    split
    · have:x≠n:=by rintro rfl;exact h v List.mem_cons_self
      simp [this]
    · rfl
theorem ZG4 {kindOf:Str→Option NameKind}{x:Str}:∀ {binds:List (Str×Value)} {m:Str→Option Value},(∀ v,(x,v)∉binds)→bindC kindOf binds m x=m x
  | [],_,_=>rfl
  | (n,v)::r,m,h=>by
    unfold bindC
    rw [ZG4 fun w hw=>h w (List.mem_cons_of_mem _ hw)]
    split
    · rfl
    · have:x≠n:=by rintro rfl;exact h v List.mem_cons_self
      simp [this]
theorem ZG5 {kindOf:Str→Option NameKind}{x:Str}{v:Value}:∀ {P:List Str} {vs:List Value} {i:Nat} {m:Str→Option Value},P.Nodup→P[i]?=some x→vs[i]?=some v→kindOf x=some .local→
    bindL kindOf (P.zip vs) m x=some v
  | [],_,_,_,_,h,_,_=>by simp at h
  | _::_,[],_,_,_,_,h,_=>by simp at h
  | p::P,w::vs,0,m,nd,h1,h2,hk=>by
    simp at h1 h2;subst h1;subst h2
    show bindL kindOf ((p,w)::P.zip vs) m p=_
    unfold bindL
    rw [ZG3 fun v hv=>(List.nodup_cons.mp nd).1 (List.of_mem_zip hv).1,if_pos hk]
    simp
  | p::P,w::vs,i+1,m,nd,h1,h2,hk=>by
    show bindL kindOf ((p,w)::P.zip vs) m x=_
    unfold bindL
    exact ZG5 (i:=i) (List.nodup_cons.mp nd).2 (by simpa using h1) (by simpa using h2) hk
theorem ZG6 {kindOf:Str→Option NameKind}{x:Str}{v:Value}:∀ {P:List Str} {vs:List Value} {i:Nat} {m:Str→Option Value},P.Nodup→P[i]?=some x→vs[i]?=some v→kindOf x≠some .local→
    bindC kindOf (P.zip vs) m x=some v
  | [],_,_,_,_,h,_,_=>by simp at h
  | _::_,[],_,_,_,_,h,_=>by simp at h
  | p::P,w::vs,0,m,nd,h1,h2,hk=>by
    simp at h1 h2;subst h1;subst h2
    show bindC kindOf ((p,w)::P.zip vs) m p=_
    unfold bindC
    rw [ZG4 fun v hv=>(List.nodup_cons.mp nd).1 (List.of_mem_zip hv).1,if_neg hk]
    simp
  | p::P,w::vs,i+1,m,nd,h1,h2,hk=>by
    show bindC kindOf ((p,w)::P.zip vs) m x=_
    unfold bindC
    exact ZG6 (i:=i) (List.nodup_cons.mp nd).2 (by simpa using h1) (by simpa using h2) hk
def ZGD (N:List Str)(vs:List V):St:=vs.map some++List.replicate (N.length-vs.length) none
def ZMr (CX:CXT)(P:Program)(w:World)(K:PySem.W.Frag)(mg:Str→Option Value)(base:Heap)(N:List Str)(qual:Str)(scope:Scope)(f:Addr)(cd:Value)(A:Around)(outer:List Env)(s:Shared)(H:Hp)(E:XK):Cx where
  prog:=P
  w:=w
  K:=K
  mg:=mg
  base:=base
  A:=A.deeper (envOfC qual scope s.heap.objs.size f cd)
  N:=N
  s₀:=s
  H₀:=H
  env:=envOfC qual scope s.heap.objs.size f cd
  outer:=outer
  stack:=envOfC qual scope s.heap.objs.size f cd::outer
  ex:=[]
  calm:=true
  fn:=fun _=>true
  pn:=[]
  xe:=fun e s'=>wpAny (model P w) (A.deeper (envOfC qual scope s.heap.objs.size f cd)) (leaving (envOfC qual scope s.heap.objs.size f cd) e) (fun _ s''=>CX outer H s E e s'') (fun e' s''=>CX outer H s E e' s'') s'
theorem ZIN {sc:Scope}{n:Nat}{x:Str}(h:sc.names.lookup x=some .cell):∃ c,(cellsFrom n sc.names []).lookup x=some c:=by
  have q:=PySem.W.cellsFrom_some sc.names n [] (.inl h)
  exact Option.isSome_iff_exists.mp q
theorem ZJm {CX:CXT}{P:Program}{w:World}{K:PySem.W.Frag}{mg:Str→Option Value}{base:Heap}{N ps:List Str}{qual:Str}{scope:Scope}{f:Addr}{cd:Value}{A:Around}{outer:List Env}{s s1:Shared}{H:Hp}{E:XK}{us:List Value}{vs:List V}
    (S:ZAS N ps scope) (hd:A.handled=none) (e0:ZN3 P w K mg base A outer s H) (hl:vs.length=ps.length) (r:ZBJ vs us)
    (x:InCallC s s.heap.objs.size (bindL (envOfC qual scope s.heap.objs.size f cd).kindOf (ps.zip us) fun _=>none) (cellsFrom (s.heap.objs.size+1) scope.names []) (bindC (envOfC qual scope s.heap.objs.size f cd).kindOf (ps.zip us) fun _=>none) s1):
    Inv (ZMr CX P w K mg base N qual scope f cd A outer s H E) [] (ZGD N vs) H s1:=by
  have hpl:ps.length≤N.length:=by have:=congrArg List.length S.pre;rw [List.length_take] at this;omega
  obtain ⟨h1,tk,rfl,hk⟩:=x.done
  have noA:∀ b:Addr,b∉(ZMr CX P w K mg base N qual scope f cd A outer s H E).ex:=fun b z=>absurd (show b∈([]:List Addr) from z) (by simp)
  refine ⟨⟨e0.mod,S.kind,rfl,rfl,Nat.le_refl _,fun y z c h1 h2=>?_,fun y hy=>?_,fun y c _ h=>?_,fun _=>hd,Around.frames_deeper e0.frames,.inr ⟨rfl,rfl⟩,fun b z=>absurd z (noA b),e0.bs,e0.bsz,fun b _ _=>noA b,fun b z=>absurd z (noA b),e0.funs,e0.frf⟩,
    rfl,e0.bare,Un.kept hk,⟨_,x.toInCall.ns,fun i y v h1 h2 h3=>?_⟩,fun y c h=>⟨_,x.cell y c h⟩,e0.hok.fresh (Nat.le_refl _),fun y c h=>?_,fun p hp=>absurd (show p∈([]:List (Addr×Obj)) from hp) (by simp),e0.hok.kept hk,?_⟩
  · exact name_of_addr x.apart (PySem.mem_of_lookup h1) (PySem.mem_of_lookup h2)
  · have hy:scope.names.lookup y=some .cell∨scope.names.lookup y=some .free:=hy
    rcases hy with hy | hy
    · exact ZIN hy
    · exact absurd rfl (S.nofree _ (PySem.mem_of_lookup hy))
  · exact Nat.le_of_lt (x.above y c (PySem.mem_of_lookup h))
  · have hi:i<vs.length:=by
      unfold ZGD at h2
      by_cases hi:i<vs.length
      · exact hi
      · rw [List.getElem?_append_right (by simpa using hi)] at h2
        rw [List.getElem?_replicate] at h2
        split at h2 <;> cases h2
    have ha:vs[i]?=some v:=by
      unfold ZGD at h2
      rw [List.getElem?_append_left (by simpa using hi),List.getElem?_map] at h2
      cases e:vs[i]? with
      | none=>rw [e] at h2;cases h2
      | some a=>rw [e] at h2;cases h2;rfl
    obtain ⟨u,hu,rv⟩:=r.get ha
    have hp:ps[i]?=some y:=by
      rw [← S.pre,List.getElem?_take_of_lt (by omega)];exact h1
    have ndP:ps.Nodup:=by rw [← S.pre];exact S.nd.sublist (List.take_sublist _ _)
    refine ⟨u,rv,?_⟩
    rcases S.par y (List.mem_of_getElem? hp) with k | k
    · exact .inl ⟨k,ZG5 ndP hp hu k⟩
    · obtain ⟨c,e⟩:=ZIN (n:=s.heap.objs.size+1) k
      refine .inr ⟨.inl k,c,e,?_⟩
      have q:=x.cell y c e
      rw [ZG6 ndP hp hu (by show scope.names.lookup y≠_;rw [k];decide)] at q
      exact q
  · exact e0.hok.fresh (Nat.le_of_lt (x.above y c (PySem.mem_of_lookup h)))
  · unfold ZGD
    show _=N.length
    rw [List.length_append,List.length_map,List.length_replicate]
    omega
theorem ZN6 {CX:CXT}{P:Program}{w:World}{K:PySem.W.Frag}{mg:Str→Option Value}{base:Heap}{k:Nat}{f:Addr}{name qual:Str}{params:Arguments}{body:List Stmt}{scope:Scope}{dV kV doc pm cdv ct oc:Value}{an od:Option Addr}
    {osl:Array (Option Value)} {N ps:List Str} {sp:Sp} (lk:K.lookup f=some ⟨oc,od,.func (PySem.W.fnOf name qual params body scope dV kV doc pm an cdv ct),osl⟩) (hcd:PySem.W.codeIn K cdv qual=true) (S:ZAS N ps scope)
    (len:∀ vs H Q E,sp vs H Q E→vs.length=ps.length)
    (hbody:∀ (A:Around) (outer:List Env) (s:Shared) (H:Hp) (vs:List V) (Q:VK) (E:XK),ZES k (A.deeper (envOfC qual scope s.heap.objs.size f cdv))→sp vs H Q E→
      ∃ t,PSs (ZMr CX P w K mg base N qual scope f cdv A outer s H E) body t∧t { nx:=fun _ H'=>Q .non H',rt:=Q } (ZGD N vs) H):
    ZBS P w K mg base CX (k+1) f (PySem.W.fnOf name qual params body scope dV kV doc pm an cdv ct) ps sp:=by
  refine ⟨len,fun A outer s H args us vs Q E hr e0 hb r hsp=>?_⟩
  have hl:=len _ _ _ _ hsp
  have KX:K.In s.heap:=e0.mod.kin.keeps fun b o e=>(e0.bs b o e).1
  have lim:s.heap.NoLimit:=e0.mod.nolimit.keeps fun b o e=>(e0.bs b o e).1
  have hkind:∀ y∈ps.zip us,scope.names.lookup y.1=some .local∨(scope.names.lookup y.1=some .cell∧((cellsFrom (s.heap.objs.size+1) scope.names []).lookup y.1).isSome=true):=fun ⟨n,v⟩ hy=>by
    rcases S.par n (List.of_mem_zip hy).1 with q | q
    · exact .inl q
    · exact .inr ⟨q,PySem.W.cellsFrom_some _ _ _ (.inl q)⟩
  refine codeAny_call_function hr.depth (KX _ _ lk) rfl S.co S.gen rfl (PySem.W.codeRec_of KX hcd) (hb _ _ _ _ ?_)
  refine wpAny_newFunctionEnv_cells S.kind hkind fun env he s1 x=>?_
  subst he
  refine ⟨lim.keeps x.toInCall.keep,codeAny_func ?_⟩
  obtain ⟨t,ht,hq⟩:=hbody A outer s H vs Q E (hr.deeper _) hsp
  have I:Inv (ZMr CX P w K mg base N qual scope f cdv A outer s H E) [] (ZGD N vs) H s1:=ZJm S hr.hd e0 hl r x
  refine wpAny_mono (ht [] s1 (ZGD N vs) H _ I hq) (fun fl s' hs=>?_) fun e s' hs=>hs
  have fin:∀ {σ':St} {H':Hp} {v:V} {u:Value},Inv (ZMr CX P w K mg base N qual scope f cdv A outer s H E) [] σ' H' s'→ZBC v u→Q v H'→CE outer P w H s Q u s':=
    fun {σ' H' v u} J rv q=>⟨v,H',J.os,J.bare,J.base,J.hok,rv,q⟩
  cases fl with
  | ret u=>
    obtain ⟨v,σ',H',J,rv,q⟩:=hs
    exact fin J rv q
  | next=>
    obtain ⟨σ',H',J,q⟩:=hs
    exact fin (v:=V.non) (u:=Value.none) J rfl q
  | brk=>
    obtain ⟨_,_,_,q⟩:=hs
    exact False.elim q
  | cont=>
    obtain ⟨_,_,_,q⟩:=hs
    exact False.elim q
end L2
namespace L2
open PySem PySem.Spec PyProof.Rows
section
variable {X:Cx}{x:Str}{p pos:Pos}{e:Expr}{es:List Expr}{t:TA}{id T:String}{r:List V→Hp→VK→Prop}
def tCB (r:List V→Hp→VK→Prop)(t:TA):TE:=fun σ H Q=>t σ H fun vs H1=>r vs H1 Q
theorem ZAU (hc:ZD9 X (.builtin id) r)(hg:Gl X x)(hm:X.mg x=none)(hv:bootBuiltins x=some (.builtin id))(ha:PA X (e::es) t)(hn:x≠"__name__":=by decide)(hdb:(x==("__debug__":Str))=false:=by decide)
    (he:starEach (e::es) X.env=(false,eval e X.env)::starEach es X.env:=by rfl) (hpl:(backTo pos (starEach es X.env)).any (·.1)=false:=by rfl):PE X (.Call (.Name x p) (e::es) [] pos) (tCB r t):=by
  intro pins s σ H Q I h
  refine wpAny_Call_Name_kw (ZDp I hg hm hv ?_ hn hdb)
  exact PyProof.Rows.callWith_builtin1 (thn (ha pos pins s σ H _ I h) fun us s1 ⟨vs,H1,I1,r1,q1⟩=>hc pins s1 σ H1 vs us Q I1 r1 q1) he hpl
theorem ZBy (hc:ZD9 X (.type T) r)(hg:Gl X x)(hm:X.mg x=none)(hv:bootBuiltins x=some (.type T))(ha:PA X (e::es) t)(hn:x≠"__name__":=by decide)(hdb:(x==("__debug__":Str))=false:=by decide)
    (he:starEach (e::es) X.env=(false,eval e X.env)::starEach es X.env:=by rfl) (hpl:(backTo pos (starEach es X.env)).any (·.1)=false:=by rfl):PE X (.Call (.Name x p) (e::es) [] pos) (tCB r t):=by
  intro pins s σ H Q I h
  refine wpAny_Call_Name_kw (ZDp I hg hm hv ?_ hn hdb)
  exact PyProof.Rows.callWith_type1 (thn (ha pos pins s σ H _ I h) fun us s1 ⟨vs,H1,I1,r1,q1⟩=>hc pins s1 σ H1 vs us Q I1 r1 q1) he hpl
end
end L2
namespace HT
open PySem PyProof.Rows
def ZN7:List Int→List Int→Bool
  | [],[]=>false
  | [],_::_=>true
  | _::_,[]=>false
  | x::xs,y::ys=>if x=y then ZN7 xs ys else decide (x<y)
section
open PySem.SeqAt
open PySem.AutoSeq1 (wpAny_loadPart')
open PySem.MeetsSeq PySem.MeetsSeq2 PySem.MeetsSeq3
end
section
variable {prog:Program}{w:World}{A:Around}{E:Value→Shared→Prop}{s:Shared}
def sIx (n d:Nat):Option Int→Nat
  | none=>d
  | some v=>if v<0 then (v+(n:Int)).toNat else min v.toNat n
theorem ZN8 (n d:Nat)(hd:d≤n)(o:Option Int):sIx n d o≤n:=by
  cases o with
  | none=>exact hd
  | some v=>
    show (if v<0 then (v+(n:Int)).toNat else min v.toNat n)≤n
    by_cases hv:v<0
    · rw [if_pos hv];omega
    · rw [if_neg hv];exact Nat.min_le_right _ _
theorem ZJn (v:Int)(n d:Nat):(if v<0 then max (v+(n:Int)) 0 else min v (n:Int))=((sIx n d (some v):Nat):Int):=by
  show (if v<0 then max (v+(n:Int)) 0 else min v (n:Int))=(((if v<0 then (v+(n:Int)).toNat else min v.toNat n):Nat):Int)
  by_cases hv:v<0
  · simp only [if_pos hv];omega
  · simp only [if_neg hv];omega
theorem ZIz (lo hi:Option Int)(n:Nat):Builtin.Slice.sliceAdjust lo hi 1 (n:Int)=(((sIx n 0 lo:Nat):Int),((sIx n n hi:Nat):Int)):=by
  have h1:¬ ((1:Int)<0):=by omega
  unfold Builtin.Slice.sliceAdjust
  simp only [h1,if_false]
  refine Prod.ext ?_ ?_
  · cases lo with
    | none=>rfl
    | some v=>exact ZJn v n 0
  · cases hi with
    | none=>rfl
    | some v=>exact ZJn v n n
theorem ZI0 (i j:Nat):Builtin.Slice.slicePlaces (i:Int) (j:Int) 1=j-i:=by
  unfold Builtin.Slice.slicePlaces
  have h1:(1:Int)>0:=by omega
  simp only [h1,if_true,Int.ediv_one]
  split <;> omega
theorem ZF2 {v:Value}{o:Option Int}{Q:Option Int→Shared→Prop}(p:IsPart v o)(h:Q o s):wpAny (model prog w) A (Builtin.Slice.slicePartIndex v) Q E s:=by
  cases p with
  | none=>exact slicePart_none h
  | int i t=>exact slicePart_int h
theorem ZEm {sl:Addr}{vl vu:Value}{lo hi:Option Int}{n:Nat}{Q:Int×Int×Nat→Shared→Prop}(hs:s.heap.IsSliceOf sl vl vu .none)(pl:IsPart vl lo)(pu:IsPart vu hi)
    (h:Q (((sIx n 0 lo:Nat):Int),1,sIx n n hi-sIx n 0 lo) s):wpAny (model prog w) A (Builtin.Slice.sliceApplied (.ref sl) (pure (n:Int))) Q E s:=by
  obtain ⟨os,hos,hcs,hds⟩:=id hs
  unfold Builtin.Slice.sliceApplied Builtin.Slice.sliceFields
  refine wpAny_bind (wpAny_bind (wpAny_field hos hds (x:=vl) rfl (wpAny_bind (wpAny_field hos hds (x:=vu) rfl (wpAny_bind (wpAny_field hos hds (x:=.none) rfl (wpAny_pure ?_)))))))
  refine wpAny_bind (slicePart_none ?_)
  show wpAny _ _ (if ((1:Int)==0)=true then _ else _) _ _ s
  rw [if_neg (by decide)]
  refine wpAny_bind (ZF2 pl (wpAny_bind (ZF2 pu (wpAny_bind (wpAny_pure ?_)))))
  show wpAny _ _ (match Builtin.Slice.sliceAdjust lo hi 1 (n:Int) with | (lo,hi)=>pure (lo,(1:Int),Builtin.Slice.slicePlaces lo hi 1)) _ _ s
  rw [ZIz lo hi n]
  show wpAny _ _ (pure (((sIx n 0 lo:Nat):Int),(1:Int),Builtin.Slice.slicePlaces ((sIx n 0 lo:Nat):Int) ((sIx n n hi:Nat):Int) 1)) _ _ s
  rw [ZI0]
  exact wpAny_pure h
theorem ZLE (xs:Array Value)(i k:Nat):((List.range k).filterMap fun (m:Nat)=>xs[((i:Int)+(m:Int)*1).toNat]?).toArray=((xs.toList.drop i).take k).toArray:=by
  have e:(fun (m:Nat)=>xs[((i:Int)+(m:Int)*1).toNat]?)=fun m=>xs[i+m]?:=by
    funext m
    have:((i:Int)+(m:Int)*1).toNat=i+m:=by omega
    rw [this]
  rw [e]
  have:=pick_run xs i k
  rw [List.filterMap_map] at this
  have e2:((fun x=>xs[x]?)∘fun x=>i+x)=fun m=>xs[i+m]?:=rfl
  rw [e2] at this
  rw [this]
theorem ZEU {t sl:Addr}{items:Array Value}{vl vu:Value}{lo hi:Option Int}{Q:Value→Shared→Prop}(ht:IsTup s.heap t items)(hs:s.heap.IsSliceOf sl vl vu .none)(pl:IsPart vl lo)(pu:IsPart vu hi)
    (hw:¬ (sIx items.size 0 lo=0∧sIx items.size items.size hi=items.size))
    (h:Q (.ref s.heap.objs.size) { s with heap:=s.heap.push { cls:=.type "tuple",data:=.seq ((items.toList.drop (sIx items.size 0 lo)).take (sIx items.size items.size hi-sIx items.size 0 lo)).toArray } })
    (hsz:items.size≤sizeLine):wpAny (model prog w) A (getItem (.ref t) (.ref sl)) Q E s:=by
  have htake:sizeOk (.seq ((items.toList.drop (sIx items.size 0 lo)).take (sIx items.size items.size hi-sIx items.size 0 lo)).toArray):=by
    show ((items.toList.drop (sIx items.size 0 lo)).take (sIx items.size items.size hi-sIx items.size 0 lo)).toArray.size≤sizeLine
    rw [List.size_toArray,List.length_take,List.length_drop,Array.length_toList]
    omega
  have hj:sIx items.size items.size hi≤items.size:=ZN8 _ _ (Nat.le_refl _) hi
  obtain ⟨os,hos,hcs,hds⟩:=id hs
  have hTs:s.TypeIs (.ref sl) "slice":=⟨os,hos,hcs⟩
  unfold getItem
  try with_reducible refine wpAny_holding ?_
  first | refine wpAny_bind (wpAny_pure ?_) | skip
  refine wpAny_bind (wpAny_sequenceKey ht.typeIs (by decide) ?_)
  refine wpAny_bind (wpAny_callSpecial?_slot (name:=Str.ofString "__getitem__") ht.typeIs PyProof.Rows.slot_tuple_getitem
    (wpAny_call_entry PyProof.Rows.slot_tuple_getitem ht.typeIs entry_tuple_getitem ?_ (args_tuple_getitem _ _)))
  show wpAny _ _ (Builtin.Tuple.tupleItemsOf (.ref t) >>= _) _ _ s
  refine wpAny_bind (tupleItemsOf_ ht ?_)
  refine wpAny_bind (wpAny_typeOf hTs ?_)
  rw [if_pos (by decide)]
  refine wpAny_bind (ZEm hs pl pu ?_)
  have hno:¬ ((((sIx items.size 0 lo:Nat):Int)==0&&(1:Int)==1&&(sIx items.size items.size hi-sIx items.size 0 lo)==items.size)=true):=by
    intro q
    rw [Bool.and_eq_true,Bool.and_eq_true] at q
    have q1:((sIx items.size 0 lo:Nat):Int)=0:=eq_of_beq q.1.1
    have q2:sIx items.size items.size hi-sIx items.size 0 lo=items.size:=eq_of_beq q.2
    exact hw ⟨by omega,by omega⟩
  show wpAny _ _ (if (((sIx items.size 0 lo:Nat):Int)==0&&(1:Int)==1&&(sIx items.size items.size hi-sIx items.size 0 lo)==items.size)=true then _ else _) _ _ s
  rw [if_neg hno,ZLE]
  first
    | exact wpAny_bind (m:=Builtin.Tuple.tupleExact _) (wpAny_newObj_type (wpAny_pure ⟨_,rfl,wpAny_pure h⟩) htake)
    | exact wpAny_bind (m:=Builtin.Tuple.tupleExact _) (wpAny_newObj_type (wpAny_bind (wpAny_pure (wpAny_pure ⟨_,rfl,wpAny_pure h⟩))) htake)
    | exact wpAny_bind (wpAny_bind (m:=Builtin.Tuple.tupleExact _) (wpAny_newObj_type (wpAny_pure (wpAny_pure ⟨_,rfl,wpAny_pure h⟩)) htake))
    | exact wpAny_bind (wpAny_bind (m:=Builtin.Tuple.tupleExact _) (wpAny_newObj_type (wpAny_pure ⟨_,rfl,wpAny_pure h⟩) htake))
end
end HT
namespace L2
open PySem PySem.Spec PyProof.Rows
abbrev TO:=St→Hp→(Option Int→Hp→Prop)→Prop
def PO (X:Cx)(e:Option Expr)(t:TO):Prop:=
  ∀ (pins:List (Addr×Obj)) (s:Shared) (σ:St) (H:Hp) (Q:Option Int→Hp→Prop),Inv X pins σ H s→t σ H Q→
    wpAny (model X.prog X.w) X.A (evalPart e X.env) (fun u s'=>∃ o H',Inv X pins σ H' s'∧IsPart u o∧Q o H') X.xe s
def ZMs:TO:=fun _ H Q=>Q none H
def ZPo (t:TE):TO:=fun σ H Q=>t σ H fun x H1=>∃ i,x=.int i∧Q (some i) H1
section
variable {X:Cx}{e:Expr}{te:TE}{lo hi:Option Expr}{tl th:TO}{pos p2:Pos}
theorem ZGE:PO X none ZMs:=by
  intro pins s σ H Q I h
  rw [evalPart_none]
  exact wpAny_pure ⟨none,H,I,.none,h⟩
theorem ZEV (h:PE X e te):PO X (some e) (ZPo te):=by
  intro pins s σ H Q I hw
  rw [evalPart_some]
  refine thn (h pins s σ H _ I hw) fun u s1 zq=>?_
  obtain ⟨x,H1,I1,r1,q1⟩:=zq
  obtain ⟨i,rfl,q⟩:=q1
  obtain ⟨t,rfl⟩:=r1
  exact ⟨some i,H1,I1,.int i t,q⟩
def SlR (X:Cx)(r:V→Option Int→Option Int→Hp→VK→Prop):Prop:=
  ∀ (pins:List (Addr×Obj)) (s:Shared) (σ:St) (H:Hp) (x:V) (v vl vu:Value) (lo hi:Option Int) (sl:Addr) (Q:VK),Inv X pins σ H s→ZBC x v→s.heap.IsSliceOf sl vl vu .none→IsPart vl lo→IsPart vu hi→r x lo hi H Q→
    ∃ T id,typeLookup (.type T) "__getitem__"=pure (some (.builtin id))∧s.TypeIs v T∧wpAny (model X.prog X.w) X.A (getItem v (.ref sl)) (EP X pins σ Q) X.xe s
def tSl (r:V→Option Int→Option Int→Hp→VK→Prop)(te:TE)(tl th:TO):TE:=fun σ H Q=>te σ H fun x H1=>tl σ H1 fun l H2=>th σ H2 fun u H3=>r x l u H3 Q
theorem ZEB {r:V→Option Int→Option Int→Hp→VK→Prop}(hr:SlR X r)(he:PE X e te)(hl:PO X lo tl)(hu:PO X hi th):PE X (.Subscript e (.Slice lo hi none p2) pos) (tSl r te tl th):=by
  intro pins s σ H Q I h
  refine Subscript_ (thn (he pins s σ H _ I h) fun v s1 zq=>?_)
  obtain ⟨x,H1,I1,r1,q1⟩:=zq
  refine wpAny_Slice (thn (hl pins s1 σ H1 _ I1 q1) fun vl s2 ⟨l,H2,I2,pl,q2⟩=>thn (hu pins s2 σ H2 _ I2 q2) fun vu s3 zq=>?_)
  obtain ⟨u,H3,I3,pu,q3⟩:=zq
  rw [evalPart_none]
  refine wpAny_pure ?_
  have I4:Inv X pins σ H3 { s3 with heap:=s3.heap.push { cls:=.type "slice",data:=.fields #[vl,vu,.none] } }:=I3.kept (t':=s3.toks) fun b ob q=>Heap.get?_push_of_some _ q
  obtain ⟨T,id,hT,ht,hg⟩:=hr pins { s3 with heap:=s3.heap.push { cls:=.type "slice",data:=.fields #[vl,vu,.none] } } σ H3 x v vl vu l u s3.heap.objs.size Q I4 r1 (Heap.IsSliceOf.new ..) pl pu q3
  show wpAny (model X.prog X.w) X.A (subscriptTail e (.Slice lo hi none p2) v (.ref s3.heap.objs.size)) (EP X pins σ Q) X.xe { s3 with heap:=s3.heap.push { cls:=.type "slice",data:=.fields #[vl,vu,.none] } }
  exact tail_any (ops:=[.ref s3.heap.objs.size,v]) ht hT hg (by with_unfolding_all rfl)
def ZFE (xs:List V)(lo hi:Option Int):List V:=(xs.drop (HT.sIx xs.length 0 lo)).take (HT.sIx xs.length xs.length hi-HT.sIx xs.length 0 lo)
theorem ZDx (xs:List V)(lo hi:Option Int):(ZFE xs lo hi).length≤xs.length:=by
  unfold ZFE
  rw [List.length_take,List.length_drop]
  omega
def rSlT (K:PySem.W.Frag):V→Option Int→Option Int→Hp→VK→Prop:=fun x lo hi H Q=>∃ a xs,x=.ref a∧SqT K H a xs∧
  ¬ (HT.sIx xs.length 0 lo=0∧HT.sIx xs.length xs.length hi=xs.length)∧∀ p,H p=none→Q (.ref p) (upd H p (.tup (ZFE xs lo hi)))
theorem ZN9:SlR X (rSlT X.K):=by
  intro pins s σ H x v vl vu lo hi sl Q I rx hs pl pu h
  obtain ⟨a,xs,rfl,hx,hw,q⟩:=h
  cases rx
  obtain ⟨its,r,ht,hz⟩:=I.tuple hx
  have hlen:its.toArray.size=xs.length:=by rw [List.size_toArray];exact r.length.symm
  refine ⟨"tuple",_,PyProof.Rows.slot_tuple_getitem.lookup,ht.typeIs,?_⟩
  refine HT.ZEU ht hs pl pu (by rw [hlen];exact hw) ?_ (by rw [hlen];exact hz)
  rw [hlen]
  refine ⟨.ref s.heap.objs.size,_,I.laid (t':=s.toks) (o:=.tup (ZFE xs lo hi)) (fun b ob q=>Heap.get?_push_of_some _ q) (Nat.le_refl _) ?_,rfl,q _ (I.hok.fresh (Nat.le_refl _))⟩
  exact ⟨Nat.le_trans (ZDx xs lo hi) hz,_,(r.drop (HT.sIx xs.length 0 lo)).take (HT.sIx xs.length xs.length hi-HT.sIx xs.length 0 lo),IsTup.new _ _⟩
def rLtT (K:PySem.W.Frag):R2:=fun x y H Q=>∃ a b ns ms,x=.ref a∧y=.ref b∧SqT K H a (ns.map V.int)∧SqT K H b (ms.map V.int)∧Q (.bl (HT.ZN7 ns ms)) H
def rCatT (K:PySem.W.Frag):R2:=fun x y H Q=>∃ a b xs ys,x=.ref a∧y=.ref b∧SqT K H a xs∧SqT K H b ys∧xs≠[]∧xs.length+ys.length≤sizeLine∧
  (ys=[]→Q (.ref a) H)∧(ys≠[]→∀ p,H p=none→Q (.ref p) (upd H p (.tup (xs++ys))))
end
end L2
namespace L2
open PySem PySem.Spec PyProof.Rows
def ixN (n:Nat)(i:Int):Option Nat:=if 0≤i then (if i<n then some i.toNat else none) else if -(n:Int)≤i then some (i+n).toNat else none
def atI {α:Type}(xs:List α)(i:Int):Option α:=(ixN xs.length i).bind fun j=>xs[j]?
theorem ZJo {n:Nat}{i:Int}{j:Nat}(h:ixN n i=some j):seqIndex? i n=some j∧j<n∧-(n:Int)≤i∧i<n:=by
  unfold ixN at h
  by_cases h0:0≤i
  · rw [if_pos h0] at h
    by_cases h1:i<n
    · rw [if_pos h1] at h
      have e:i.toNat=j:=Option.some.inj h
      exact ⟨by rw [seqIndex_of h0 h1,e],by omega,by omega,h1⟩
    · rw [if_neg h1] at h;cases h
  · rw [if_neg h0] at h
    by_cases h1:-(n:Int)≤i
    · rw [if_pos h1] at h
      have e:(i+n).toNat=j:=Option.some.inj h
      exact ⟨by rw [seqIndex_neg (by omega) h1,e],by omega,h1,by omega⟩
    · rw [if_neg h1] at h;cases h
theorem ZHm {α:Type}{xs:List α}{i:Int}{v:α}(h:atI xs i=some v):∃ j,seqIndex? i xs.length=some j∧xs[j]?=some v∧j<xs.length∧-(xs.length:Int)≤i∧i<xs.length:=by
  unfold atI at h
  cases e:ixN xs.length i with
  | none=>rw [e] at h;cases h
  | some j=>
    rw [e] at h
    obtain ⟨h1,h2,h3,h4⟩:=ZJo e
    exact ⟨j,h1,h,h2,h3,h4⟩
theorem ZDY {α:Type}{xs:List α}{j:Nat}{v:α}(h:xs[j]?=some v):atI xs (j:Int)=some v:=by
  have hj:j<xs.length:=(List.getElem?_eq_some_iff.mp h).1
  have e:ixN xs.length (j:Int)=some j:=by
    unfold ixN
    rw [if_pos (by omega),if_pos (by omega)];simp
  unfold atI;rw [e];exact h
def ZMt (b:Expr):Prop:=∀ o i,subscripted b false o i=operate [o,i] (getItem o i)
def IxR (X:Cx)(r:R2):Prop:=
  ∀ (value slice:Expr) (pins:List (Addr×Obj)) (s:Shared) (σ:St) (H:Hp) (x y:V) (v u:Value) (Q:VK),Inv X pins σ H s→ZBC x v→ZBC y u→r x y H Q→
    subscripted slice false v u=operate [v,u] (getItem v u)→wpAny (model X.prog X.w) X.A (subscriptTail value slice v u) (EP X pins σ Q) X.xe s
def MtR (X:Cx)(id:String)(r:V→List V→Hp→VK→Prop):Prop:=
  ∀ (pins:List (Addr×Obj)) (s:Shared) (σ:St) (H:Hp) (x:V) (xs:List V) (v:Value) (us:List Value) (Q:VK),Inv X pins σ H s→ZBC x v→ZBJ xs us→r x xs H Q→
    wpAny (model X.prog X.w) X.A (call (.builtin id) (v::us)) (EP X pins σ Q) X.xe s
section
variable {X:Cx}{a b:Expr}{ta tb:TE}{pos:Pos}
theorem ZAN {r:R2}(hr:IxR X r)(ha:PE X a ta)(hb:PE X b tb)(hs:ZMt b):PE X (.Subscript a b pos) (tOp r ta tb):=by
  intro pins s σ H Q I h
  exact Subscript_ (ZPi ha hb I h fun v u s2 x y H2 I2 rx ry q=>hr a b pins s2 σ H2 x y v u Q I2 rx ry q (hs _ _))
def ZRd (K:PySem.W.Frag):R2:=fun x y H Q=>∃ p xs i v,x=.ref p∧y=.int i∧SqL K H p xs∧atI xs i=some v∧Q v H
def ZPp (K:PySem.W.Frag):R2:=fun x y H Q=>∃ p xs i v,x=.ref p∧y=.int i∧SqT K H p xs∧atI xs i=some v∧Q v H
def ZRe:R2:=fun x y H Q=>∃ z i c,x=.str z∧y=.int i∧z.length≤sizeLine∧atI z.cps.toList i=some c∧Q (.str ⟨#[c]⟩) H
theorem ZA3:IxR X (ZRd X.K):=by
  intro value slice pins s σ H x y v u Q I rx ry h hs
  obtain ⟨p,xs,i,z,rfl,rfl,hq,he,q⟩:=h
  cases rx
  obtain ⟨t,rfl⟩:=ry
  obtain ⟨its,r,pl,hz⟩:=I.list hq
  obtain ⟨j,h1,h2,h3,h4,h5⟩:=ZHm he
  obtain ⟨w,ew,rw'⟩:=r.get h2
  have hl:=r.length
  have hn:=ZF1
  have fin:EP X pins σ Q w s:=⟨z,H,I,rw',q⟩
  by_cases h0:0≤i
  · have hj:i.toNat=j:=by
      rw [seqIndex_of h0 h5] at h1
      exact Option.some.inj h1
    exact item_listR pl.isList h0 (by omega) (by rw [hj];simpa using ew) fin hs
  · have hj:(i+(its.toArray.size:Int)).toNat=j:=by
      rw [seqIndex_neg (by omega) h4] at h1
      rw [List.size_toArray,← hl]
      exact Option.some.inj h1
    exact subscriptTail_builtinR (x:=w) pl.isList.typeIs slot_list_getitem.lookup
      (wpAny_getItem_list_neg (Q:=fun r s'=>r=w∧EP X pins σ Q r s') pl.isList (by omega) (by rw [List.size_toArray] <;> omega) (by omega) (by rw [hj];simpa using ew) ⟨rfl,fin⟩) hs
theorem ZAJ:IxR X (ZPp X.K):=by
  intro value slice pins s σ H x y v u Q I rx ry h hs
  obtain ⟨p,xs,i,z,rfl,rfl,hq,he,q⟩:=h
  cases rx
  obtain ⟨t,rfl⟩:=ry
  obtain ⟨its,r,pl,hz⟩:=I.tuple hq
  obtain ⟨j,h1,h2,h3,h4,h5⟩:=ZHm he
  obtain ⟨w,ew,rw'⟩:=r.get h2
  have hl:=r.length
  have hn:=ZF1
  have fin:EP X pins σ Q w s:=⟨z,H,I,rw',q⟩
  exact subscriptTail_builtinR (x:=w) pl.typeIs slot_tuple_getitem.lookup
    (getItem_tuple (j:=j) (Q:=fun r s'=>r=w∧EP X pins σ Q r s') pl (by omega) (by omega) (by rw [List.size_toArray,← hl];exact h1) (by simpa using ew) ⟨rfl,fin⟩) hs
theorem ZMA:IxR X ZRe:=by
  intro value slice pins s σ H x y v u Q I rx ry h hs
  obtain ⟨z,i,c,rfl,rfl,hz,he,q⟩:=h
  obtain ⟨t,rfl⟩:=rx
  obtain ⟨t',rfl⟩:=ry
  obtain ⟨j,h1,h2,h3,h4,h5⟩:=ZHm he
  have hl:z.cps.toList.length=z.length:=by simp [Str.length]
  rw [hl] at h1 h4 h5
  have hn:=ZF1
  exact tail_any (typeIs_str s z t) slot_str_getitem.lookup (getItem_str (c:=c) (by
    have e1:decide (i < -(2 ^ 63:Int))=false:=decide_eq_false (by omega)
    have e2:decide (i≥2 ^ 63)=false:=decide_eq_false (by omega)
    rw [e1,e2,Bool.or_false]) (by rw [h1];simpa using h2) ⟨.str ⟨#[c]⟩,H,I.tok _,⟨_,rfl⟩,q⟩) hs
def rIx (K:PySem.W.Frag):R2:=fun x y H Q=>ZRd K x y H Q∨ZPp K x y H Q∨ZRe x y H Q
theorem ZI1 (its:List Value)(n j:Nat)(u:Value):Obj.mapSeq (·.setIfInBounds j u) { cls:=.type "list",data:=.seq its.toArray n }={ cls:=.type "list",data:=.seq (its.set j u).toArray n }:=by
  simp [Obj.mapSeq]
theorem Inv.lst {pins:List (Addr×Obj)}{σ:St}{H:Hp}{s:Shared}{p:Addr}{xs:List V}(I:Inv X pins σ H s)(h:H p=some (.lst xs)):
    ∃ (its:List Value) (n:Nat),ZBJ xs its∧s.heap.get? p=some { cls:=.type "list",data:=.seq its.toArray n }∧xs.length≤sizeLine:=by
  obtain ⟨z,its,n,r,e⟩:=I.hok p _ h
  exact ⟨its,n,r,e,z⟩
theorem Inv.lstUpd {pins:List (Addr×Obj)}{σ:St}{H:Hp}{s:Shared}{p:Addr}{xs ys:List V}{its its':List Value}{n n':Nat}{f:Obj→Obj}(I:Inv X pins σ H s)(h:H p=some (.lst xs))
    (ho:s.heap.get? p=some { cls:=.type "list",data:=.seq its.toArray n }) (hf:f { cls:=.type "list",data:=.seq its.toArray n }={ cls:=.type "list",data:=.seq its'.toArray n' }) (r:ZBJ ys its') (hz:ys.length≤sizeLine) (t:Nat):
    Inv X pins σ (upd H p (.lst ys)) { s with heap:=s.heap.update p f,toks:=t }:=by
  have e:(s.heap.update p f).get? p=some { cls:=.type "list",data:=.seq its'.toArray n' }:=by
    rw [Heap.get?_update_self f ho (by rw [hf] <;> rfl),hf]
  refine I.write (x:=p) (e:=p) (by rw [h];trivial) (.inl rfl) (fun b u hb q=>(Heap.get?_update_other _ _ (Ne.symm hb)).trans q) ⟨_,e⟩ ?_
  exact ⟨hz,its',n',r,e⟩
def ZPq:V→V→V→Hp→(Hp→Prop)→Prop:=fun o i v H Q=>∃ p xs k j,o=.ref p∧i=.int k∧H p=some (.lst xs)∧ixN xs.length k=some j∧Q (upd H p (.lst (xs.set j v)))
theorem ZGF:ZRW X ZPq:=by
  intro pins s σ H o i v ov iv u Q I ro ri rv h
  obtain ⟨p,xs,k,j,rfl,rfl,hp,hj,q⟩:=h
  cases ro
  obtain ⟨t,rfl⟩:=ri
  obtain ⟨its,n,r,ho,hz⟩:=I.lst hp
  obtain ⟨h1,h2,h3,h4⟩:=ZJo hj
  have hl:=r.length
  have hn:=ZF1
  have I':Inv X pins σ (upd H p (.lst (xs.set j v))) { s with heap:=s.heap.update p (Obj.mapSeq (·.setIfInBounds j u)) }:=
    I.lstUpd hp ho (ZI1 its n j u) (r.set rv j) (by rw [List.length_set];exact hz) s.toks
  by_cases h0:0≤k
  · have hk:k.toNat=j:=by
      rw [seqIndex_of h0 h4] at h1
      exact Option.some.inj h1
    exact PySem.W.ki_setAt ho h0 (by omega) (by rw [List.size_toArray,← hl];exact h4) (by rw [hk];exact ⟨_,I',q⟩)
  · have hk:(k+(its.toArray.size:Int)).toNat=j:=by
      rw [seqIndex_neg (by omega) h3] at h1
      rw [List.size_toArray,← hl]
      exact Option.some.inj h1
    exact PySem.W.ki_setBack ho (by omega) (by rw [List.size_toArray,← hl];exact h3) (by omega) (by rw [hk];exact ⟨_,I',q⟩)
theorem ZG7 (lo hi:Option Int)(n:Nat):(sliceBounds lo hi none n).1=((HT.sIx n 0 lo:Nat):Int)∧(sliceBounds lo hi none n).2.1=((HT.sIx n n hi:Nat):Int)∧(sliceBounds lo hi none n).2.2=1:=by
  refine ⟨?_,?_,rfl⟩
  · cases lo with
    | none=>simp [sliceBounds,HT.sIx]
    | some i=>
      simp only [sliceBounds,HT.sIx,Option.getD_none,show (1:Int)>0 by decide,if_true]
      by_cases h:i<0
      · simp only [h,if_true] <;> omega
      · simp only [h,if_false] <;> omega
  · cases hi with
    | none=>simp [sliceBounds,HT.sIx]
    | some i=>
      simp only [sliceBounds,HT.sIx,Option.getD_none,show (1:Int)>0 by decide,if_true]
      by_cases h:i<0
      · simp only [h,if_true] <;> omega
      · simp only [h,if_false] <;> omega
theorem ZGG (its:List Value)(lo hi:Option Int):slicePick its.toArray lo hi none=((its.drop (HT.sIx its.length 0 lo)).take (HT.sIx its.length its.length hi-HT.sIx its.length 0 lo)).toArray:=by
  obtain ⟨h1,h2,h3⟩:=ZG7 lo hi its.toArray.size
  unfold slicePick
  rw [h1,h2,h3]
  simp only [sliceRange_one,pick_run,List.size_toArray] <;> rfl
def ZRf (K:PySem.W.Frag):V→Option Int→Option Int→Hp→VK→Prop:=fun x lo hi H Q=>∃ a xs,x=.ref a∧SqL K H a xs∧∀ p,H p=none→Q (.ref p) (upd H p (.lst (ZFE xs lo hi)))
theorem ZGH:SlR X (ZRf X.K):=by
  intro pins s σ H x v vl vu lo hi sl Q I rx hs pl pu h
  obtain ⟨a,xs,rfl,hx,q⟩:=h
  cases rx
  obtain ⟨its,r,ht,hz⟩:=I.list hx
  have hlen:=r.length
  refine ⟨"list",_,slot_list_getitem.lookup,ht.isList.typeIs,?_⟩
  refine wpAny_getItem_list_slice ht.isList hs pl pu .none (by simp) ?_ (by rw [List.size_toArray] <;> omega)
  rw [ZGG,← hlen]
  refine ⟨.ref s.heap.objs.size,_,I.laid (t':=s.toks) (o:=.lst (ZFE xs lo hi)) (fun b ob q=>Heap.get?_push_of_some _ q) (Nat.le_refl _) ?_,rfl,q _ (I.hok.fresh (Nat.le_refl _))⟩
  exact ⟨Nat.le_trans (ZDx xs lo hi) hz,_,0,(r.drop (HT.sIx xs.length 0 lo)).take (HT.sIx xs.length xs.length hi-HT.sIx xs.length 0 lo),Heap.get?_push_size _ rfl⟩
def ZCX:V→Bool
  | .non=>true
  | .bl _=>true
  | .int _=>true
  | .str _=>true
  | _=>false
def eqV:V→V→Bool
  | .non,.non=>true
  | .bl a,.bl b=>a==b
  | .bl a,.int b=>(if a then 1 else 0)==b
  | .int a,.bl b=>a==(if b then 1 else 0)
  | .int a,.int b=>a==b
  | .str a,.str b=>a==b
  | _,_=>false
theorem ZJp {A:Around}{s:Shared}{y x:V}{u v:Value}(ry:ZBC y u)(rx:ZBC x v)(fy:ZCX y=true)(fx:ZCX x=true):SeqAt.EqAt A s u v (eqV y x):=by
  cases y with
  | non=>
    cases ry
    cases x with
    | non=>cases rx;exact SeqAt.EqAt.same _
    | bl b=>cases rx;exact SeqAt.EqAt.none_bool b
    | int b=>obtain ⟨t,rfl⟩:=rx;exact SeqAt.EqAt.none_int b t
    | str b=>obtain ⟨t,rfl⟩:=rx;exact SeqAt.EqAt.none_str b t
    | _=>exact absurd (show false=true from fx) Bool.false_ne_true
  | bl a=>
    cases ry
    cases x with
    | non=>cases rx;exact SeqAt.EqAt.bool_none a
    | bl b=>cases rx;exact SeqAt.EqAt.bool_bool a b
    | int b=>obtain ⟨t,rfl⟩:=rx;exact SeqAt.EqAt.bool_int a b t
    | str b=>obtain ⟨t,rfl⟩:=rx;exact SeqAt.EqAt.bool_str a b t
    | _=>exact absurd (show false=true from fx) Bool.false_ne_true
  | int a=>
    obtain ⟨t',rfl⟩:=ry
    cases x with
    | non=>cases rx;exact SeqAt.EqAt.int_none a t'
    | bl b=>cases rx;exact SeqAt.EqAt.int_bool a t' b
    | int b=>obtain ⟨t,rfl⟩:=rx;exact SeqAt.EqAt.int_int a t' b t
    | str b=>obtain ⟨t,rfl⟩:=rx;exact SeqAt.EqAt.int_str a t' b t
    | _=>exact absurd (show false=true from fx) Bool.false_ne_true
  | str a=>
    obtain ⟨t',rfl⟩:=ry
    cases x with
    | non=>cases rx;exact SeqAt.EqAt.str_none a t'
    | bl b=>cases rx;exact SeqAt.EqAt.str_bool a t' b
    | int b=>obtain ⟨t,rfl⟩:=rx;exact SeqAt.EqAt.str_int a t' b t
    | str b=>obtain ⟨t,rfl⟩:=rx;exact SeqAt.EqAt.str_str a t' b t
    | _=>exact absurd (show false=true from fx) Bool.false_ne_true
  | _=>exact absurd (show false=true from fy) Bool.false_ne_true
def eqU (x:V)(u:Value):Bool:=match u with
  | .none=>eqV .non x
  | .bool b=>eqV (.bl b) x
  | .int i _=>eqV (.int i) x
  | .str z _=>eqV (.str z) x
  | _=>false
def inV (x:V)(xs:List V):Bool:=xs.any fun y=>eqV y x
def rIn (K:PySem.W.Frag)(neg:Bool):R2:=fun x y H Q=>∃ p xs,y=.ref p∧(SqL K H p xs∨SqT K H p xs)∧ZCX x=true∧xs.all ZCX=true∧Q (.bl (if neg then !inV x xs else inV x xs)) H
theorem ZAe:ZD9 X (.builtin "len") (fun xs H Q=>∃ p ys,xs=[.ref p]∧(SqL X.K H p ys∨SqT X.K H p ys)∧Q (.int ys.length) H):=by
  intro pins s σ H xs us Q I r h
  obtain ⟨p,ys,rfl,hq,q⟩:=h
  obtain ⟨u,rfl,rx⟩:=ZFk r
  cases rx
  have hn:=ZF1
  rcases hq with hq | hq
  · obtain ⟨its,r',pl,hz⟩:=I.list hq
    have hlen:=r'.length
    exact Calls.call_len_list pl.isList (by simp only [List.size_toArray] <;> omega) ⟨.int ys.length,H,I.tok _,⟨s.toks+1,by rw [List.size_toArray,hlen]⟩,q⟩
  · obtain ⟨its,r',pl,hz⟩:=I.tuple hq
    have hlen:=r'.length
    exact len_tuple pl (by simp only [List.size_toArray] <;> omega) ⟨.int ys.length,H,I.tok _,⟨s.toks+1,by rw [List.size_toArray,hlen]⟩,q⟩
theorem ZEe:ZD9 X (.builtin "len") (fun xs H Q=>∃ z,xs=[.str z]∧z.length≤sizeLine∧Q (.int z.length) H):=by
  intro pins s σ H xs us Q I r h
  obtain ⟨z,rfl,hz,q⟩:=h
  obtain ⟨u,rfl,t,rfl⟩:=ZFk r
  have hn:=ZF1
  exact len_str (by omega) ⟨.int z.length,H,I.tok _,⟨_,rfl⟩,q⟩
theorem ZG8:ZD9 X (.type "list") (fun xs H Q=>∃ p ys,xs=[.ref p]∧(SqL X.K H p ys∨SqT X.K H p ys)∧∀ l,H l=none→Q (.ref l) (upd H l (.lst ys))):=by
  intro pins s σ H xs us Q I r h
  obtain ⟨p,ys,rfl,hq,q⟩:=h
  obtain ⟨u,rfl,rx⟩:=ZFk r
  cases rx
  have fin:∀ (its:List Value),ZBJ ys its→ys.length≤sizeLine→∀ (h':Heap) (c':Nat),(∀ b o',s.heap.get? b=some o'→h'.get? b=some o')→
      h'.get? s.heap.objs.size=some { cls:=.type "list",dict:=none,data:=.seq its.toArray c',slots:=#[] }→EP X pins σ Q (.ref s.heap.objs.size) { s with heap:=h' }:=fun its r' hz h' c' kp e=>
    ⟨.ref s.heap.objs.size,_,I.laid (t':=s.toks) kp (Nat.le_refl _) (show ZBx X.prog X.w _ h' _ (.lst ys) from ⟨hz,its,c',r',e⟩),rfl,q _ (I.hok.fresh (Nat.le_refl _))⟩
  rcases hq with hq | hq
  · obtain ⟨its,r',pl,hz⟩:=I.list hq
    have hlen:=r'.length
    obtain ⟨o,ho,hc,n,hd⟩:=pl.isList
    exact call_list_seq p (.inl rfl) ho hc hd (fun h' c' kp e=>fin its r' hz h' c' kp e) (by simp only [List.size_toArray] <;> omega)
  · obtain ⟨its,r',pl,hz⟩:=I.tuple hq
    have hlen:=r'.length
    obtain ⟨o,ho,hc,n,hd⟩:=pl
    exact call_list_seq p (.inr rfl) ho hc hd (fun h' c' kp e=>fin its r' hz h' c' kp e) (by simp only [List.size_toArray] <;> omega)
theorem ZEC:ZD9 X (.type "tuple") (fun xs H Q=>∃ p ys,xs=[.ref p]∧((SqL X.K H p ys∧∀ l,H l=none→Q (.ref l) (upd H l (.tup ys)))∨(SqT X.K H p ys∧Q (.ref p) H))):=by
  intro pins s σ H xs us Q I r h
  obtain ⟨p,ys,rfl,h⟩:=h
  obtain ⟨u,rfl,rx⟩:=ZFk r
  cases rx
  rcases h with ⟨hq,q⟩ | ⟨hq,q⟩
  · obtain ⟨its,r',pl,hz⟩:=I.list hq
    have hlen:=r'.length
    refine call_tuple_list pl.isList (fun h' kp=>?_) (by simp only [List.size_toArray] <;> omega)
    have I1:Inv X pins σ H { s with heap:=h' }:=I.kept (t':=s.toks) kp
    have I2:Inv X pins σ (upd H h'.objs.size (.tup ys)) { s with heap:=h'.push { cls:=.type "tuple",data:=.seq its.toArray } }:=
      I1.laid (t':=s.toks) (fun b o e=>Heap.get?_push_of_some _ e) (Nat.le_refl _) (show ZBx X.prog X.w _ _ _ (.tup ys) from ⟨hz,its,r',IsTup.new _ _⟩)
    exact ⟨.ref h'.objs.size,_,I2,rfl,q _ (I1.hok.fresh (Nat.le_refl _))⟩
  · obtain ⟨its,r',pl,hz⟩:=I.tuple hq
    exact call_tuple_same pl ⟨.ref p,H,I,rfl,q⟩
def tyV (K:PySem.W.Frag)(T:String)(x:V)(H:Hp):Prop:=match x with
  | .str _=>T="str"
  | .int _=>T="int"
  | .ref p=>(T="list"∧∃ xs,SqL K H p xs)∨(T="tuple"∧∃ o,K.lookup p=some o∧o.cls=.type "tuple"∧o.dict=none)∨
      (T="dict"∧((∃ kvs,H p=some (.dK kvs))∨∃ kvs,H p=some (.dT kvs)))∨(T="set"∧∃ S n,H p=some (.set S n))
  | _=>False
theorem ZMB {pins:List (Addr×Obj)}{σ:St}{H:Hp}{s:Shared}{T:String}{x:V}{v:Value}(I:Inv X pins σ H s)(r:ZBC x v)(ty:tyV X.K T x H):
    s.TypeIs v T∧∀ a,v=.ref a→∃ ob,s.heap.get? a=some ob∧ob.dict=none:=by
  cases x with
  | str z=>
    obtain ⟨t,rfl⟩:=r
    cases (show T="str" from ty)
    exact ⟨typeIs_str s z t,fun _ e=>nomatch e⟩
  | int i=>
    obtain ⟨t,rfl⟩:=r
    cases (show T="int" from ty)
    exact ⟨typeIs_int s i t,fun _ e=>nomatch e⟩
  | ref p=>
    cases r
    rcases ty with ⟨rfl,xs,hq⟩ | ⟨rfl,o,hk,hc,hd⟩ | ⟨rfl,hk⟩ | ⟨rfl,S,n,hk⟩
    · obtain ⟨its,_,pl,_⟩:=I.list hq
      refine ⟨pl.isList.typeIs,fun a e=>?_⟩
      cases e
      obtain ⟨o,n,e,c,hd,_⟩:=pl
      exact ⟨o,e,hd⟩
    · refine ⟨⟨o,I.kIn p o hk,hc⟩,fun a e=>?_⟩
      cases e
      exact ⟨o,I.kIn _ o hk,hd⟩
    · have z:∃ o,s.heap.get? p=some o∧o.ExactDict:=by
        rcases hk with ⟨kvs,hk⟩ | ⟨kvs,hk⟩
        · obtain ⟨_,_,_,_,o,_,_,e,ex,_⟩:=I.hok p _ hk
          exact ⟨o,e,ex⟩
        · obtain ⟨_,_,_,_,o,_,_,e,ex,_⟩:=I.hok p _ hk
          exact ⟨o,e,ex⟩
      obtain ⟨o,e,ex⟩:=z
      refine ⟨⟨o,e,ex.1⟩,fun a e2=>?_⟩
      cases e2
      exact ⟨o,e,ex.2.1⟩
    · obtain ⟨o,_,_,_,e,ex,_⟩:=I.hok p _ hk
      refine ⟨⟨o,e,ex.1⟩,fun a e2=>?_⟩
      cases e2
      exact ⟨o,e,ex.2.1⟩
  | _=>exact False.elim ty
def tBM0 (K:PySem.W.Frag)(T:String)(r:V→List V→Hp→VK→Prop)(to:TE):TE:=fun σ H Q=>to σ H fun x H1=>tyV K T x H1∧r x [] H1 Q
def tBM (K:PySem.W.Frag)(T:String)(r:V→List V→Hp→VK→Prop)(to:TE)(t:TA):TE:=fun σ H Q=>to σ H fun x H1=>tyV K T x H1∧t σ H1 fun xs H2=>r x xs H2 Q
variable {o e:Expr}{es:List Expr}{to:TE}{t:TA}{name:Str}{apos cpos:Pos}{T id:String}{r:V→List V→Hp→VK→Prop}
theorem ZOA (pa:PlainAttrs T)(slot:Slot T name id)(hty:typeOf (.builtin id)=pure (.type "method_descriptor"))(hm:MtR X id r)(ho:PE X o to)
    (hbase:attributeBase o name X.env (eval o X.env)=eval o X.env:=by rfl) (hline:(apos.endLine==cpos.line)=true:=by rfl):PE X (.Call (.Attribute o name apos) [] [] cpos) (tBM0 X.K T r to):=by
  intro pins s σ H Q I h
  refine wpAny_Call_method0_late hbase hline (thn (ho pins s σ H _ I h) fun v s1 zq=>?_)
  obtain ⟨x,H1,I1,r1,ty,q1⟩:=zq
  obtain ⟨h1,h2⟩:=ZMB I1 r1 ty
  exact ⟨T,id,pa,slot,hty,h1,h2,Calls.callWith_builtin rfl (PySem.evalArgs_none (hm pins s1 σ H1 x [] v [] Q I1 r1 .nil q1))⟩
theorem ZEn (pa:PlainAttrs T)(slot:Slot T name id)(hty:typeOf (.builtin id)=pure (.type "method_descriptor"))(hm:MtR X id r)(ho:PE X o to)(ha:PA X (e::es) t)
    (hbase:attributeBase o name X.env (eval o X.env)=eval o X.env:=by rfl)
    (hfew:((backTo cpos (starEach (e::es) X.env)).all (fun x=>!x.1)&&(backToKw cpos (keywordEach [] X.env)).all (fun x=>x.1.isSome)
      && decide ((e::es).length+([]:List Keyword).length+(if ([]:List Keyword).isEmpty then 0 else 1)<30))=true:=by rfl)
    (hline:(apos.endLine==cpos.line)=true:=by rfl) (hs:starEach (e::es) X.env=(false,eval e X.env)::starEach es X.env:=by rfl) (hplain:(backTo cpos (starEach es X.env)).any (·.1)=false:=by rfl):
    PE X (.Call (.Attribute o name apos) (e::es) [] cpos) (tBM X.K T r to t):=by
  intro pins s σ H Q I h
  refine wpAny_Call_method_late hbase hfew hline rfl (thn (ho pins s σ H _ I h) fun v s1 zq=>?_)
  obtain ⟨x,H1,I1,r1,ty,q1⟩:=zq
  obtain ⟨h1,h2⟩:=ZMB I1 r1 ty
  refine ⟨T,id,pa,slot,hty,h1,h2,?_⟩
  have hA:=ha cpos pins s1 σ H1 _ I1 q1
  rw [hs] at hA ⊢
  refine Calls.callWith_builtin (by show (false||(backTo cpos (starEach es X.env)).any (·.1))=false;rw [hplain] <;> rfl) (Calls.evalArgs_plain ?_)
  exact thn hA fun us s2 ⟨vs,H2,I2,r2,q2⟩=>hm pins s2 σ H2 x vs v us Q I2 r1 r2 q2
/- xs.append(e),list.index on a module's tuple .. are MtR facts of 06m -/
end
end L2
namespace L2
open PySem PySem.Spec PyProof.Rows
def MtM (X:Cx)(id:String)(r:V→List V→Hp→VK→Prop):Prop:=
  ∀ (pins:List (Addr×Obj)) (s:Shared) (σ:St) (H:Hp) (x:V) (xs:List V) (v:Value) (us:List Value) (Q:VK),Inv X pins σ H s→ZBC x v→ZBJ xs us→r x xs H Q→
    wpAny (model X.prog X.w) X.A (call (.builtin id) (v::us)) (EP X pins σ Q) X.xe s
theorem ZBJ.one {x:V}{us:List Value}(h:ZBJ [x] us):∃ u,us=[u]∧ZBC x u:=by
  cases h with
  | cons r t=>
    cases t
    exact ⟨_,rfl,r⟩
theorem ZBJ.two {x y:V}{us:List Value}(h:ZBJ [x,y] us):∃ u v,us=[u,v]∧ZBC x u∧ZBC y v:=by
  cases h with
  | cons r t=>
    cases t with
    | cons q t=>
      cases t
      exact ⟨_,_,rfl,r,q⟩
theorem ZBJ.zero:∀ {us:List Value},ZBJ [] us→us=[]
  | _,.nil=>rfl
theorem ZBJ.dropLast {xs:List V}{us:List Value}(h:ZBJ xs us):ZBJ xs.dropLast us.dropLast:=by
  induction h with
  | nil=>exact .nil
  | cons r t ih=>
    cases t with
    | nil=>exact .nil
    | cons q t'=>exact .cons r ih
theorem ZI2 {α:Type}(l:List α):l.eraseIdx (l.length-1)=l.dropLast:=by
  induction l with
  | nil=>rfl
  | cons a r ih=>
    cases r with
    | nil=>rfl
    | cons b r=>
      have e:(a::b::r).length-1=((b::r).length-1)+1:=by
        have h1:(a::b::r).length=r.length+2:=rfl
        have h2:(b::r).length=r.length+1:=rfl
        omega
      rw [e,List.eraseIdx_cons_succ,ih]
      all_goals rfl
section
variable {X:Cx}{pins:List (Addr×Obj)}{σ:St}{H:Hp}{s:Shared}{l b:Addr}{xs ys zs:List V}
theorem Inv.lset {its its':List Value}{n:Nat}{f:Array Value→Array Value}{t':Nat}(I:Inv X pins σ H s)(hH:H l=some (.lst xs))
    (e:s.heap.get? l=some { cls:=.type "list",data:=.seq its.toArray n }) (hf:f its.toArray=its'.toArray) (hv:ZBJ ys its') (hz:ys.length≤sizeLine):
    Inv X pins σ (upd H l (.lst ys)) { s with heap:=s.heap.update l (Obj.mapSeq f),toks:=t' }:=by
  have q:=PySem.IsL.update e f
  rw [hf] at q
  refine I.write (x:=l) (e:=l) (by rw [hH];exact trivial) (.inl rfl) (fun b' u hb hu=>(Heap.get?_update_other s.heap (Obj.mapSeq f) (Ne.symm hb)).trans hu) ⟨_,q⟩ ?_
  exact ⟨hz,its',_,hv,q⟩
theorem Inv.lnew {its:List Value}{t':Nat}(I:Inv X pins σ H s)(hv:ZBJ ys its)(hz:ys.length≤sizeLine):
    Inv X pins σ (upd H s.heap.objs.size (.lst ys)) { s with heap:=s.heap.push { cls:=.type "list",data:=.seq its.toArray },toks:=t' }:=
  I.laid (fun _ _ q=>Heap.get?_push_of_some _ q) (Nat.le_refl _) ⟨hz,its,0,hv,Heap.get?_push_size _ rfl⟩
theorem Inv.fresh (I:Inv X pins σ H s):H s.heap.objs.size=none:=I.hok.fresh (Nat.le_refl _)
theorem Inv.lstM (I:Inv X pins σ H s)(hH:H l=some (.lst xs)):xs.length≤sizeLine∧∃ (its:List Value) (n:Nat),ZBJ xs its∧xs.length=its.length∧s.heap.get? l=some { cls:=.type "list",data:=.seq its.toArray n }:=by
  obtain ⟨z,its,n,r,e⟩:=I.hok l _ hH
  exact ⟨z,its,n,r,r.length,e⟩
theorem ZIO {n:Nat}(h:n≤sizeLine):Builtin.List.listTooLong n=false:=by
  unfold Builtin.List.listTooLong
  exact decide_eq_false (by omega)
end
section
variable {X:Cx}
def ZMu:V→List V→Hp→VK→Prop:=fun x vs H Q=>∃ l xs y,x=.ref l∧vs=[y]∧H l=some (.lst xs)∧xs.length<sizeLine∧Q .non (upd H l (.lst (xs++[y])))
theorem ZBK:MtM X "list.append" ZMu:=by
  intro pins s σ H x vs v us Q I rx rv h
  obtain ⟨l,xs,y,rfl,rfl,hH,hz,q⟩:=h
  cases rx
  obtain ⟨u,rfl,ru⟩:=rv.one
  obtain ⟨z,its,n,r,hl,e⟩:=I.lstM hH
  refine call_meets F.slot_list_append ⟨_,e,rfl⟩ F.entry_list_append (F.args_list_append_2 _ _) (PySem.list_append l its.toArray n u (by rw [List.size_toArray];omega)) ⟨e,?_⟩
  refine ⟨.non,_,I.lset (its':=its++[u]) hH e (by simp) (r.append (.cons ru .nil)) ?_,rfl,q⟩
  rw [List.length_append,List.length_singleton]
  omega
def ZMv:V→List V→Hp→VK→Prop:=fun x vs H Q=>∃ l b xs zs,x=.ref l∧vs=[.ref b]∧H l=some (.lst xs)∧H b=some (.lst zs)∧xs.length+zs.length≤sizeLine∧Q .non (upd H l (.lst (xs++zs)))
theorem ZJq:MtM X "list.extend" ZMv:=by
  intro pins s σ H x vs v us Q I rx rv h
  obtain ⟨l,b,xs,zs,rfl,rfl,hH,hB,hz,q⟩:=h
  cases rx
  obtain ⟨u,rfl,ru⟩:=rv.one
  cases ru
  obtain ⟨z,its,n,r,hl,e⟩:=I.lstM hH
  obtain ⟨z2,its2,n2,r2,hl2,e2⟩:=I.lstM hB
  have hsz:its.toArray.size+its2.toArray.size≤sizeLine:=by rw [List.size_toArray,List.size_toArray];omega
  have hlong:¬ (!its.toArray.isEmpty&&Builtin.List.listTooLong (its.toArray.size+its2.toArray.size))=true:=by
    rw [ZIO hsz,Bool.and_false]
    exact Bool.false_ne_true
  refine call_meets F.slot_list_extend ⟨_,e,rfl⟩ F.entry_list_extend (F.args_list_extend_2 _ _)
    (AutoSeq1.list_extend_list_list_0 l its.toArray n b its2.toArray n2 hlong (by rw [List.size_toArray];omega) (by omega)) ⟨e,e2,?_⟩
  refine ⟨.non,_,I.lset (its':=its++its2) hH e (by simp) (r.append r2) ?_,rfl,q⟩
  rw [List.length_append]
  omega
def rPop:V→List V→Hp→VK→Prop:=fun x vs H Q=>∃ l xs y,x=.ref l∧vs=[]∧H l=some (.lst xs)∧xs[xs.length-1]?=some y∧Q y (upd H l (.lst xs.dropLast))
theorem ZOB:MtM X "list.pop" rPop:=by
  intro pins s σ H x vs v us Q I rx rv h
  obtain ⟨l,xs,y,rfl,rfl,hH,hy,q⟩:=h
  cases rx
  have hus:=rv.zero
  subst hus
  obtain ⟨z,its,n,r,hl,e⟩:=I.lstM hH
  obtain ⟨u,hu,ru⟩:=r.get hy
  have hy':its.toArray[its.toArray.size-1]?=some u:=by
    show its.toArray[its.length-1]?=some u
    rw [← Array.getElem?_toList,← hl]
    exact hu
  refine call_meets F.slot_list_pop ⟨_,e,rfl⟩ F.entry_list_pop (F.args_list_pop_1 _) (MeetsSeq.list_pop_last l its.toArray n u hy' (by rw [List.size_toArray];omega)) ⟨e,?_⟩
  refine ⟨y,_,I.lset (its':=its.dropLast) hH e ?_ r.dropLast ?_,ru,q⟩
  · show its.toArray.eraseIdxIfInBounds (its.toArray.size-1)=its.dropLast.toArray
    rw [List.size_toArray,List.eraseIdxIfInBounds_toArray,ZI2]
  · rw [List.length_dropLast]
    omega
def ZRg:V→List V→Hp→VK→Prop:=fun x vs H Q=>∃ l xs i k y,x=.ref l∧vs=[.int i]∧H l=some (.lst xs)∧-(2 ^ 63)≤i∧i<2 ^ 63∧seqIndex? i xs.length=some k∧xs[k]?=some y∧Q y (upd H l (.lst (xs.eraseIdx k)))
def ZPP:V→List V→Hp→VK→Prop:=fun x vs H Q=>∃ l xs,x=.ref l∧vs=[]∧H l=some (.lst xs)∧Q .non (upd H l (.lst xs.reverse))
def ZRh:V→List V→Hp→VK→Prop:=fun x vs H Q=>∃ l xs,x=.ref l∧vs=[]∧H l=some (.lst xs)∧Q .non (upd H l (.lst []))
def rCat:R2:=fun x y H Q=>∃ l b xs zs,x=.ref l∧y=.ref b∧H l=some (.lst xs)∧H b=some (.lst zs)∧xs.length+zs.length≤sizeLine∧∀ p,H p=none→Q (.ref p) (upd H p (.lst (xs++zs)))
theorem ZOC:OpR X (binaryOp .Add) rCat:=by
  intro pins s σ H x y v u Q I rx ry h
  obtain ⟨l,b,xs,zs,rfl,rfl,hH,hB,hz,q⟩:=h
  cases rx
  cases ry
  obtain ⟨z,its,n,r,hl,e⟩:=I.lstM hH
  obtain ⟨z2,its2,n2,r2,hl2,e2⟩:=I.lstM hB
  refine PySem.P.add_list e e2 ?_ (by rw [List.size_toArray,List.size_toArray];omega)
  have ea:its.toArray++its2.toArray=(its++its2).toArray:=by simp
  rw [ea]
  exact ⟨.ref _,_,I.lnew (t':=s.toks) (r.append r2) (by rw [List.length_append];omega),rfl,q _ I.fresh⟩
def rRep:R2:=fun x y H Q=>∃ l k xs,x=.ref l∧y=.int k∧H l=some (.lst xs)∧-(2 ^ 63)≤k∧k<2 ^ 63∧xs.length*k.toNat≤sizeLine∧
  ∀ p,H p=none→Q (.ref p) (upd H p (.lst (List.replicate k.toNat xs).flatten))
end
section
variable {prog:Program}{w:World}{A:Around}{E:Value→Shared→Prop}{s:Shared}
end
section
variable {X:Cx}
end
end L2
namespace Att
open PySem PySem.W PySem.Calls PyProof.Rows
theorem ZFF {P:Params}{h:Heap}:∀ (ns:List Int) (vs:List Value),WellAll P h vs (ns.map WData.int)→IntsAre vs ns:=by
  intro ns
  induction ns with
  | nil=>
    intro vs w
    rw [List.map_nil] at w
    cases w
    exact .nil
  | cons n ns ih=>
    intro vs w
    rw [List.map_cons] at w
    cases w with
    | cons a b=>
      cases a
      exact .cons _ _ (ih _ b)
theorem ZJr {l:OpenLaw}{n:Nat}(hn:l.most=some n){P:Params}{h:Heap}{args:List WData}{vals:List Value}
    (hpre:l.row.toRowW.claim.pre args=true) (hwl:WellAll P h vals args):
    ∃ a vs ns,vals=[Value.ref a]∧args=[WData.list (ns.map WData.int)]∧h.get? a=some { cls:=.type "list",data:=.seq vs.toArray }∧IntsAre vs ns∧ns.length≤n:=by
  have hsh:WShape.hasAll [] args [.list .int]=true:=(pre_splitW hpre).1
  have hc:l.pre.holds [] { args:=args }=true:=(pre_splitW hpre).2
  obtain ⟨d,r,rfl,h1,h2⟩:=hasAllW_cons hsh
  obtain rfl:=hasAllW_nil h2
  obtain ⟨xs,rfl,h3⟩:=hasW_list h1
  obtain ⟨ns,rfl⟩:=items_int h3
  have hlen:ns.length≤n:=by
    unfold OpenLaw.pre at hc
    have h4:(WTm.not (.lt (.lit (.int (n:Int))) (.len (.arg 0)))).holds [] { args:=[.list (ns.map .int)] }=true:=by
      have h4:=(holds_andW hc).1
      rw [hn] at h4
      exact h4
    have h5:=condW_of h4 (w_not (w_lt w_lit (w_len_list (w_arg rfl))))
    rw [List.length_map] at h5
    refine Nat.le_of_not_lt fun q=>?_
    have q':(n:Int)<((ns.length:Nat):Int):=by omega
    first
      | (rw [decide_eq_true q'] at h5;exact absurd h5 (by decide))
      | (simp at h5;omega)
  cases hwl with
  | cons w1 w2=>
    cases w2
    cases w1 with
    | list ho hall=>exact ⟨_,_,ns,rfl,rfl,ho,ZFF ns _ hall,hlen⟩
theorem ZJs (l:OpenLaw)(args:List WData):l.row.toRowW.claim.post args (.bool true) args=true:=
  postW_of (r:=l.row.toRowW) (X:=(true==true))
    (show WShape.has [] (.bool true) .bool=true by first | rfl | decide | simp [WShape.has,WShape.arms,WShape.armsAll])
    (show (WTm.eq .res (.lit (.bool true))).value [] { args:=args,res:=some (.bool true),after:=args }=some (.bool (true==true)) from w_eq_bool (w_res rfl) w_lit) rfl
theorem ZHn {l:OpenLaw}{n:Nat}{q:Program}{loose:List Str}{XP:(Str→Option Value)→Heap→Prop}{YP:World→Heap→Prop}{d:DefRec}
    (hn:l.most=some n) (hdf:d.params.defaults=[])
    (call:∀ (w:World) (s₀ s₁:Shared) (mg mb:Str→Option Value) (fa:Addr) (o:Obj) (pm cd doc:Value) (a:Addr) (vs:List Value) (ns:List Int),
      Ground q loose [] XP w s₀ mg mb s₁.heap→YP w s₁.heap→
      s₁.heap.get? fa=some o→o.data=.func (docDef d.name d.params d.body d.scope pm cd doc)→s₁.heap.CodeRec cd d.name→mg d.name=some (.ref fa)→
      s₁.heap.get? a=some { cls:=.type "list",data:=.seq vs.toArray }→IntsAre vs ns→ns.length≤n→s₁.gens=#[]→
      codeAny (model l.prog w) callerA (.call (.ref fa) ⟨[.ref a],[]⟩) (fun r s'=>r=.ok (.ret (.bool true))∧OldK s₁.heap s'.heap∧s'.os=s₁.os∧AllBare s'.gens) s₁):
    WalkO q loose XP YP l.row.toRowW d [] (fun f vs=>PySem.call f vs):=by
  intro w s₀ s₁ mg mb G Y fa o pm cd doc dV kV ho hd hcd hD hmg hg args vals as hpre hlay hrd hwl hlo
  obtain rfl:dV=.none:=Dflts.none hD hdf
  obtain rfl:kV=.none:=Dflts.noKw hD
  obtain ⟨a,vs,ns,rfl,rfl,hobj,hints,hlen⟩:=ZJr hn hpre hwl
  refine enter_call (codeAny_mono (call w s₀ s₁ mg mb fa o pm cd doc a vs ns G Y ho (fd_plain hd) hcd hmg hobj hints hlen hg) fun r s' hq=>?_)
  obtain ⟨rfl,h2,h3,h4⟩:=hq
  exact ⟨.inl ⟨.bool true,.bool true,[],rfl,fun _=>rfl,.bool true,ZJs l _,fun _=>⟨List.Pairwise.nil,fun _ hm=>(nomatch hm)⟩⟩,h2,h3,h4⟩
section
variable {prog:Program}{w:World}{A:Around}{E:Value→Shared→Prop}{s:Shared}{K:Frag}
def ZRi (h:Heap):Heap:={ h with objs:=#[] }
def ZRj (h:Heap)(L d:Addr):List (Addr×Obj):=(List.range h.objs.size).filterMap fun a=>if a=L∨a=d then none else (h.get? a).map fun o=>(a,o)
end
end Att
namespace L2
open PySem PySem.Spec PyProof.Rows
theorem ZG9:∀ {vs:List Value} {ns:List Int},IntsAre vs ns→ZBJ (ns.map V.int) vs
  | _,_,.nil=>.nil
  | _,_,.cons n t h=>.cons ⟨t,rfl⟩ (ZG9 h)
def Only (H:Hp):Prop:=∀ b,H b=none∨∃ o xs,H b=some (.frz o (.lst xs))
end L2
namespace L2
open PySem PySem.Spec PyProof.Rows
abbrev KOf {K:PySem.W.Frag}{h:Heap}(_:K.In h):PySem.W.Frag:=K
end L2
/- THE LAST THEOREM (shape;LID,My.* are yours):
   My.Adr: a structure of the addresses that your layer names (classes,functions);My.Txt K t: a structure (Prop) of the equations over K;
   My.txt_mk:{K} {implicit addresses ..} (e1:nsIn K mainGlobals "law"=some (some (.ref f))) (e2:K.lookup f=some ⟨oc,od,.func (fnOf "law" "law" params body scope dV kV doc pm an cdv ct),sl⟩) (e3:codeIn K cdv "law"=true) ..:∃ t,My.Txt K t
set_option maxRecDepth 100000 in
set_option maxHeartbeats 0 in
theorem PySem.Challenge.cw_LID_holds : PySem.Challenge.rw_LID.Holds := by
  w_on;o_law;k_head;(case hw=>w_witness2)
  k_fill
  refine L2.walk_of (l:=PySem.Challenge.rw_LID) (n:=63) (k:=40) (x:="script") (CX:=fun w=>..) (sp:=fun _=>My.sp_law) rfl (by decide) rfl ⟨rfl,by decide,by decide⟩ (fun w h Y=>PySem.W.kIn_of Y) ?F ?S ?C
  case F=>
    intro w mg fa h KX G hmg
    have T:∃ t,My.Txt (L2.KOf KX) t:=by
      dsimp only [L2.KOf]                          -- K must stand as «<heap const> w.params» for k_is
      refine' My.txt_mk ?e1 ?e2 ?e3 ..
      (case e1=>PySem.W.k_is)                    -- in the order: a name -> its address -> its object -> its parts
      (case e2=>PySem.W.k_is)
      ..
    obtain ⟨t,T⟩:=T
    have e0:=hmg.symm.trans (PySem.W.mg_of KX G T.law)
    cases e0                                       -- fa is the law's own address
    exact ⟨_,fun s u=>.of_eq rfl,fun base kb nb=>My.law_fn T kb nb⟩     -- if «.of_eq rfl» comes too early: refine' ⟨_,?b,fun base kb nb=>My.law_fn T kb nb⟩;exact fun s u=>.of_eq rfl
  case S=>exact fun w H a ns hl hO hS=>..
  case C=>exact ..
(the tactic k_is has no namespace: write k_is) -/
namespace L2
open PySem PySem.Spec PyProof.Rows
def ZPr (s:Stmt)(j:Nat):Stmt:=match s with
  | .ClassDef _ _ _ body _ _ _ _ _ _ _=>body.getD j (.Pass ⟨0,0,0,0⟩)
  | _=>.Pass ⟨0,0,0,0⟩
def ZAT (s:Stmt):Arguments:=match s with
  | .FunctionDef _ a _ _ _ _ _ _ _ _=>a
  | _=>{ posonlyargs:=[],args:=[],vararg:=none,kwonlyargs:=[],kw_defaults:=[],kwarg:=none,defaults:=[] }
def ZAQ (s:Stmt):List Stmt:=match s with
  | .FunctionDef _ _ b _ _ _ _ _ _ _=>b
  | _=>[]
def ZAF (s:Stmt):Scope:=match s with
  | .FunctionDef _ _ _ _ _ _ sc _ _ _=>sc
  | _=>{ kind:=.function,names:=[],isGenerator:=false,isCoroutine:=false }
abbrev CX0:CXT:=fun _ _ _ _ _ _=>False
abbrev E0:XK:=fun _ _ _=>False
theorem ZPs {X:Cx}:ZJl CX0 X E0:=fun _ _ _ _ _ _ _ h=>h.elim
structure Fun (K:PySem.W.Frag)(x qual:Str)(st:Stmt)(f:Addr)(fd:FuncData):Prop where
  ex:∃ (oc:Value) (od:Option Addr) (kV doc pm:Value) (an:Option Addr) (cdv ct:Value) (osl:Array (Option Value)),
    fd=PySem.W.fnOf x qual (ZAT st) (ZAQ st) (ZAF st) .none kV doc pm an cdv ct∧K.lookup f=some ⟨oc,od,.func fd,osl⟩∧PySem.W.codeIn K cdv qual=true
  kp:PySem.W.keepIn K (.ref f)=true
section
variable {P:Program}{w:World}{K:PySem.W.Frag}{mg:Str→Option Value}{base:Heap}
theorem Fun.ok {x qual:Str}{st:Stmt}{f:Addr}{fd:FuncData}{N ps:List Str}{k:Nat}{sp:Sp}(F:Fun K x qual st f fd)(S:ZAS N ps (ZAF st))(len:∀ vs H Q E,sp vs H Q E→vs.length=ps.length)
    (hbody:∀ (cdv:Value) (A:Around) (outer:List Env) (s:Shared) (H:Hp) (vs:List V) (Q:VK) (E:XK),ZES k (A.deeper (envOfC qual (ZAF st) s.heap.objs.size f cdv))→sp vs H Q E→
      ∃ t,PSs (ZMr CX0 P w K mg base N qual (ZAF st) f cdv A outer s H E).nox (ZAQ st) t∧t { nx:=fun _ H'=>Q .non H',rt:=Q } (ZGD N vs) H):ZBS P w K mg base CX0 (k+1) f fd ps sp:=by
  obtain ⟨oc,od,kV,doc,pm,an,cdv,ct,osl,rfl,lk,hcd⟩:=F.ex
  refine ZN6 lk hcd S len fun A outer s H vs Q E hr hsp=>?_
  obtain ⟨t,h,q⟩:=hbody cdv A outer s H vs Q E hr hsp
  exact ⟨t,h.nox,q⟩
theorem Fun.binds {x qual:Str}{st:Stmt}{f:Addr}{fd:FuncData}{ps:List Str}(F:Fun K x qual st f fd)
    (h:∀ (kV doc pm:Value) (an:Option Addr) (cdv ct:Value) (us:List Value),us.length=ps.length→bindArgs (PySem.W.fnOf x qual (ZAT st) (ZAQ st) (ZAF st) .none kV doc pm an cdv ct) ⟨us,[]⟩=pure (ps.zip us)):ZHl K fd ps []:=by
  obtain ⟨oc,od,kV,doc,pm,an,cdv,ct,osl,rfl,lk,hcd⟩:=F.ex
  exact .all (h kV doc pm an cdv ct)
theorem ZAf {x qual:Str}{st:Stmt}{f:Addr}{oc:Value}{od an:Option Addr}{osl:Array (Option Value)}{kV doc pm cdv ct:Value}(l:K.lookup f=some ⟨oc,od,.func (PySem.W.fnOf x qual (ZAT st) (ZAQ st) (ZAF st) .none kV doc pm an cdv ct),osl⟩)
    (c:PySem.W.codeIn K cdv qual=true) (k:PySem.W.keepIn K (.ref f)=true):Fun K x qual st f (PySem.W.fnOf x qual (ZAT st) (ZAQ st) (ZAF st) .none kV doc pm an cdv ct):=⟨⟨oc,od,kV,doc,pm,an,cdv,ct,osl,rfl,l,c⟩,k⟩
end
theorem ZHA {A:Around}{k:Nat}(hr:ZES k A):A.units+1<cLine:=Nat.lt_of_le_of_lt (Nat.add_le_add_left (by decide:1≤64) _) hr.units
theorem ZHB {n:Nat}(h:n≤1000):n<sizeLine:=Nat.lt_of_le_of_lt h (by decide)
section
variable {X:Cx}
theorem pv (i:Nat){x:Str}{pos:Pos}(hN:X.N[i]?=some x:=by rfl)(hv:Vis X.env.scope x:=by first | exact Or.inl rfl | exact Or.inr (Or.inl rfl) | exact Or.inr (Or.inr rfl))(hd:(x==("__debug__":Str))=false:=by decide)
    (hcd:(x==("__classdict__":Str))=false:=by decide):PE X (.Name x pos) (ZPW i):=ZNz hN hv hd hcd
end
theorem ZAo {A B:Prop}(h:B):if false=true then A else B:=by
  rw [if_neg Bool.false_ne_true]
  exact h
theorem ZBR {A B:Prop}(h:A):if true=true then A else B:=by
  rw [if_pos rfl]
  exact h
theorem ZDJ {c A B:Prop}[Decidable c](h1:c→A)(h2:¬ c→B):if c then A else B:=by
  by_cases h:c
  · rw [if_pos h]
    exact h1 h
  · rw [if_neg h]
    exact h2 h
def ZAM (H H':Hp):Prop:=∀ b o,H b=some o→H' b=some o
theorem ZAM.refl (H:Hp):ZAM H H:=fun _ _ h=>h
theorem ZAM.trans {H H1 H2:Hp}(a:ZAM H H1)(b:ZAM H1 H2):ZAM H H2:=fun c o h=>b c o (a c o h)
theorem ZAM.seq {K:PySem.W.Frag}{H H':Hp}{a:Addr}{xs:List V}(e:ZAM H H')(h:SqL K H a xs):SqL K H' a xs:=by
  rcases h with (h | ⟨o,h⟩) | h
  · exact .inl (.inl (e _ _ h))
  · exact .inl (.inr ⟨o,e _ _ h⟩)
  · exact .inr h
end L2
namespace L2
open PySem PySem.Spec PyProof.Rows
def Sz (n:Nat)(x:Int):Prop:=x.natAbs<2 ^ n
theorem Sz.mono {m n:Nat}{x:Int}(h:Sz m x)(hn:m≤n):Sz n x:=Nat.lt_of_lt_of_le h (Nat.pow_le_pow_right (by decide) hn)
theorem Sz.mul {m n:Nat}{x y:Int}(h:Sz m x)(g:Sz n y):Sz (m+n) (x*y):=by
  unfold Sz at *
  rw [Int.natAbs_mul,Nat.pow_add]
  exact Nat.mul_lt_mul_of_lt_of_lt h g
theorem Sz.add {n:Nat}{x y:Int}(h:Sz n x)(g:Sz n y):Sz (n+1) (x+y):=by
  unfold Sz at *
  rw [Nat.pow_succ]
  omega
theorem Sz.sub {n:Nat}{x y:Int}(h:Sz n x)(g:Sz n y):Sz (n+1) (x-y):=by
  unfold Sz at *
  rw [Nat.pow_succ]
  omega
theorem Sz.neg {n:Nat}{x:Int}(h:Sz n x):Sz n (-x):=by
  unfold Sz at *
  omega
theorem Sz.of_le {n:Nat}{x y:Int}(h:Sz n y)(g:x.natAbs≤y.natAbs):Sz n x:=Nat.lt_of_le_of_lt g h
section
variable {X:Cx}
def ZMw (i j:Int):Prop:=Sz 4000 i∧Sz 4000 j
theorem ZMw.ok {i j:Int}(h:ZMw i j):IntMulOk i j:=IntMulOk.of_le (m:=4000) (n:=4000) (intBits_le_iff.mpr h.1) (intBits_le_iff.mpr h.2) (by decide)
theorem ZAq:OpR X (binaryOp .Mult) (rI ZMw fun i j=>.int (i*j)):=opI fun _ _ _ _ _ _ _ hc q=>mul_int q hc.ok
def ZMx (_ j:Int):Prop:=j≠0∧Sz 4000 j
theorem ZMx.ok {i j:Int}(h:ZMx i j):Builtin.divisionGoesByPylong i j=false:=by
  refine PyProof.noPylong_of_log2 ?_
  have h0:j.natAbs≠0:=by have:=h.1;omega
  exact Nat.lt_trans ((Nat.log2_lt h0).mpr h.2) (by decide)
theorem ZED:OpR X (binaryOp .FloorDiv) (rI ZMx fun i j=>.int (i.fdiv j)):=opI fun _ _ _ _ _ _ _ hc q=>floordiv_int hc.1 q (.inl hc.ok)
def ZEx:List V→List V→Bool
  | [],[]=>true
  | x::xs,y::ys=>eqV x y&&ZEx xs ys
  | _,_=>false
theorem ZDr (n:Nat)(e:Nat→Bool):(List.range (n+1)).all e=(e 0&&(List.range n).all fun i=>e (i+1)):=by
  rw [List.range_succ_eq_map,List.all_cons,List.all_map]
  rfl
def ZEW (xs ys:List V)(j:Nat):Bool:=match xs[j]?,ys[j]? with
  | some x,some y=>eqV x y
  | _,_=>false
theorem ZDE:∀ (xs ys:List V),((List.range (min xs.length ys.length)).all (ZEW xs ys)&&xs.length==ys.length)=ZEx xs ys
  | [],[]=>by simp [ZEx]
  | [],y::ys=>by simp [ZEx]
  | x::xs,[]=>by simp [ZEx]
  | x::xs,y::ys=>by
    have ih:=ZDE xs ys
    have e:min (x::xs).length (y::ys).length=min xs.length ys.length+1:=by simp only [List.length_cons];omega
    rw [e,ZDr]
    have e2:(fun i=>ZEW (x::xs) (y::ys) (i+1))=ZEW xs ys:=by
      funext i;simp [ZEW]
    rw [e2]
    have e3:((x::xs).length==(y::ys).length)=(xs.length==ys.length):=by simp
    have e4:ZEW (x::xs) (y::ys) 0=eqV x y:=by simp [ZEW]
    rw [e3,e4,Bool.and_assoc,ih,ZEx]
def rEqT (K:PySem.W.Frag)(neg:Bool):R2:=fun x y H Q=>∃ a b xs ys,x=.ref a∧y=.ref b∧SqT K H a xs∧SqT K H b ys∧xs.all ZCX=true∧ys.all ZCX=true∧Q (.bl (if neg then !ZEx xs ys else ZEx xs ys)) H
theorem ZEy {pins:List (Addr×Obj)}{σ:St}{H:Hp}{s:Shared}{A:Around}{xs ys:List V}{us vs:List Value}(r1:ZBJ xs us)(r2:ZBJ ys vs)(f1:xs.all ZCX=true)(f2:ys.all ZCX=true):
    ∀ j (h1:j<us.toArray.size) (h2:j<vs.toArray.size),SeqAt.EqAt A s us.toArray[j] vs.toArray[j] (ZEW xs ys j):=by
  intro j h1 h2
  have l1:=r1.length
  have l2:=r2.length
  rw [List.size_toArray] at h1 h2
  have hx:xs[j]?=some (xs[j]'(by omega)):=List.getElem?_eq_getElem _
  have hy:ys[j]?=some (ys[j]'(by omega)):=List.getElem?_eq_getElem _
  obtain ⟨u,hu,ru⟩:=r1.get hx
  obtain ⟨v,hv,rv⟩:=r2.get hy
  have eu:us.toArray[j]'(by simpa using h1)=u:=by
    rw [List.getElem?_eq_getElem h1] at hu
    simpa using Option.some.inj hu
  have ev:vs.toArray[j]'(by simpa using h2)=v:=by
    rw [List.getElem?_eq_getElem h2] at hv
    simpa using Option.some.inj hv
  rw [eu,ev]
  have e:ZEW xs ys j=eqV (xs[j]'(by omega)) (ys[j]'(by omega)):=by unfold ZEW;rw [hx,hy]
  rw [e]
  exact ZJp ru rv (List.all_eq_true.mp f1 _ (List.getElem_mem _)) (List.all_eq_true.mp f2 _ (List.getElem_mem _))
theorem ZIP (hu:X.A.units<cLine):OpR X (compareOp .Eq) (rEqT X.K false):=by
  intro pins s σ H x y v u Q I rx ry h
  obtain ⟨a,b,xs,ys,rfl,rfl,ha,hb,f1,f2,q⟩:=h
  cases rx
  cases ry
  obtain ⟨its,r1,p1,_⟩:=I.tuple ha
  obtain ⟨its2,r2,p2,_⟩:=I.tuple hb
  refine SeqAt.eq_tupleAt (e:=ZEW xs ys) (show s.heap.IsTuple a its.toArray from p1) (show s.heap.IsTuple b its2.toArray from p2) hu (ZEy (pins:=pins) (σ:=σ) (H:=H) r1 r2 f1 f2) ⟨.bl _,H,I,rfl,?_⟩
  rw [List.size_toArray,List.size_toArray,← r1.length,← r2.length,ZDE]
  exact q
def gLst (K:PySem.W.Frag)(n:Nat)(t:TGs):TG:=fun v σ H Q=>∃ a xs,v=.ref a∧SqL K H a xs∧xs.length=n∧t xs σ H Q
theorem ZOD {es:List Expr}{k:Nat}{t:TGs}{n:Nat}{pos:Pos}(hc:X.calm=true)(h:PGs X es t)
    (hn:(assignEach es X.env).length=n:=by rfl) (hst:(assignEach es X.env).findIdx? (·.1)=none:=by rfl):PG X (.Tuple es k pos) (gLst X.K n t):=by
  intro pins s σ H v u Q I r hw
  obtain ⟨a,xs,e1,hq,hl,hw⟩:=hw
  subst e1
  cases r
  obtain ⟨its,rv,ht,hz⟩:=I.list hq
  rw [assign_Tuple]
  refine wpAny_bind (wpAny_standAt ?_)
  unfold unpack
  have e:(assignEach es X.env).length=its.toArray.size:=by rw [hn,← hl,rv.length,List.size_toArray]
  rw [e,hst]
  refine wpAny_bind (wpAny_holding (PySem.W.kun_itemsOf (I.ok.hd hc) ht.isList fun h' hx=>?_))
  have I1:Inv X pins σ H { s with heap:=h' }:=I.kept (t':=s.toks) fun b o e=>hx b o (Nat.ne_of_lt (Heap.lt_size e)) e
  exact h pins _ σ H xs _ Q I1 (by simpa using rv) hw
def rIs (K:PySem.W.Frag):List V→Hp→VK→Prop:=fun xs H Q=>∃ x c t u b,xs=[x,c]∧ZIy K H x t∧ZBC c u∧(∀ p,c≠.ref p∨True)∧PySem.W.kitOne K t u=some b∧Q (.bl b) H
theorem ZAi:ZD9 X (.builtin "isinstance") (rIs X.K):=by
  intro pins s σ H xs us Q I r h
  obtain ⟨x,c,t,u',b,rfl,ty,rc,_,hk,q⟩:=h
  obtain ⟨u,w',rfl,r1,r2⟩:=ZN2 r
  have e:w'=u'∨∃ T,c=.ty T:=by
    cases c with
    | non=>left;cases rc;cases r2;rfl
    | bl _=>left;cases rc;cases r2;rfl
    | int i=>obtain ⟨z,rfl⟩:=rc;exact absurd hk (by simp [PySem.W.kitOne,PySem.W.kitCls];cases ty <;> simp)
    | str i=>obtain ⟨z,rfl⟩:=rc;exact absurd hk (by simp [PySem.W.kitOne,PySem.W.kitCls];cases ty <;> simp)
    | byt i=>obtain ⟨z,rfl⟩:=rc;exact absurd hk (by simp [PySem.W.kitOne,PySem.W.kitCls];cases ty <;> simp)
    | flt i=>obtain ⟨z,rfl⟩:=rc;exact absurd hk (by simp [PySem.W.kitOne,PySem.W.kitCls];cases ty <;> simp)
    | ref _=>left;cases rc;cases r2;rfl
    | ty _=>left;cases rc;cases r2;rfl
  rcases e with rfl | ⟨T,rfl⟩
  · exact ZG2 I r1 ty hk fun tk=>⟨.bl b,H,I.tok tk,rfl,q⟩
  · cases rc;cases r2
    exact ZG2 I r1 ty hk fun tk=>⟨.bl b,H,I.tok tk,rfl,q⟩
end
end L2
namespace L2
open PySem PySem.Spec PyProof.Rows
def ZAr (X:Cx)(scope:Scope)(cl:List (Str×Addr))(C:Addr)(N:List Str)(s₀:Shared)(H₀:Hp)(ex:List Addr)(pn:List (Addr×Obj)):Cx where
  prog:=X.prog
  w:=X.w
  K:=X.K
  mg:=X.mg
  base:=X.base
  A:=X.A
  N:=N
  s₀:=s₀
  H₀:=H₀
  env:=compEnvC scope cl C X.env
  outer:=X.stack
  stack:=X.stack
  ex:=ex
  fn:=fun y=>(cl.lookup y).any fun c=>decide (C<c)
  calm:=X.calm
  pn:=pn
  xe:=fun _ _=>False
structure ZCC (X:Cx)(scope:Scope)(cl:List (Str×Addr))(x:Str)(fv:List Str)(js:List Nat):Prop where
  kind:scope.kind=.function
  nc:∀ y∈scope.names,y.2≠.cell
  nm:∀ y∈scope.names,y.2=.local→scope.names.lookup y.1=some .local
  hx:scope.names.lookup x=some .local
  fr:∀ y∈scope.names,y.2=.free→y.1∈fv
  nd:(x::fv).Nodup
  vis:∀ y∈fv,scope.names.lookup y=some .free∧X.env.scope.names.lookup y=some .cell∧(cl.lookup y).isSome=true
  cls:∀ p∈cl,X.env.cells.lookup p.1=some p.2
  sl:Paired (fun y j=>X.N[j]?=some y) fv js
def frv (js:List Nat)(σ:St):St:=js.map fun j=>(σ[j]?).getD none
theorem ZB1 {env:Env}(hk:env.scope.kind=.function):∀ {names:List (Str×NameKind)} {y:Str},names.lookup y=some .free→env.kindOf y=some .cell→
    (names.map fun (n,k)=>if (k==NameKind.free&&env.scope.kind==.function&&env.kindOf n==some .cell) then (n,NameKind.cell) else (n,k)).lookup y=some .cell
  | [],_,h,_=>by simp at h
  | (n,k)::r,y,h,hy=>by
    have ih:=@ZB1 env hk r y
    show List.lookup y ((if (k==NameKind.free&&env.scope.kind==.function&&env.kindOf n==some .cell)=true then (n,NameKind.cell) else (n,k))::_)=_
    cases hx:y==n with
    | true=>
      have e:y=n:=eq_of_beq hx
      subst e
      simp only [List.lookup_cons,hx] at h
      cases h
      rw [if_pos (by rw [hk,hy];rfl)]
      simp [List.lookup_cons]
    | false=>
      simp only [List.lookup_cons,hx] at h
      split
      · simp only [List.lookup_cons,hx];exact ih h hy
      · simp only [List.lookup_cons,hx];exact ih h hy
theorem ZCs {env:Env}:∀ {names:List (Str×NameKind)} {y:Str} {k':NameKind},
    (names.map fun (n,k)=>if (k==NameKind.free&&env.scope.kind==.function&&env.kindOf n==some .cell) then (n,NameKind.cell) else (n,k)).lookup y=some k'→
    names.lookup y=some k'∨(names.lookup y=some .free∧k'=.cell)
  | [],_,_,h=>by simp at h
  | (n,k)::r,y,k',h=>by
    have ih:=@ZCs env r y k'
    have h:List.lookup y ((if (k==NameKind.free&&env.scope.kind==.function&&env.kindOf n==some .cell)=true then (n,NameKind.cell) else (n,k))::(r.map fun (n,k)=>if (k==NameKind.free&&env.scope.kind==.function&&env.kindOf n==some .cell) then (n,NameKind.cell) else (n,k)))=some k':=h
    cases hx:y==n with
    | true=>
      by_cases hc:(k==NameKind.free&&env.scope.kind==.function&&env.kindOf n==some .cell)=true
      · rw [if_pos hc] at h
        simp only [List.lookup_cons,hx] at h
        cases h
        right
        have hk:k=.free:=by
          rw [Bool.and_eq_true,Bool.and_eq_true] at hc
          exact eq_of_beq hc.1.1
        subst hk
        exact ⟨by simp [List.lookup_cons,hx],rfl⟩
      · rw [if_neg hc] at h
        simp only [List.lookup_cons,hx] at h
        left
        simp only [List.lookup_cons,hx]
        exact h
    | false=>
      have h':(r.map fun (n,k)=>if (k==NameKind.free&&env.scope.kind==.function&&env.kindOf n==some .cell) then (n,NameKind.cell) else (n,k)).lookup y=some k':=by
        by_cases hc:(k==NameKind.free&&env.scope.kind==.function&&env.kindOf n==some .cell)=true
        · rw [if_pos hc] at h
          simp only [List.lookup_cons,hx] at h
          exact h
        · rw [if_neg hc] at h
          simp only [List.lookup_cons,hx] at h
          exact h
      simp only [List.lookup_cons,hx]
      exact ih h'
section
variable {X:Cx}{scope:Scope}{cl:List (Str×Addr)}{x:Str}{fv:List Str}{js:List Nat}
theorem ZCC.cell_of (S:ZCC X scope cl x fv js){y:Str}{c:Addr}(h:cl.lookup y=some c):X.env.cells.lookup y=some c:=S.cls (y,c) (PySem.mem_of_lookup h)
theorem ZCC.own (S:ZCC X scope cl x fv js){C:Addr}{y:Str}{k:NameKind}(h:(compEnvC scope cl C X.env).kindOf y=some k)(hk:k=.cell∨k=.free):y∈fv:=by
  have h':(scope.names.map fun (n,k)=>if (k==NameKind.free&&X.env.scope.kind==.function&&X.env.kindOf n==some .cell) then (n,NameKind.cell) else (n,k)).lookup y=some k:=h
  rcases ZCs h' with q | ⟨q,_⟩
  · rcases hk with rfl | rfl
    · exact absurd rfl (S.nc _ (PySem.mem_of_lookup q))
    · exact S.fr _ (PySem.mem_of_lookup q) rfl
  · exact S.fr _ (PySem.mem_of_lookup q) rfl
theorem ZEX {F:Str→Nat→Prop}:∀ {ys:List Str} {js:List Nat} {i:Nat} {y:Str},Paired F ys js→ys[i]?=some y→∃ j,js[i]?=some j∧F y j:=by
  intro A B j x h
  induction h generalizing j with
  | nil=>
    intro e
    simp at e
  | cons r t ih=>
    intro e
    cases j with
    | zero=>
      simp at e
      subst e
      exact ⟨_,rfl,r⟩
    | succ j=>
      obtain ⟨y,h1,h2⟩:=ih (by simpa using e)
      exact ⟨y,by simpa using h1,h2⟩
theorem ZF3 {pins:List (Addr×Obj)}{σ:St}{H:Hp}{s:Shared}{h₁:Heap}{ex:List Addr}{tk:Nat}(S:ZCC X scope cl x fv js)(I:Inv X pins σ H s)
    (hf:∀ b∈ex,ZGs X pins H b) (hlt:∀ b∈ex,b<s.heap.objs.size) (hns:h₁.Ns s.heap.objs.size (fun _=>none)) (hk:∀ b o,s.heap.get? b=some o→h₁.get? b=some o):
    Inv (ZAr X scope cl s.heap.objs.size (x::fv) s H ex (X.pn++pins)) [] (none::frv js σ) H { s with heap:=h₁,toks:=tk }:=by
  have nstk:∀ b∈ex,b∉frs X.stack:=fun b hb z=>by
    rcases List.mem_cons.mp (I.stkSub b z) with e | e
    · exact (hf b hb).2.1 e
    · exact (hf b hb).2.2.1 e
  have ok:(ZAr X scope cl s.heap.objs.size (x::fv) s H ex (X.pn++pins)).Ok:=by
    refine ⟨I.ok.mod,S.kind,I.ok.glob,I.ok.blt,Nat.le_refl _,fun y z c h1 h2=>I.ok.inj y z c (S.cell_of h1) (S.cell_of h2),fun y hy=>?_,(fun y c h hc=>by
      have h':((cl.lookup y).any fun c=>decide (s.heap.objs.size<c))=true:=h
      rw [show cl.lookup y=some c from hc] at h'
      exact Nat.le_of_lt (of_decide_eq_true h')),I.ok.hd,I.ok.frames,.inl rfl,
      fun b hb=>⟨Nat.ne_of_lt (hlt b hb),fun y c h=>(hf b hb).2.2.2.2.1 y c (S.cell_of h)⟩,I.bs,Nat.le_trans I.ok.bsz I.sz,fun b o e hb=>?_,nstk,I.stack,I.stkFree⟩
    · have hm:y∈fv:=by
        rcases hy with hy | hy
        · exact S.own hy (.inl rfl)
        · exact S.own hy (.inr rfl)
      exact Option.isSome_iff_exists.mp (S.vis y hm).2.2
    · obtain ⟨f0,f1,f2,f3,f4,f5⟩:=hf b hb
      rcases f3 with z | z
      · exact I.ok.noex b o e z
      · exact absurd (Nat.lt_of_lt_of_le (Heap.lt_size e) (Nat.le_trans I.ok.bsz z)) (Nat.lt_irrefl _)
  refine ⟨ok,rfl,I.bare,Un.kept hk,⟨_,hns,fun i y v e1 e2 e3=>?_⟩,fun y c h=>?_,I.hok.fresh (Nat.le_refl _),fun y c h=>I.freeC y c (S.cell_of h),fun p hp=>?_,I.hok.kept hk,?_⟩
  · cases i with
    | zero=>have z:(some (none:Option V))=some (some v):=e2;cases z
    | succ i=>
      have hy:fv[i]?=some y:=by simpa [ZAr] using e1
      obtain ⟨j,hj,hN⟩:=ZEX S.sl hy
      have hv:σ[j]?=some (some v):=by
        have z:(frv js σ)[i]?=some (some v):=by simpa using e2
        unfold frv at z
        rw [List.getElem?_map,hj] at z
        have z':(σ[j]?).getD none=some v:=Option.some.inj z
        cases q:σ[j]? with
        | none=>rw [q] at z';cases z'
        | some o=>rw [q] at z';exact congrArg some z'
      obtain ⟨hfree,hcell,hsome⟩:=S.vis y (List.mem_of_getElem? hy)
      obtain ⟨m,hn,hl⟩:=I.loc
      obtain ⟨u,ru,look⟩:=hl j y v hN hv (.inr (.inl hcell))
      refine ⟨u,ru,.inr ⟨.inl (ZB1 I.ok.kind hfree hcell),?_⟩⟩
      obtain ⟨c',hc'⟩:=Option.isSome_iff_exists.mp hsome
      rcases look with ⟨k,_⟩ | ⟨_,c,ec,z⟩
      · have k':X.env.scope.names.lookup y=some .local:=k
        rw [hcell] at k';cases k'
      · have e:=S.cell_of hc'
        rw [ec] at e
        cases e
        exact ⟨_,hc',by obtain ⟨o,ho,hd⟩:=z;exact ⟨o,hk _ _ ho,hd⟩⟩
  · obtain ⟨v,o,ho,hd⟩:=I.cell y c (S.cell_of h)
    exact ⟨v,o,hk _ _ ho,hd⟩
  · have hp':p∈X.pn++pins:=by simpa [ZAr] using hp
    obtain ⟨e,n,ne,nf,d⟩:=I.pin p hp'
    refine ⟨hk _ _ e,n,Nat.ne_of_lt (Heap.lt_size e),fun z=>?_,d⟩
    rcases List.mem_cons.mp (I.stkSub p.1 z) with q | q
    · exact ne q
    · exact nf q
  · show (none::frv js σ).length=(x::fv).length
    have:fv.length=js.length:=Paired.length S.sl
    simp [frv,this]
theorem ZGI {pins pins':List (Addr×Obj)}{σ σ':St}{H H':Hp}{s s':Shared}{h'':Heap}{ex:List Addr}{N:List Str}{pn:List (Addr×Obj)}(I:Inv X pins σ H s)(hf:∀ b∈ex,ZGs X pins H b)
    (J:Inv (ZAr X scope cl s.heap.objs.size N s H ex pn) pins' σ' H' s') (sb:Heap.SameBut s.heap.objs.size s'.heap h''):Inv X pins σ H' { s' with heap:=h'' }:=by
  have neC:∀ b o,s.heap.get? b=some o→b≠s.heap.objs.size:=fun b o e=>Nat.ne_of_lt (Heap.lt_size e)
  have u:Un (frs X.stack) ex H H' s.heap s'.heap:=J.base
  have fr:H' s.heap.objs.size=none:=J.free
  refine I.call' (s':={ s' with heap:=h'' }) (ch:=ex) J.os ⟨fun b o e n hb hx=>?_,fun b o e n hb hx=>?_,u.free,fun b o e hx=>?_,u.tups,u.frzs,u.tbls⟩ (fun b o e=>?_) J.bare (fun b hb=>?_)
  · exact (sb.2 b (neC b o e)).trans (u.keep b o e n hb hx)
  · obtain ⟨sl,q⟩:=u.slot b o e n hb hx
    exact ⟨sl,(sb.2 b (neC b o e)).trans q⟩
  · obtain ⟨o',q⟩:=u.there b o e hx
    exact ⟨o',(sb.2 b (neC b o e)).trans q⟩
  · refine (J.hok b o e).stay (fun c v hc q=>(sb.2 c ?_).trans q) (fun _ q=>q) fun _ _ q=>q
    rcases hc with rfl | hc
    · intro z;rw [z,fr] at e;cases e
    · intro z;rw [z,fr] at hc;cases hc
  · obtain ⟨f0,f1,f2,f3,f4,f5⟩:=hf b hb
    exact ⟨f3,f1,f4,f5⟩
end
def PF (X:Cx)(ifs:List Expr)(t:TT):Prop:=
  ∀ (pins:List (Addr×Obj)) (s:Shared) (σ:St) (H:Hp) (Q:Bool→Hp→Prop),Inv X pins σ H s→t σ H Q→
    wpAny (model X.prog X.w) X.A (forIn ifs true fun c r=>if r=true then do let ok ← isTrue c X.env (eval c X.env);pure (ForInStep.yield ok) else pure (ForInStep.yield r)) (TP X pins σ Q) X.xe s
def ZPt:TT:=fun _ H Q=>Q true H
theorem ZFG {X:Cx}:PF X [] ZPt:=by
  intro pins s σ H Q I h
  rw [List.forIn_nil]
  exact wpAny_pure ⟨H,I,h⟩
theorem ZJt {X:Cx}{c:Expr}{t:TT}(h:PT X c t):PF X [c] t:=by
  intro pins s σ H Q I hq
  rw [List.forIn_cons]
  refine wpAny_bind ?_
  rw [if_pos rfl]
  refine wpAny_bind (thn (h pins s σ H Q I hq) fun b s1 q=>wpAny_pure ?_)
  dsimp only
  rw [List.forIn_nil]
  exact wpAny_pure q
section
variable {prog:Program}{w:World}{A:Around}{R:Result→Shared→Prop}{s:Shared}
theorem ZDy {elt target iter:Expr}{ifs:List Expr}{scope:Scope}{pos:Pos}{it acc:Value}{env:Env}(I:Nat→Shared→Prop)
    (turn:∀ n s,I n s→wpAny (model prog w) A (pyNext it) (fun r s₁=>match r with
      | none=>R (.ok .next) s₁
      | some v=>wpAny (model prog w) A (letOwnedTupleGo target it v) (fun _ s₁'=>wpAny (model prog w) A (assign target env v) (fun _ s₂=>
          wpAny (model prog w) A (forIn ifs true fun c r=>if r=true then do let ok ← isTrue c env (eval c env);pure (ForInStep.yield ok) else pure (ForInStep.yield r)) (fun ok s₃=>
            if ok=true then wpAny (model prog w) A (eval elt env) (fun x s₄=>
              wpAny (model prog w) A (call (.builtin "list.append") [acc,x]) (fun _ s₅=>∃ m,m<n∧I m s₅) (fun _ _=>False) s₄) (fun _ _=>False) s₃
            else ∃ m,m<n∧I m s₃) (fun _ _=>False) s₂) (fun _ _=>False) s₁') (fun _ _=>False) s₁) (fun _ _=>False) s)
    (n:Nat) (h:I n s):
    codeAny (model prog w) A (.compLoop (.ListComp elt [⟨target,iter,ifs,0⟩] scope pos) 0 it acc env) R s:=by
  refine codeAny_loop rfl I (fun n s hI=>?_) n h
  show wpAny _ A ((compTurn (.ListComp elt [⟨target,iter,ifs,0⟩] scope pos) 0 it acc env).onRaise (fun x=>do noteFrame x env;theTreesLotGoes x)) _ _ s
  refine wpAny_noted ?_
  rw [compTurn_list]
  refine wpAny_bind (wpAny_standAt (wpAny_bind (wpAny_mono (turn n s hI) (fun r s₁ h₁=>?_) fun _ _ h'=>h'.elim)))
  cases r with
  | none=>exact wpAny_pure h₁
  | some v=>
    refine wpAny_bind (wpAny_mono h₁ (fun _ s₁' h₁'=>?_) fun _ _ h'=>h'.elim)
    refine wpAny_bind (wpAny_mono h₁' (fun _ s₂ h₂=>wpAny_bind (wpAny_mono h₂ (fun ok s₃ h₃=>?_) fun _ _ h'=>h'.elim)) fun _ _ h'=>h'.elim)
    cases ok with
    | false=>exact wpAny_pure ⟨rfl,h₃⟩
    | true=>
      exact wpAny_bind (wpAny_bind (wpAny_mono h₃ (fun x s₄ h₄=>wpAny_bind (wpAny_mono h₄ (fun _ s₅ h₅=>wpAny_pure (wpAny_pure ⟨rfl,h₅⟩)) fun _ _ h'=>h'.elim)) fun _ _ h'=>h'.elim))
end
def ZMy (wi:TI)(js:List Nat)(tt:TT)(te:TE):TE:=fun σ H Q=>wi σ H fun J H1=>∀ D,H1 D=none→∃ W:Nat→Nat→Hp→Prop,(∃ m,W 0 m (upd H1 D (.lst [])))∧∀ i m H,W i m H→
  (J.stop i H∧Q (.ref D) H)∨(J.go i H∧∀ x H',J.yld i H x H'→tt (some x::frv js σ) H' fun b H2=>
    if b=true then te (some x::frv js σ) H2 fun v H3=>∃ xs,H3 D=some (.lst xs)∧xs.length<sizeLine∧∃ m',m'<m∧W (i+1) m' (upd H3 D (.lst (xs++[v])))
    else ∃ m',m'<m∧W (i+1) m' H2)
theorem ZDZ {X:Cx}{elt iter:Expr}{ifs:List Expr}{x:Str}{px pos:Pos}{scope:Scope}{cl:List (Str×Addr)}{fv:List Str}{js:List Nat}{wi:TI}{tt:TT}{te:TE}(hc:X.calm=true)(hclos:closureFor scope X.env=pure cl)
    (S:ZCC X scope cl x fv js) (hi:PI X (.Name x px) iter wi)
    (ht:∀ (C:Addr) (s₀:Shared) (H₀:Hp) (ex:List Addr) (pn:List (Addr×Obj)),PF (ZAr X scope cl C (x::fv) s₀ H₀ ex pn) ifs tt)
    (he:∀ (C:Addr) (s₀:Shared) (H₀:Hp) (ex:List Addr) (pn:List (Addr×Obj)),PE (ZAr X scope cl C (x::fv) s₀ H₀ ex pn) elt te)
    (hs:∀ x,foldedSetIterable iter X.env x=pure x:=by intro _;rfl):PE X (.ListComp elt [⟨.Name x px,iter,ifs,0⟩] scope pos) (ZMy wi js tt te):=by
  intro pins s σ H Q I h
  rw [eval_ListComp]
  refine wpAny_comprehension_free (use:=none) rfl hs hclos S.kind S.nm (thn (hi pins s σ H _ I h) fun v s1 h1=>thn h1 fun itv s2 h2=>?_)
  obtain ⟨it,fp,tn,J,H2,e,I2,T,st2,f2,hW⟩:=h2
  subst e
  have hD:H2 s2.heap.objs.size=none:=I2.hok.fresh (Nat.le_refl _)
  obtain ⟨W,⟨m0,w0⟩,turn⟩:=hW s2.heap.objs.size hD
  have lt2:∀ b∈fp,b<s2.heap.objs.size:=fun b hb=>by
    obtain ⟨o,e,_⟩:=T.obj _ _ st2 b hb
    exact Heap.lt_size e
  refine wpAny_newObj_type (wpAny_newFunctionEnv S.nc (by intro y hy;simp at hy) (fun h₁ hns₁ hsb₁=>?_) S.kind)
  dsimp only at hns₁ hsb₁ ⊢
  have I3:Inv X pins σ (upd H2 s2.heap.objs.size (.lst [])) { s2 with heap:=s2.heap.push { cls:=.type "list",dict:=none,data:=.seq ([]:List Value).toArray } }:=I2.lnew (t':=s2.toks) .nil (Nat.zero_le _)
  generalize hS3:({ s2 with heap:=s2.heap.push { cls:=.type "list",dict:=none,data:=.seq ([]:List Value).toArray } }:Shared)=s3 at I3
  have eh:s3.heap=s2.heap.push { cls:=.type "list",dict:=none,data:=.seq ([]:List Value).toArray }:=by rw [← hS3]
  rw [← eh] at hns₁ hsb₁ ⊢
  have hsz:s3.heap.objs.size=s2.heap.objs.size+1:=by rw [eh,Heap.size_push]
  have k23:∀ b o,s2.heap.get? b=some o→s3.heap.get? b=some o:=fun b o e=>by rw [eh];exact Heap.get?_push_of_some _ e
  have k34:∀ b o,s3.heap.get? b=some o→h₁.get? b=some o:=fun b o e=>hsb₁.extBut b o (Nat.ne_of_lt (Heap.lt_size e)) (Heap.get?_push_of_some _ e)
  have f3:∀ b∈fp,ZGs X pins (upd H2 s2.heap.objs.size (.lst [])) b:=fun b hb=>⟨by rw [ZAa (Nat.ne_of_lt (lt2 b hb))];exact (f2 b hb).1,(f2 b hb).2⟩
  have lt3:∀ b∈fp,b<s3.heap.objs.size:=fun b hb=>by rw [hsz];exact Nat.lt_succ_of_lt (lt2 b hb)
  have I4:=ZF3 (tk:=s3.toks) S I3 f3 lt3 (h₁:=h₁) (by simpa using hns₁) k34
  generalize hY:ZAr X scope cl s3.heap.objs.size (x::fv) s3 (upd H2 s2.heap.objs.size (.lst [])) fp (X.pn++pins)=Y at I4
  have hYp:Y.prog=X.prog:=by rw [← hY];rfl
  have hYw:Y.w=X.w:=by rw [← hY];rfl
  have hYK:Y.K=X.K:=by rw [← hY];rfl
  have hYA:Y.A=X.A:=by rw [← hY];rfl
  have hYc:Y.calm=true:=by rw [← hY];exact hc
  have hYe:Y.env=compEnvC scope cl s3.heap.objs.size X.env:=by rw [← hY];rfl
  have hYx:Y.xe=fun _ _=>False:=by rw [← hY];rfl
  have hYN:Y.N=x::fv:=by rw [← hY];rfl
  have heY:PE Y elt te:=by rw [← hY];exact he _ _ _ _ _
  have htY:PF Y ifs tt:=by rw [← hY];exact ht _ _ _ _ _
  have stat:∀ {H':Hp},(∀ b∈fp,H' b=none)→∀ b∈fp,ZGs Y [] H' b:=fun {H'} hn b hb=>by
    obtain ⟨g0,g1,g2,g3,g4,g5⟩:=f3 b hb
    rw [← hY]
    refine ⟨hn b hb,Nat.ne_of_lt (lt3 b hb),fun z=>?_,.inl hb,fun y c e=>g4 y c (S.cell_of e),fun p hp=>g5 p (by simpa [ZAr] using hp)⟩
    rcases List.mem_cons.mp (I3.stkSub b z) with q | q
    · exact g1 q
    · exact g2 q
  have fin:∀ {i:Nat} {m:Nat} {σ':St} {H':Hp} {s':Shared},Inv Y [] σ' H' s'→Q (.ref s2.heap.objs.size) H'→compPost (model X.prog X.w) X.A X.xe none (EP X pins σ Q) (.ref s2.heap.objs.size) s3.heap.objs.size (.ok .next) s':=fun {i m σ' H' s'} J q=>by
    obtain ⟨mm,hn,_⟩:=J.loc
    rw [← hY] at J hn
    refine ⟨mm,hn,fun h'' sb=>?_⟩
    exact ⟨.ref _,H',ZGI I3 f3 J sb,rfl,q⟩
  have st4:∀ s4:Shared,s4={ s3 with heap:=h₁,toks:=s3.toks }→tn 0 s4.heap:=fun s4 e=>by
    subst e
    exact T.keep _ _ _ st2 fun b hb o e=>k34 b o (k23 b o e)
  have loop:codeAny (model X.prog X.w) X.A (.compLoop (.ListComp elt [⟨.Name x px,iter,ifs,0⟩] scope pos) 0 (.ref it) (.ref s2.heap.objs.size) (compEnvC scope cl s3.heap.objs.size X.env))
      (compPost (model X.prog X.w) X.A X.xe none (EP X pins σ Q) (.ref s2.heap.objs.size) s3.heap.objs.size) { s3 with heap:=h₁,toks:=s3.toks }:=by
    refine ZDy (fun n s'=>∃ (i:Nat) (o:Option V) (H':Hp),Inv Y [] (o::frv js σ) H' s'∧tn i s'.heap∧(∀ b∈fp,H' b=none)∧W i n H') ?_ m0 ⟨0,none,_,I4,st4 _ rfl,fun b hb=>(f3 b hb).1,w0⟩
    rintro n s5 ⟨i,o,H5,I5,st5,fr5,w5⟩
    rcases turn i n H5 w5 with ⟨stop,q⟩ | ⟨go,step⟩
    · have r:=T.done Y hYp hYw hYK hYc i [] s5 _ H5 (fun _ _=>False) I5 (stat fr5) st5 stop
      rw [hYA] at r
      refine thn r fun r s6 zq=>?_
      obtain ⟨hr,I6⟩:=zq
      subst hr
      exact fin (i:=i) (m:=n) I6 q
    · have r:=T.item Y hYp hYw hYK hYc i [] s5 _ H5 (fun _ _=>False) I5 (stat fr5) st5 go
      rw [hYA] at r
      refine thn r fun r s6 zq=>?_
      obtain ⟨u,hr,h6⟩:=zq
      subst hr
      refine thn h6 fun _ s7 zq=>?_
      obtain ⟨y,H7,I7,r7,y7,st7,fr7⟩:=zq
      have I7':=I7.pinned (stat fr7) (T.obj _ _ st7)
      have hname:PG Y (.Name x px) (ZE8 0):=ZA2 (X:=Y) (i:=0) (by rw [hYN];exact S.nd) (by rw [hYN];rfl) (.inl (by rw [hYe];exact lookup_relabel_local S.hx)) (.inr (by rw [hYe];exact lookup_relabel_local S.hx))
      have r8:=hname _ s7 _ H7 y u (fun σ' H'=>σ'=some y::frv js σ∧H'=H7) I7' r7 ⟨rfl,rfl⟩
      rw [hYp,hYw,hYA,hYe,hYx] at r8
      refine thn r8 fun _ s8 zq=>?_
      obtain ⟨σ8,H8,I8,e1,e2⟩:=zq
      subst e1 e2
      have r9:=htY _ s8 _ _ _ I8 (step y _ y7)
      rw [hYp,hYw,hYA,hYe,hYx] at r9
      refine thn r9 fun b s9 zq=>?_
      obtain ⟨H9,I9,q9⟩:=zq
      have again:∀ {σ':St} {H':Hp} {s':Shared},Inv Y ([]++ZFA fp s7.heap) (some y::frv js σ) H' s'→(∃ m',m'<n∧W (i+1) m' H')→
          ∃ m,m<n∧∃ (i:Nat) (o:Option V) (H':Hp),Inv Y [] (o::frv js σ) H' s'∧tn i s'.heap∧(∀ b∈fp,H' b=none)∧W i m H':=fun {σ' H' s'} K7 ⟨m',hm,w7⟩=>by
        refine ⟨m',hm,i+1,some y,H',K7.unpinned,T.keep _ _ _ st7 fun b hb o e=>(K7.pin (b,o) (List.mem_append_right _ (List.mem_append_right _ (ZB2 hb e)))).1,fun b hb=>?_,w7⟩
        obtain ⟨o,e,d⟩:=T.obj _ _ st7 b hb
        exact (K7.pin (b,o) (List.mem_append_right _ (List.mem_append_right _ (ZB2 hb e)))).2.1
      cases b with
      | false=>
        rw [if_neg Bool.false_ne_true] at q9 ⊢
        exact again (σ':=[]) I9 q9
      | true=>
        rw [if_pos rfl] at q9 ⊢
        have r10:=heY _ s9 _ _ _ I9 q9
        rw [hYp,hYw,hYA,hYe,hYx] at r10
        refine thn r10 fun v s10 zq=>?_
        obtain ⟨y10,H10,I10,ry,xs,hxs,hlen,m',hm,w10⟩:=zq
        have r11:=ZBK (X:=Y) _ s10 _ H10 (.ref s2.heap.objs.size) [y10] (.ref s2.heap.objs.size) [v] (fun _ H'=>H'=upd H10 s2.heap.objs.size (.lst (xs++[y10]))) I10 rfl (.cons ry .nil) ⟨_,xs,y10,rfl,rfl,hxs,hlen,rfl⟩
        rw [hYp,hYw,hYA,hYx] at r11
        refine thn r11 fun _ s11 zq=>?_
        obtain ⟨_,H11,I11,_,e11⟩:=zq
        subst e11
        exact again (σ':=[]) I11 ⟨m',hm,w10⟩
  have loop':∀ s4:Shared,s4={ s3 with heap:=h₁,toks:=s3.toks }→codeAny (model X.prog X.w) X.A (.compLoop (.ListComp elt [⟨.Name x px,iter,ifs,0⟩] scope pos) 0 (.ref it) (.ref s2.heap.objs.size) (compEnvC scope cl s3.heap.objs.size X.env))
      (compPost (model X.prog X.w) X.A X.xe none (EP X pins σ Q) (.ref s2.heap.objs.size) s3.heap.objs.size) s4:=fun s4 e=>by subst e;exact loop
  have e4:∀ t,t=s3.toks→({ s3 with heap:=h₁,toks:=t }:Shared)={ s3 with heap:=h₁,toks:=s3.toks }:=fun t e=>by rw [e]
  have fin4:∀ s4:Shared,s4={ s3 with heap:=h₁,toks:=s3.toks }→codeAny (model X.prog X.w) X.A (.compStart (.ListComp elt [⟨.Name x px,iter,ifs,0⟩] scope pos) 0 (.ref it) (.ref s2.heap.objs.size) (compEnvC scope cl s3.heap.objs.size X.env))
      (compPost (model X.prog X.w) X.A X.xe none (EP X pins σ Q) (.ref s2.heap.objs.size) s3.heap.objs.size) s4:=fun s4 e=>
    codeAny_compStart_list (loop' s4 e) (T.self X.A 0 s4 _ _ (st4 s4 e) (loop' s4 e))
  have es:({ s2 with heap:=s2.heap.push { cls:=.type "list",dict:=none,data:=.seq ([]:List Value).toArray } }:Shared)=s3:=hS3
  refine fin4 _ ?_
  rw [← es]
  rfl
end L2
namespace L2
open PySem PySem.Spec PyProof.Rows
section
variable {P:Program}{w:World}{H:Hp}{h:Heap}{a:Addr}{o:HO}
end
structure ZOE (P:Program)(w:World)(l:List Env)(H H':Hp)(h h' B:Heap):Prop where
  inB:∀ b o,h.get? b=some o→b∉frs l→∃ o1,B.get? b=some o1∧(H b=none→o1=o)
  trk:∀ b u,H' b=some u→∃ o,B.get? b=some o
  st:B.StaysIn h'
  fr:∀ b∈frs l,H b=none∧∃ o,h.get? b=some o∧∀ vs,o.data≠.fields vs
  slot:∀ b o,h.get? b=some o→b∈frs l→∃ sl,h'.get? b=some { o with slots:=sl }
  free:∀ b o,h.get? b=some o→H b=none→H' b=none
  tups:∀ b xs,H b=some (.tup xs)→H' b=some (.tup xs)
  frzs:∀ b o u,H b=some (.frz o u)→H' b=some (.frz o u)
  tbls:∀ b ps,H b=some (.tbl ps)→∃ more,H' b=some (.tbl (ps++more))
  hok:HOk P w H' h'
section
variable {P:Program}{w:World}{l:List Env}{H H':Hp}{h h' h'' B:Heap}
end
def CXe (P:Program)(w:World):CXT:=fun outer H s E e s'=>∃ (a:Addr) (cls:Value) (H':Hp) (B:Heap) (a0:Value),e=.ref a∧s'.os=s.os∧AllBare s'.gens∧s.heap.get? a=none∧H' a=none∧
  ZOE P w outer H H' s.heap s'.heap B∧Heap.FlyingW B outer a cls a0 s'.heap∧E cls none H'
section
variable {P:Program}{w:World}{K:PySem.W.Frag}{mg:Str→Option Value}{base:Heap}
end
section
variable {P:Program}{w:World}{K:PySem.W.Frag}{mg:Str→Option Value}{base:Heap}{N:List Str}{qual:Str}{scope:Scope}{f:Addr}{cd:Value}{A:Around}{outer:List Env}{s:Shared}{H:Hp}{E:XK}
structure ExcC (K:PySem.W.Frag)(x:Str)(C:Addr):Prop where
  ns:PySem.W.nsIn K mainGlobals x=some (some (.ref C))
  ex:PySem.W.excIn K C [.type "ValueError",.type "Exception",.type "BaseException",.type "object"] "ValueError.__new__"=true
def ZRk (C:Addr)(E:XK)(te:TE):TS:=fun _ σ H=>te σ H fun _ H1=>E (.ref C) none H1
end
end L2
namespace L2
open PySem PySem.Spec PyProof.Rows
def ZRl (X:Cx)(a:Addr):Cx:={ X with A:=X.A.mark (some (.ref a)),calm:=false,xe:=fun _ _=>False }
def ZPu (a:Addr)(cls:Value)(h:Heap):Prop:=∃ o vs,h.get? a=some o∧o.cls=cls∧o.data=.fields vs
def ZPv (a:Addr)(cls:Value):HO:=.ext (ZPu a cls)
section
variable {X:Cx}{pins:List (Addr×Obj)}{σ:St}{H:Hp}{s:Shared}{a:Addr}
end
def tTry1 (K:PySem.W.Frag)(sp:Sp)(t:TA)(Dc:Addr)(i:Nat)(ts:TS):TS:=fun D σ H=>t σ H fun vs H1=>sp (vs++[]) H1 (fun _ H2=>D.nx σ H2) fun cls _ H2=>
  PySem.W.exmOne K cls (.ref Dc)=some true∧∀ a,H2 a=none→ts { nx:=fun σ' H'=>D.nx (σ'.set i none) H',rt:=fun _ _=>False } (σ.set i (some (.ref a))) (upd H2 a (ZPv a cls))
section
open Builtin Builtin.ObjectAttr Builtin.Getset_descriptor
variable {prog:Program}{w:World}{A:Around}{E:Value→Shared→Prop}{s:Shared}{K:PySem.W.Frag}{a C:Addr}{o:Obj}
structure ExcK (K:PySem.W.Frag)(C:Addr):Prop where
  cl:(PySem.W.clsIn K C).isSome=true
  ga:PySem.W.findIn K (.ref C) "__getattribute__"=some (some (.builtin "BaseException.__getattribute__"))
  gh:PySem.W.findIn K (.ref C) "__getattr__"=some none
  at_:PySem.W.findIn K (.ref C) "__class__"=some (some (.builtin "object.__class__"))
  ob:PySem.W.mroIn K C (.type "object")=some true
  be:PySem.W.mroIn K C (.type "BaseException")=some true
end
end L2
namespace L2
open PySem PySem.Spec PyProof.Rows
section
open Builtin Builtin.ObjectAttr Builtin.Getset_descriptor PySem.W
variable {prog:Program}{w:World}{A:Around}{E:Value→Shared→Prop}{s:Shared}{K:PySem.W.Frag}{a C:Addr}{o:Obj}
end
section
variable {X:Cx}
def rIsE (K:PySem.W.Frag):List V→Hp→VK→Prop:=fun xs H Q=>∃ (a C:Addr) (c:V) (b:Bool),xs=[.ref a,c]∧H a=some (ZPv a (.ref C))∧ExcK K C∧Q (.bl b) H∧
  ((∃ u,ZBC c u∧(∀ i,c≠.int i)∧(∀ i,c≠.str i)∧(∀ i,c≠.byt i)∧(∀ i,c≠.flt i)∧PySem.W.kitOne K (.ref C) u=some b)∨∃ p cs us,c=.ref p∧H p=some (.tup cs)∧ZBJ cs us∧(∀ vs,ZBJ cs vs→vs=us)∧PySem.W.kitAny K (.ref C) us=some b)
end
end L2
namespace L2
open PySem PySem.Spec PyProof.Rows
section
variable {X:Cx}{es:List Expr}{te:TE}{t:TA}{pos:Pos}
theorem ZAp {a0:List Expr}{a1:Nat}(ha:PE X (Expr.Tuple a0 a1 pos) te)(hr:PA X es t):PA X ((Expr.Tuple a0 a1 pos)::es) (ZET te t):=ZCb ha hr rfl
theorem ZEz {a0:List Expr}(ha:PE X (Expr.List a0 pos) te)(hr:PA X es t):PA X ((Expr.List a0 pos)::es) (ZET te t):=ZCb ha hr rfl
theorem ZAX {a0:Expr}{a1:Operator}{a2:Expr}(ha:PE X (Expr.BinOp a0 a1 a2 pos) te)(hr:PA X es t):PA X ((Expr.BinOp a0 a1 a2 pos)::es) (ZET te t):=ZCb ha hr rfl
theorem ZAg {a0:Expr}{a1:List Expr}{a2:List Keyword}(ha:PE X (Expr.Call a0 a1 a2 pos) te)(hr:PA X es t):PA X ((Expr.Call a0 a1 a2 pos)::es) (ZET te t):=ZCb ha hr rfl
theorem ZAA {a0:Str}(ha:PE X (Expr.Name a0 pos) te)(hr:PA X es t):PA X ((Expr.Name a0 pos)::es) (ZET te t):=ZCb ha hr rfl
theorem ZAH {a0:Const}{a1:Nat}(ha:PE X (Expr.Constant a0 a1 pos) te)(hr:PA X es t):PA X ((Expr.Constant a0 a1 pos)::es) (ZET te t):=ZCb ha hr rfl
theorem ZAR {a0:Expr}{a1:Expr}(ha:PE X (Expr.Subscript a0 a1 pos) te)(hr:PA X es t):PA X ((Expr.Subscript a0 a1 pos)::es) (ZET te t):=ZCb ha hr rfl
theorem ZGJ {a0:UnaryOp}{a1:Expr}(ha:PE X (Expr.UnaryOp a0 a1 pos) te)(hr:PA X es t):PA X ((Expr.UnaryOp a0 a1 pos)::es) (ZET te t):=ZCb ha hr rfl
theorem ZCg {a0:Expr}{a1:List CmpOp}{a2:List Expr}(ha:PE X (Expr.Compare a0 a1 a2 pos) te)(hr:PA X es t):PA X ((Expr.Compare a0 a1 a2 pos)::es) (ZET te t):=ZCb ha hr rfl
theorem ZLF {a0:BoolOp}{a1:List Expr}(ha:PE X (Expr.BoolOp a0 a1 pos) te)(hr:PA X es t):PA X ((Expr.BoolOp a0 a1 pos)::es) (ZET te t):=ZCb ha hr rfl
theorem ZDK {a0:Expr}{a1:List Comprehension}{a2:Scope}(ha:PE X (Expr.ListComp a0 a1 a2 pos) te)(hr:PA X es t):PA X ((Expr.ListComp a0 a1 a2 pos)::es) (ZET te t):=ZCb ha hr rfl
end
end L2
namespace L2
open PySem PySem.Spec PyProof.Rows
section
variable {X:Cx}
abbrev rPow:R2:=rI ZRY fun i j=>.int (i ^ j.toNat)
abbrev rSubI:R2:=rI0 fun i j=>.int (i-j)
end
end L2
namespace L2
open PySem PySem.Spec PyProof.Rows
def Its (z:Str):It:=⟨fun i _=>i<z.cps.size,fun i H x H'=>H'=H∧∃ c,z.cps[i]?=some c∧x=.str ⟨#[c]⟩,fun i _=>i=z.cps.size⟩
theorem ZIQ {P:Program}{w:World}{K:PySem.W.Frag}{tg:Expr}(it:Addr)(x:Str)(t:Tok)(ty:String)
    (hW:∀ A':Around,A'.handled=none→Walks P w A' it [it] [it] x.cps.size (SignAt x) (fun i h=>h.IsStrIter it ty x t i))
    (hn:["enumerate","zip","dict_itemiterator","dict_reverseitemiterator","odict_iterator","itertools.zip_longest","itertools.pairwise"].contains ty=false)
    (hS:∀ (A:Around) (i:Nat) (s:Shared) (Q:Value→Shared→Prop) (E:Value→Shared→Prop),s.heap.IsStrIter it ty x t i→Q (.ref it) s→wpAny (model P w) A (pyIter (.ref it)) Q E s):
    ZLC P w K tg (Its x) [it] it (fun i h=>h.IsStrIter it ty x t i) where
  mem:=by simp
  obj:=fun i h st b hb=>by
    have e:b=it:=by simpa using hb
    subst e
    obtain ⟨o,e,c,d⟩:=st
    exact ⟨o,e,fun v z=>by rw [d] at z;cases z⟩
  keep:=fun i h h' st k=>let ⟨o,e,r⟩:=st;⟨o,k it (by simp) o e,r⟩
  item:=by
    intro X hP hw hK hc i pins s σ H E I hf st hg
    subst hP hw hK
    obtain ⟨f0,f1,f2,f3,f4,f5⟩:=hf it (by simp)
    refine (hW X.A (I.ok.hd hc)).item i s _ _ hg st fun v h' tk hv st' kk=>?_
    obtain ⟨c,u,hcu,rfl⟩:=hv
    have I1:Inv X pins σ H { s with heap:=h',toks:=tk }:=I.turned (fun b o hb e=>kk b o (by simpa using hb) e) f0 f1 f3 f4 f5
    obtain ⟨o,e,cc,d⟩:=id st'
    exact ⟨_,rfl,ZIu (s:={ s with heap:=h',toks:=tk }) e cc d hn ⟨.str ⟨#[c]⟩,H,I1,⟨u,rfl⟩,⟨rfl,c,hcu,rfl⟩,st',fun b hb=>(hf b hb).1⟩⟩
  done:=by
    intro X hP hw hK hc i pins s σ H E I hf st hg
    subst hP hw hK
    obtain ⟨f0,f1,f2,f3,f4,f5⟩:=hf it (by simp)
    have hg:i=x.cps.size:=hg
    subst hg
    exact (hW X.A (I.ok.hd hc)).done s _ _ st fun h' tk kk=>⟨rfl,I.turned (fun b o hb e=>kk b o (by simpa using hb) e) f0 f1 f3 f4 f5⟩
  self:=fun A i s Q E st h=>hS A i s Q E st h
section
variable {X:Cx}{tg:Expr}
def iStr (tl:TE):TI:=fun σ H R=>tl σ H fun x H1=>∃ z,x=.str z∧R (Its z) H1
theorem ZMC {l:Expr}{tl:TE}(hl:PE X l tl):PI X tg l (iStr tl):=by
  intro pins s σ H R I h
  refine thn (hl pins s σ H _ I h) fun v s1 zq=>?_
  obtain ⟨x,H1,I1,r1,q1⟩:=zq
  obtain ⟨z,e,q⟩:=q1
  subst e
  obtain ⟨t,rfl⟩:=r1
  have fp:∀ b∈[s1.heap.objs.size],ZGs X pins H1 b:=fun b hb=>by
    have e:b=s1.heap.objs.size:=by simpa using hb
    subst e
    exact I1.fpOk (Nat.le_refl _) (I1.hok.fresh (Nat.le_refl _))
  cases ha:z.cps.all (·<128)
  · refine wpAny_pyIter_wide ha ?_
    exact ⟨s1.heap.objs.size,[s1.heap.objs.size],_,_,H1,rfl,I1.kept (t':=s1.toks) fun b o e=>Heap.get?_push_of_some _ e,
      ZIQ _ z t "str_iterator" (fun A' hA=>Walks.strWide hA _ z t) (by decide) (fun A i s Q E st h=>wpAny_pyIter_striter_wide st h),⟨_,Heap.get?_push_size _ rfl,rfl,rfl⟩,fp,q⟩
  · refine wpAny_pyIter_ascii ha ?_
    exact ⟨s1.heap.objs.size,[s1.heap.objs.size],_,_,H1,rfl,I1.kept (t':=s1.toks) fun b o e=>Heap.get?_push_of_some _ e,
      ZIQ _ z t "str_ascii_iterator" (fun A' hA=>Walks.strAscii hA _ z t) (by decide) (fun A i s Q E st h=>wpAny_pyIter_striter_ascii st h),⟨_,Heap.get?_push_size _ rfl,rfl,rfl⟩,fp,q⟩
end
theorem ZDs:∀ (bs:List Bool),(List.range bs.length).all (fun i=>bs.getD i true)=bs.all id
  | []=>rfl
  | b::bs=>by
    have ih:=ZDs bs
    rw [List.length_cons,List.range_succ_eq_map,List.all_cons,List.all_map,List.all_cons]
    simp only [List.getD_cons_zero,id]
    rw [← ih]
    rfl
theorem ZBJ.bools:∀ {bs:List Bool} {us:List Value} {i:Nat} {v:Value},ZBJ (bs.map V.bl) us→us[i]?=some v→v=.bool (bs.getD i true)
  | [],_,_,_,.nil,e=>by simp at e
  | b::bs,_,0,_,.cons r _,e=>by
    have e':=Option.some.inj e
    subst e'
    exact r
  | b::bs,_,i+1,v,.cons _ t,e=>by
    have:=ZBJ.bools (i:=i) (v:=v) t (by simpa using e)
    simpa using this
section
variable {X:Cx}
theorem ZGK (hc:X.calm=true):ZD9 X (.builtin "all") (fun xs H Q=>∃ (p:Addr) (bs:List Bool),xs=[.ref p]∧SqL X.K H p (bs.map V.bl)∧Q (.bl (bs.all id)) H):=by
  intro pins s σ H xs us Q I r h
  obtain ⟨p,bs,rfl,hq,q⟩:=h
  obtain ⟨u,rfl,rx⟩:=ZFk r
  cases rx
  obtain ⟨its,rv,pl,hz⟩:=I.list hq
  have hl:=rv.length
  rw [List.length_map] at hl
  have hlt:p<s.heap.objs.size:=by obtain ⟨o,e,_⟩:=pl.isList;exact Heap.lt_size e
  have hne:p≠s.heap.objs.size:=Nat.ne_of_lt hlt
  refine call_all_walk (wpAny_pyIter_list pl.isList ⟨s.heap.objs.size,[s.heap.objs.size,p],[s.heap.objs.size],its.toArray.size,_,_,fun i=>bs.getD i true,rfl,
    Walks.list (A:=X.A.in1) (show X.A.in1.handled=none from I.ok.hd hc) s.heap.objs.size p hne its.toArray,⟨⟨_,Heap.get?_push_size _ rfl,rfl,rfl⟩,pl.isList.at fun o e=>Heap.get?_push_of_some _ e⟩,?_,fun h' tk kk=>?_⟩)
  · intro i v s' Q' E' hP hQ
    have e:=ZBJ.bools rv (show its[i]?=some v by simpa using hP)
    subst e
    exact wpAny_truthy_bool hQ
  · have hsz:its.toArray.size=bs.length:=by rw [List.size_toArray,← hl]
    rw [hsz,ZDs]
    exact ⟨.bl _,H,I.kept fun b o e=>kk b o (by simp;exact Nat.ne_of_lt (Heap.lt_size e)) (Heap.get?_push_of_some _ e),rfl,q⟩
theorem ZGL:bootBuiltins "all"=some (.builtin "all"):=by decide +kernel
def PJ (X:Cx)(es:List Expr)(t:Str→TE):Prop:=
  ∀ (acc:Str) (pins:List (Addr×Obj)) (s:Shared) (σ:St) (H:Hp) (Q:VK),Inv X pins σ H s→t acc σ H Q→wpAny (model X.prog X.w) X.A (joinParts acc (evalEach es X.env)) (EP X pins σ Q) X.xe s
def jNil:Str→TE:=fun acc _ H Q=>acc.length≤sizeLine∧Q (.str acc) H
def jStr (y:Str)(t:Str→TE):Str→TE:=fun acc σ H Q=>(acc++y).length≤sizeLine∧t (acc++y) σ H Q
def ZOF:V→Str→Prop
  | .str z,y=>y=z∧z.length≤sizeLine
  | .int i,y=>y=toString i∧i.natAbs.log2<1920
  | _,_=>False
def jFmt (te:TE)(t:Str→TE):Str→TE:=fun acc σ H Q=>te σ H fun x H1=>∃ y,ZOF x y∧(acc++y).length≤sizeLine∧t (acc++y) σ H1 Q
theorem ZMD:PJ X [] jNil:=fun acc pins s σ H Q I h=>joinParts_nil ⟨.str acc,H,I.tok _,⟨_,rfl⟩,h.2⟩ h.1
theorem ZME {y:Str}{k:Nat}{pos:Pos}{es:List Expr}{t:Str→TE}(h:PJ X es t):PJ X (.Constant (.str y) k pos::es) (jStr y t):=by
  intro acc pins s σ H Q I hq
  refine joinParts_cons (Calls.Constant_str ⟨hq.1,?_⟩)
  exact h _ pins _ σ H Q (I.tok _) hq.2
theorem ZHC {e:Expr}{te:TE}{pos:Pos}{es:List Expr}{t:Str→TE}(he:PE X e te)(h:PJ X es t):PJ X (.FormattedValue e (-1) none pos::es) (jFmt te t):=by
  intro acc pins s σ H Q I hq
  refine joinParts_cons (FormattedValue_plain (thn (he pins s σ H _ I hq) fun v s1 zq=>?_))
  obtain ⟨x,H1,I1,r1,y,f,hz,q⟩:=zq
  cases x with
  | str z=>
    obtain ⟨tk,rfl⟩:=r1
    obtain ⟨rfl,hl⟩:=f
    exact formatField_str (fun t' tk=>⟨hz,h _ pins _ σ H1 Q (I1.tok _) q⟩) hl
  | int i=>
    obtain ⟨tk,rfl⟩:=r1
    obtain ⟨rfl,hl⟩:=f
    exact wpAny_formatField_int hl ⟨hz,h _ pins _ σ H1 Q (I1.tok _) q⟩
  | _=>exact False.elim f
theorem ZHD {v₁ v₂:Expr}{ZEu:List Expr}{pos:Pos}{t:Str→TE}(h:PJ X (v₁::v₂::ZEu) t):PE X (.JoinedStr (v₁::v₂::ZEu) pos) (t Str.empty):=by
  intro pins s σ H Q I hq
  exact JoinedStr_many (h Str.empty pins s σ H Q I hq)
def ZPw (te:TE):TE:=fun σ H Q=>te σ H fun x H1=>∃ y,ZOF x y∧Q (.str y) H1
theorem ZI3 {e:Expr}{te:TE}{pos pos':Pos}(he:PE X e te):PE X (.JoinedStr [.FormattedValue e (-1) none pos] pos') (ZPw te):=by
  intro pins s σ H Q I hq
  refine JoinedStr_one (FormattedValue_plain (thn (he pins s σ H _ I hq) fun v s1 zq=>?_))
  obtain ⟨x,H1,I1,r1,y,f,q⟩:=zq
  cases x with
  | str z=>
    obtain ⟨tk,rfl⟩:=r1
    obtain ⟨rfl,hl⟩:=f
    exact formatField_str (fun t' tk=>⟨.str _,H1,I1.tok _,⟨_,rfl⟩,q⟩) hl
  | int i=>
    obtain ⟨tk,rfl⟩:=r1
    obtain ⟨rfl,hl⟩:=f
    exact wpAny_formatField_int hl ⟨.str _,H1,I1.tok _,⟨_,rfl⟩,q⟩
  | _=>exact False.elim f
def rSlS:V→Option Int→Option Int→Hp→VK→Prop:=fun x lo hi H Q=>∃ z,x=.str z∧z.length≤sizeLine∧Q (.str (Txt.slice z lo hi)) H
theorem ZDL {scope:Scope}{cl:List (Str×Addr)}{C:Addr}{N:List Str}{s₀:Shared}{H₀:Hp}{ex:List Addr}{pn:List (Addr×Obj)}:IxR (ZAr X scope cl C N s₀ H₀ ex pn) (ZPp X.K):=ZAJ
def rNeL (K:PySem.W.Frag):R2:=fun x y H Q=>∃ a b xs ys,x=.ref a∧y=.ref b∧SqL K H a xs∧SqL K H b ys∧xs.all ZCX=true∧ys.all ZCX=true∧Q (.bl (!ZEx xs ys)) H
theorem ZOG (hu:X.A.units<cLine):OpR X (compareOp .NotEq) (rNeL X.K):=by
  intro pins s σ H x y v u Q I rx ry h
  obtain ⟨a,b,xs,ys,rfl,rfl,ha,hb,f1,f2,q⟩:=h
  cases rx
  cases ry
  obtain ⟨its,r1,p1,_⟩:=I.list ha
  obtain ⟨its2,r2,p2,_⟩:=I.list hb
  have l1:=r1.length
  have l2:=r2.length
  have hv:=ZDE xs ys
  by_cases hs:xs.length=ys.length
  · have hsz:its.toArray.size=its2.toArray.size:=by rw [List.size_toArray,List.size_toArray];omega
    refine SeqAt.RcNeAt.lists (e:=ZEW xs ys) p1.isList p2.isList hsz hu (ZEy (pins:=pins) (σ:=σ) (H:=H) r1 r2 f1 f2) X.prog X.w X.xe _ ⟨.bl _,H,I,rfl,?_⟩
    have e:min xs.length ys.length=xs.length:=by omega
    have e2:(xs.length==ys.length)=true:=by simp [hs]
    rw [e,e2,Bool.and_true] at hv
    rw [List.size_toArray,← l1,hv]
    exact q
  · have hne:(its.toArray.size != its2.toArray.size)=true:=by
      rw [List.size_toArray,List.size_toArray]
      simp;omega
    refine SeqAt.RcNeAt.lists_lengths p1.isList p2.isList hne hu X.prog X.w X.xe _ ⟨.bl true,H,I,rfl,?_⟩
    have e2:(xs.length==ys.length)=false:=by simp [hs]
    rw [e2,Bool.and_false] at hv
    rw [← hv] at q
    exact q
end
end L2
namespace L2
open PySem PySem.Spec PyProof.Rows
def eqL {α:Type}(f:α→α→Bool):List α→List α→Bool
  | [],[]=>true
  | x::xs,y::ys=>f x y&&eqL f xs ys
  | _,_=>false
def ZEE {α:Type}(f:α→α→Bool)(xs ys:List α)(j:Nat):Bool:=match xs[j]?,ys[j]? with
  | some x,some y=>f x y
  | _,_=>false
theorem ZFH {α:Type}(f:α→α→Bool):∀ (xs ys:List α),((List.range (min xs.length ys.length)).all (ZEE f xs ys)&&xs.length==ys.length)=eqL f xs ys
  | [],[]=>by simp [eqL]
  | [],y::ys=>by simp [eqL]
  | x::xs,[]=>by simp [eqL]
  | x::xs,y::ys=>by
    have ih:=ZFH f xs ys
    have hm:min (x::xs).length (y::ys).length=min xs.length ys.length+1:=by simp only [List.length_cons];omega
    rw [hm,ZDr]
    have h2:(fun i=>ZEE f (x::xs) (y::ys) (i+1))=ZEE f xs ys:=by funext i;simp [ZEE]
    have h3:((x::xs).length==(y::ys).length)=(xs.length==ys.length):=by simp
    have h4:ZEE f (x::xs) (y::ys) 0=f x y:=by simp [ZEE]
    rw [h2,h3,h4,Bool.and_assoc,ih,eqL]
inductive Itm where
  | fl (x:V) | tp (xs:List V)
def ZFf (H:Hp):V→Itm→Prop
  | x,.fl y=>x=y∧ZCX y=true
  | x,.tp xs=>∃ q,x=.ref q∧H q=some (.tup xs)∧xs.all ZCX=true
def ZCt:Itm→Itm→Bool
  | .fl x,.fl y=>eqV x y
  | .tp xs,.tp ys=>ZEx xs ys
  | _,_=>false
section
variable {X:Cx}{pins:List (Addr×Obj)}{σ:St}{H:Hp}{s:Shared}
theorem ZJu (I:Inv X pins σ H s)(hu:X.A.units+1<cLine){x y:V}{u v:Value}{i j:Itm}(rx:ZBC x u)(ry:ZBC y v)(hx:ZFf H x i)(hy:ZFf H y j):SeqAt.EqAt X.A.in1 s u v (ZCt i j):=by
  have hu1:X.A.in1.units<cLine:=hu
  cases i with
  | fl a=>
    obtain ⟨rfl,fa⟩:=hx
    cases j with
    | fl b=>
      obtain ⟨rfl,fb⟩:=hy
      exact ZJp rx ry fa fb
    | tp ys=>
      obtain ⟨q,rfl,hq,_⟩:=hy
      cases ry
      obtain ⟨its,_,p,_⟩:=I.tuple (SqT.of hq)
      cases x with
      | non=>cases rx;exact SeqAt.EqAt.none_tuple p hu1
      | bl b=>cases rx;exact SeqAt.EqAt.bool_tuple b p hu1
      | int b=>obtain ⟨t,rfl⟩:=rx;exact SeqAt.EqAt.int_tuple b t p hu1
      | str b=>obtain ⟨t,rfl⟩:=rx;exact SeqAt.EqAt.str_tuple b t p hu1
      | _=>exact absurd (show false=true from fa) Bool.false_ne_true
  | tp xs=>
    obtain ⟨q,rfl,hq,fx⟩:=hx
    cases rx
    obtain ⟨its,r1,p,_⟩:=I.tuple (SqT.of hq)
    cases j with
    | fl b=>
      obtain ⟨rfl,fb⟩:=hy
      cases y with
      | non=>cases ry;exact SeqAt.EqAt.tuple_none p hu1
      | bl b=>cases ry;exact SeqAt.EqAt.tuple_bool b p hu1
      | int b=>obtain ⟨t,rfl⟩:=ry;exact SeqAt.EqAt.tuple_int b t p hu1
      | str b=>obtain ⟨t,rfl⟩:=ry;exact SeqAt.EqAt.tuple_str b t p hu1
      | _=>exact absurd (show false=true from fb) Bool.false_ne_true
    | tp ys=>
      obtain ⟨q2,rfl,hq2,fy⟩:=hy
      cases ry
      obtain ⟨its2,r2,p2,_⟩:=I.tuple (SqT.of hq2)
      by_cases e:q=q2
      · subst e
        rw [hq] at hq2
        cases hq2
        have hs:ZEx xs xs=true:=by
          have:∀ l:List V,l.all ZCX=true→ZEx l l=true:=by
            intro l
            induction l with
            | nil=>intro _;rfl
            | cons a r ih=>
              intro f
              rw [List.all_cons,Bool.and_eq_true] at f
              have ea:eqV a a=true:=by
                cases a <;> first | rfl | exact absurd (show false=true from f.1) Bool.false_ne_true | simp [eqV]
              show (eqV a a&&ZEx r r)=true
              rw [ea,ih f.2];rfl
          exact this xs fx
        show SeqAt.EqAt _ _ _ _ (ZEx xs xs)
        rw [hs]
        exact SeqAt.EqAt.same _
      · have rc:=SeqAt.RcAt.tuples (A:=X.A.in1) (s:=s) (e:=ZEW xs ys) (show s.heap.IsTuple q its.toArray from p) (show s.heap.IsTuple q2 its2.toArray from p2) hu1 (ZEy (pins:=pins) (σ:=σ) (H:=H) r1 r2 fx fy)
        rw [List.size_toArray,List.size_toArray,← r1.length,← r2.length,ZDE] at rc
        exact SeqAt.EqAt.of_refs e rc
def rEqN (neg:Bool):R2:=fun x y H Q=>∃ a b xs ys is js,x=.ref a∧y=.ref b∧H a=some (.tup xs)∧H b=some (.tup ys)∧Paired (ZFf H) xs is∧Paired (ZFf H) ys js∧Q (.bl (if neg then !eqL ZCt is js else eqL ZCt is js)) H
theorem ZBA {α β:Type}{F:α→β→Prop}:∀ {xs:List α} {ys:List β},Paired F xs ys→∀ {j:Nat} {x:α},xs[j]?=some x→∃ y,ys[j]?=some y∧F x y:=by
  intro A B h
  induction h with
  | nil=>
    intro j x e
    simp at e
  | cons r t ih=>
    intro j x e
    cases j with
    | zero=>
      simp at e
      subst e
      exact ⟨_,rfl,r⟩
    | succ j=>
      obtain ⟨y,h1,h2⟩:=ih (by simpa using e)
      exact ⟨y,by simpa using h1,h2⟩
theorem ZI4 (I:Inv X pins σ H s)(hu:X.A.units+1<cLine){xs ys:List V}{is js:List Itm}{us vs:List Value}(r1:ZBJ xs us)(r2:ZBJ ys vs)(hx:Paired (ZFf H) xs is)(hy:Paired (ZFf H) ys js):
    ∀ j (h1:j<us.toArray.size) (h2:j<vs.toArray.size),SeqAt.EqAt X.A.in1 s us.toArray[j] vs.toArray[j] (ZEE ZCt is js j):=by
  intro j h1 h2
  have l1:=r1.length
  have l2:=r2.length
  rw [List.size_toArray] at h1 h2
  have ex:xs[j]?=some (xs[j]'(by omega)):=List.getElem?_eq_getElem _
  have ey:ys[j]?=some (ys[j]'(by omega)):=List.getElem?_eq_getElem _
  obtain ⟨u,hu',ru⟩:=r1.get ex
  obtain ⟨v,hv',rv⟩:=r2.get ey
  obtain ⟨i,hi,ai⟩:=ZBA hx ex
  obtain ⟨k,hk,ak⟩:=ZBA hy ey
  have eu:us.toArray[j]'(by simpa using h1)=u:=by
    rw [List.getElem?_eq_getElem h1] at hu'
    simpa using Option.some.inj hu'
  have ev:vs.toArray[j]'(by simpa using h2)=v:=by
    rw [List.getElem?_eq_getElem h2] at hv'
    simpa using Option.some.inj hv'
  rw [eu,ev]
  have e:ZEE ZCt is js j=ZCt i k:=by unfold ZEE;rw [hi,hk]
  rw [e]
  exact ZJu I hu ru rv ai ak
theorem ZMF (hu:X.A.units+1<cLine):OpR X (compareOp .Eq) (rEqN false):=by
  intro pins s σ H x y v u Q I rx ry h
  obtain ⟨a,b,xs,ys,is,js,rfl,rfl,ha,hb,hx,hy,q⟩:=h
  cases rx
  cases ry
  obtain ⟨its,r1,p1,_⟩:=I.tuple (SqT.of ha)
  obtain ⟨its2,r2,p2,_⟩:=I.tuple (SqT.of hb)
  refine SeqAt.eq_tupleAt (e:=ZEE ZCt is js) (show s.heap.IsTuple a its.toArray from p1) (show s.heap.IsTuple b its2.toArray from p2) (Nat.lt_of_succ_lt hu) (ZI4 I hu r1 r2 hx hy) ⟨.bl _,H,I,rfl,?_⟩
  rw [List.size_toArray,List.size_toArray,← r1.length,← r2.length,Paired.length hx,Paired.length hy,ZFH]
  exact q
def rInN:R2:=fun x y H Q=>∃ p us,x=.non∧y=.ref p∧H p=some (.lst us)∧(∀ u∈us,∃ q xs,u=.ref q∧H q=some (.tup xs))∧Q (.bl false) H
theorem ZLG:∀ {xs:List V} {us:List Value},ZBJ xs us→∀ u∈us,∃ x∈xs,ZBC x u:=by
  intro A B h
  induction h with
  | nil=>
    intro u hu
    cases hu
  | cons r t ih=>
    intro u hu
    rcases List.mem_cons.mp hu with rfl | hu
    · exact ⟨_,List.mem_cons_self ..,r⟩
    · obtain ⟨x,hx,rx⟩:=ih u hu
      exact ⟨x,List.mem_cons_of_mem _ hx,rx⟩
def ZRm (tf:TE)(ok:Addr→Sp→Prop)(t:TA):TE:=fun σ H Q=>tf σ H fun x H1=>∃ f sp,x=.ref f∧ok f sp∧t σ H1 fun vs H2=>sp (vs++[]) H2 Q E0
end
end L2
namespace L2
open PySem PySem.Spec PyProof.Rows
theorem ZLH {X:Cx}{elt iter:Expr}{ifs:List Expr}{x:Str}{px pos:Pos}{scope:Scope}{cl:List (Str×Addr)}{fv:List Str}{js:List Nat}{wi:TI}{tt:TT}{te:TE}(hc:X.calm=true)(hclos:closureFor scope X.env=pure cl)
    (S:ZCC X scope cl x fv js) (hi:PI X (.Name x px) iter wi)
    (ht:∀ (C:Addr) (s₀:Shared) (H₀:Hp) (ex:List Addr) (pn:List (Addr×Obj)),PF (ZAr X scope cl C (x::fv) s₀ H₀ ex pn) ifs tt)
    (he:∀ (C:Addr) (s₀:Shared) (H₀:Hp) (ex:List Addr) (pn:List (Addr×Obj)),PE (ZAr X scope cl C (x::fv) s₀ H₀ ex pn) elt te)
    (hs:∀ x,foldedSetIterable iter X.env x=pure x) {use:Option (Value→Sem Unit)} {QQ:Value→Shared→Prop} {pins:List (Addr×Obj)} {s:Shared} {σ:St} {H:Hp} {Q:VK} (I:Inv X pins σ H s) (h:ZMy wi js tt te σ H Q)
    (hfin:∀ (D:Addr) (s3:Shared) (H3:Hp) (fp:List Addr) (pn:List (Addr×Obj)) (N:List Str) (pins':List (Addr×Obj)) (σ':St) (H':Hp) (s':Shared),Inv X pins σ H3 s3→(∀ b∈fp,ZGs X pins H3 b)→
      Inv (ZAr X scope cl s3.heap.objs.size N s3 H3 fp pn) pins' σ' H' s'→Q (.ref D) H'→compPost (model X.prog X.w) X.A X.xe use QQ (.ref D) s3.heap.objs.size (.ok .next) s'):
    wpAny (model X.prog X.w) X.A (comprehension (.ListComp elt [⟨.Name x px,iter,ifs,0⟩] scope pos) scope X.env (firstIterPos [⟨.Name x px,iter,ifs,0⟩] pos) (newList []) (firstAsync [⟨.Name x px,iter,ifs,0⟩]) (firstIter [⟨.Name x px,iter,ifs,0⟩] X.env) use) QQ X.xe s:=by
  refine wpAny_comprehension_free (use:=use) rfl hs hclos S.kind S.nm (thn (hi pins s σ H _ I h) fun v s1 h1=>thn h1 fun itv s2 h2=>?_)
  obtain ⟨it,fp,tn,J,H2,e,I2,T,st2,f2,hW⟩:=h2
  subst e
  have hD:H2 s2.heap.objs.size=none:=I2.hok.fresh (Nat.le_refl _)
  obtain ⟨W,⟨m0,w0⟩,turn⟩:=hW s2.heap.objs.size hD
  have lt2:∀ b∈fp,b<s2.heap.objs.size:=fun b hb=>by
    obtain ⟨o,e,_⟩:=T.obj _ _ st2 b hb
    exact Heap.lt_size e
  refine wpAny_newObj_type (wpAny_newFunctionEnv S.nc (by intro y hy;simp at hy) (fun h₁ hns₁ hsb₁=>?_) S.kind)
  dsimp only at hns₁ hsb₁ ⊢
  have I3:Inv X pins σ (upd H2 s2.heap.objs.size (.lst [])) { s2 with heap:=s2.heap.push { cls:=.type "list",dict:=none,data:=.seq ([]:List Value).toArray } }:=I2.lnew (t':=s2.toks) .nil (Nat.zero_le _)
  generalize hS3:({ s2 with heap:=s2.heap.push { cls:=.type "list",dict:=none,data:=.seq ([]:List Value).toArray } }:Shared)=s3 at I3
  have eh:s3.heap=s2.heap.push { cls:=.type "list",dict:=none,data:=.seq ([]:List Value).toArray }:=by rw [← hS3]
  rw [← eh] at hns₁ hsb₁ ⊢
  have hsz:s3.heap.objs.size=s2.heap.objs.size+1:=by rw [eh,Heap.size_push]
  have k23:∀ b o,s2.heap.get? b=some o→s3.heap.get? b=some o:=fun b o e=>by rw [eh];exact Heap.get?_push_of_some _ e
  have k34:∀ b o,s3.heap.get? b=some o→h₁.get? b=some o:=fun b o e=>hsb₁.extBut b o (Nat.ne_of_lt (Heap.lt_size e)) (Heap.get?_push_of_some _ e)
  have f3:∀ b∈fp,ZGs X pins (upd H2 s2.heap.objs.size (.lst [])) b:=fun b hb=>⟨by rw [ZAa (Nat.ne_of_lt (lt2 b hb))];exact (f2 b hb).1,(f2 b hb).2⟩
  have lt3:∀ b∈fp,b<s3.heap.objs.size:=fun b hb=>by rw [hsz];exact Nat.lt_succ_of_lt (lt2 b hb)
  have I4:=ZF3 (tk:=s3.toks) S I3 f3 lt3 (h₁:=h₁) (by simpa using hns₁) k34
  generalize hY:ZAr X scope cl s3.heap.objs.size (x::fv) s3 (upd H2 s2.heap.objs.size (.lst [])) fp (X.pn++pins)=Y at I4
  have hYp:Y.prog=X.prog:=by rw [← hY];rfl
  have hYw:Y.w=X.w:=by rw [← hY];rfl
  have hYK:Y.K=X.K:=by rw [← hY];rfl
  have hYA:Y.A=X.A:=by rw [← hY];rfl
  have hYc:Y.calm=true:=by rw [← hY];exact hc
  have hYe:Y.env=compEnvC scope cl s3.heap.objs.size X.env:=by rw [← hY];rfl
  have hYx:Y.xe=fun _ _=>False:=by rw [← hY];rfl
  have hYN:Y.N=x::fv:=by rw [← hY];rfl
  have heY:PE Y elt te:=by rw [← hY];exact he _ _ _ _ _
  have htY:PF Y ifs tt:=by rw [← hY];exact ht _ _ _ _ _
  have stat:∀ {H':Hp},(∀ b∈fp,H' b=none)→∀ b∈fp,ZGs Y [] H' b:=fun {H'} hn b hb=>by
    obtain ⟨g0,g1,g2,g3,g4,g5⟩:=f3 b hb
    rw [← hY]
    refine ⟨hn b hb,Nat.ne_of_lt (lt3 b hb),fun z=>?_,.inl hb,fun y c e=>g4 y c (S.cell_of e),fun p hp=>g5 p (by simpa [ZAr] using hp)⟩
    rcases List.mem_cons.mp (I3.stkSub b z) with q | q
    · exact g1 q
    · exact g2 q
  have fin:∀ {i:Nat} {m:Nat} {σ':St} {H':Hp} {s':Shared},Inv Y [] σ' H' s'→Q (.ref s2.heap.objs.size) H'→compPost (model X.prog X.w) X.A X.xe use QQ (.ref s2.heap.objs.size) s3.heap.objs.size (.ok .next) s':=fun {i m σ' H' s'} J q=>by
    rw [← hY] at J
    exact hfin _ _ _ _ _ _ _ _ _ _ I3 f3 J q
  have st4:∀ s4:Shared,s4={ s3 with heap:=h₁,toks:=s3.toks }→tn 0 s4.heap:=fun s4 e=>by
    subst e
    exact T.keep _ _ _ st2 fun b hb o e=>k34 b o (k23 b o e)
  have loop:codeAny (model X.prog X.w) X.A (.compLoop (.ListComp elt [⟨.Name x px,iter,ifs,0⟩] scope pos) 0 (.ref it) (.ref s2.heap.objs.size) (compEnvC scope cl s3.heap.objs.size X.env))
      (compPost (model X.prog X.w) X.A X.xe use QQ (.ref s2.heap.objs.size) s3.heap.objs.size) { s3 with heap:=h₁,toks:=s3.toks }:=by
    refine ZDy (fun n s'=>∃ (i:Nat) (o:Option V) (H':Hp),Inv Y [] (o::frv js σ) H' s'∧tn i s'.heap∧(∀ b∈fp,H' b=none)∧W i n H') ?_ m0 ⟨0,none,_,I4,st4 _ rfl,fun b hb=>(f3 b hb).1,w0⟩
    rintro n s5 ⟨i,o,H5,I5,st5,fr5,w5⟩
    rcases turn i n H5 w5 with ⟨stop,q⟩ | ⟨go,step⟩
    · have r:=T.done Y hYp hYw hYK hYc i [] s5 _ H5 (fun _ _=>False) I5 (stat fr5) st5 stop
      rw [hYA] at r
      refine thn r fun r s6 zq=>?_
      obtain ⟨hr,I6⟩:=zq
      subst hr
      exact fin (i:=i) (m:=n) I6 q
    · have r:=T.item Y hYp hYw hYK hYc i [] s5 _ H5 (fun _ _=>False) I5 (stat fr5) st5 go
      rw [hYA] at r
      refine thn r fun r s6 zq=>?_
      obtain ⟨u,hr,h6⟩:=zq
      subst hr
      refine thn h6 fun _ s7 zq=>?_
      obtain ⟨y,H7,I7,r7,y7,st7,fr7⟩:=zq
      have I7':=I7.pinned (stat fr7) (T.obj _ _ st7)
      have hname:PG Y (.Name x px) (ZE8 0):=ZA2 (X:=Y) (i:=0) (by rw [hYN];exact S.nd) (by rw [hYN];rfl) (.inl (by rw [hYe];exact lookup_relabel_local S.hx)) (.inr (by rw [hYe];exact lookup_relabel_local S.hx))
      have r8:=hname _ s7 _ H7 y u (fun σ' H'=>σ'=some y::frv js σ∧H'=H7) I7' r7 ⟨rfl,rfl⟩
      rw [hYp,hYw,hYA,hYe,hYx] at r8
      refine thn r8 fun _ s8 zq=>?_
      obtain ⟨σ8,H8,I8,e1,e2⟩:=zq
      subst e1 e2
      have r9:=htY _ s8 _ _ _ I8 (step y _ y7)
      rw [hYp,hYw,hYA,hYe,hYx] at r9
      refine thn r9 fun b s9 zq=>?_
      obtain ⟨H9,I9,q9⟩:=zq
      have again:∀ {σ':St} {H':Hp} {s':Shared},Inv Y ([]++ZFA fp s7.heap) (some y::frv js σ) H' s'→(∃ m',m'<n∧W (i+1) m' H')→
          ∃ m,m<n∧∃ (i:Nat) (o:Option V) (H':Hp),Inv Y [] (o::frv js σ) H' s'∧tn i s'.heap∧(∀ b∈fp,H' b=none)∧W i m H':=fun {σ' H' s'} K7 ⟨m',hm,w7⟩=>by
        refine ⟨m',hm,i+1,some y,H',K7.unpinned,T.keep _ _ _ st7 fun b hb o e=>(K7.pin (b,o) (List.mem_append_right _ (List.mem_append_right _ (ZB2 hb e)))).1,fun b hb=>?_,w7⟩
        obtain ⟨o,e,d⟩:=T.obj _ _ st7 b hb
        exact (K7.pin (b,o) (List.mem_append_right _ (List.mem_append_right _ (ZB2 hb e)))).2.1
      cases b with
      | false=>
        rw [if_neg Bool.false_ne_true] at q9 ⊢
        exact again (σ':=[]) I9 q9
      | true=>
        rw [if_pos rfl] at q9 ⊢
        have r10:=heY _ s9 _ _ _ I9 q9
        rw [hYp,hYw,hYA,hYe,hYx] at r10
        refine thn r10 fun v s10 zq=>?_
        obtain ⟨y10,H10,I10,ry,xs,hxs,hlen,m',hm,w10⟩:=zq
        have r11:=ZBK (X:=Y) _ s10 _ H10 (.ref s2.heap.objs.size) [y10] (.ref s2.heap.objs.size) [v] (fun _ H'=>H'=upd H10 s2.heap.objs.size (.lst (xs++[y10]))) I10 rfl (.cons ry .nil) ⟨_,xs,y10,rfl,rfl,hxs,hlen,rfl⟩
        rw [hYp,hYw,hYA,hYx] at r11
        refine thn r11 fun _ s11 zq=>?_
        obtain ⟨_,H11,I11,_,e11⟩:=zq
        subst e11
        exact again (σ':=[]) I11 ⟨m',hm,w10⟩
  have loop':∀ s4:Shared,s4={ s3 with heap:=h₁,toks:=s3.toks }→codeAny (model X.prog X.w) X.A (.compLoop (.ListComp elt [⟨.Name x px,iter,ifs,0⟩] scope pos) 0 (.ref it) (.ref s2.heap.objs.size) (compEnvC scope cl s3.heap.objs.size X.env))
      (compPost (model X.prog X.w) X.A X.xe use QQ (.ref s2.heap.objs.size) s3.heap.objs.size) s4:=fun s4 e=>by subst e;exact loop
  have e4:∀ t,t=s3.toks→({ s3 with heap:=h₁,toks:=t }:Shared)={ s3 with heap:=h₁,toks:=s3.toks }:=fun t e=>by rw [e]
  have fin4:∀ s4:Shared,s4={ s3 with heap:=h₁,toks:=s3.toks }→codeAny (model X.prog X.w) X.A (.compStart (.ListComp elt [⟨.Name x px,iter,ifs,0⟩] scope pos) 0 (.ref it) (.ref s2.heap.objs.size) (compEnvC scope cl s3.heap.objs.size X.env))
      (compPost (model X.prog X.w) X.A X.xe use QQ (.ref s2.heap.objs.size) s3.heap.objs.size) s4:=fun s4 e=>
    codeAny_compStart_list (loop' s4 e) (T.self X.A 0 s4 _ _ (st4 s4 e) (loop' s4 e))
  have es:({ s2 with heap:=s2.heap.push { cls:=.type "list",dict:=none,data:=.seq ([]:List Value).toArray } }:Shared)=s3:=hS3
  refine fin4 _ ?_
  rw [← es]
  rfl
theorem ZMz {X:Cx}{i:Nat}{y:Str}{elt iter:Expr}{ifs:List Expr}{x:Str}{px pos py spos:Pos}{scope:Scope}{cl:List (Str×Addr)}{fv:List Str}{js:List Nat}{wi:TI}{tt:TT}{te:TE}(hN:X.N.Nodup)(hi0:X.N[i]?=some y)(hy:X.env.scope.names.lookup y=some .local)
    (hc:X.calm=true) (hclos:closureFor scope X.env=pure cl)
    (S:ZCC X scope cl x fv js) (hi:PI X (.Name x px) iter wi)
    (ht:∀ (C:Addr) (s₀:Shared) (H₀:Hp) (ex:List Addr) (pn:List (Addr×Obj)),PF (ZAr X scope cl C (x::fv) s₀ H₀ ex pn) ifs tt)
    (he:∀ (C:Addr) (s₀:Shared) (H₀:Hp) (ex:List Addr) (pn:List (Addr×Obj)),PE (ZAr X scope cl C (x::fv) s₀ H₀ ex pn) elt te)
    (hs:∀ x,foldedSetIterable iter X.env x=pure x:=by intro _;rfl)
    (hsw:swapsWith (.ListComp elt [⟨.Name x px,iter,ifs,0⟩] scope pos) (some (.Name y py)) spos.line X.env=pure true:=by rfl):
    PS X (.Assign [.Name y py] (.ListComp elt [⟨.Name x px,iter,ifs,0⟩] scope pos) spos) (ZPe (ZMy wi js tt te) (ZE8 i)):=by
  intro pins s σ H D I h
  rw [exec_Assign_Name_used _ _ _ _ hsw]
  refine wpAny_bind (wpAny_standAt (wpAny_bind ?_))
  rw [arm_evalThenUse_ListComp]
  refine wpAny_bind (ZLH (Q:=fun v H1=>D.nx (σ.set i (some v)) H1) hc hclos S hi ht he hs I h ?_)
  intro L s3 H3 fp pn N pins' σ' H' s' I3 f3 J q
  obtain ⟨mm,hn,_⟩:=id J.loc
  have sb0:Heap.SameBut s3.heap.objs.size s'.heap s'.heap:=⟨rfl,fun _ _=>rfl⟩
  have I':Inv X pins σ H' s':=ZGI I3 f3 J sb0
  have ok:=I3.fpOk (H':=H') (Nat.le_refl _) (show H' s3.heap.objs.size=none from J.free)
  obtain ⟨f0,f1,f2,f4,f5,f6⟩:=ok
  refine wpAny_assign_Name (ZGw I' hN hi0 (.inl hy) (v:=.ref L) rfl (fun s2 I2 zq=>?_) (.inr hy))
  obtain ⟨a,hsb,ha⟩:=zq
  have nac:s3.heap.objs.size≠a:=fun z=>by
    rcases ha with ha | ha
    · exact f1 (z.trans ha)
    · exact f5 _ _ ha z.symm
  refine ⟨mm,hn.sameBut hsb nac,fun h'' sb=>?_⟩
  have I4:Inv X pins (σ.set i (some (.ref L))) H' { s2 with heap:=h'' }:=I2.turned (t':=s2.toks) (fun b o hb e=>(sb.2 b hb).trans e) f0 f1 f4 f5 f6
  exact wpAny_pure (wpAny_pure ⟨_,H',I4,q⟩)
end L2
namespace L2
open PySem PySem.Spec PyProof.Rows
section
variable {X:Cx}
def rMulS:R2:=fun x y H Q=>∃ z n,x=.str z∧y=.int n∧MulOk z n∧Q (.str (Txt.mul z n)) H
theorem ZF4:fillsNumberSlot (.type "tuple") "mul"=pure false:=
  PySem.fillsNumberSlot_seq (id:="tuple.__mul__") (r:=some (.builtin "tuple.__rmul__")) F.slot_tuple_mul.lookup (by decide +kernel) F.slot_tuple_rmul.lookup (by decide +kernel)
theorem ZF5:seqRepeat? (.type "tuple")=pure (some (.builtin "tuple.__mul__")):=by
  unfold seqRepeat?
  rw [PySem.seqSlot_of (T:="tuple") (name:="__mul__") (id:="tuple.__mul__") F.slot_tuple_mul.lookup (by decide +kernel),
    PySem.seqSlot_of (T:="tuple") (name:="__rmul__") (id:="tuple.__rmul__") F.slot_tuple_rmul.lookup (by decide +kernel)]
  rfl
theorem ZIR (a:Int)(t:Tok)(l:Addr)(its:Array Value)(n:Nat)(dd:Option Addr)(sl:Array (Option Value)):
    Meets (Builtin.«int.__rmul__» ⟨[.int a t,.ref l],[]⟩) (fun _ R s=>s.heap.get? l=some ⟨.type "tuple",dd,.seq its n,sl⟩∧R (.ok (.ret Value.notImplemented)) s):=
  .of_wp fun prog w A R s h=>by
    obtain ⟨hp,g,d,tk,os⟩:=s
    obtain ⟨hl,h⟩:=h
    wp_walk
    exact ⟨_,rfl,h⟩
def rDbl:R2:=fun x y H Q=>∃ t v,x=.ref t∧y=.int 2∧H t=some (.tup [v])∧∀ p,H p=none→Q (.ref p) (upd H p (.tup [v,v]))
end
end L2
namespace L2
open PySem PySem.Spec PyProof.Rows
section
variable {κ:Type}[DecidableEq κ]
def ZDh (kvs:List (κ×V))(k:κ):Option V:=(kvs.find? fun kv=>decide (kv.1=k)).map (·.2)
def ZGM (kvs:List (κ×V))(k:κ)(v:V):List (κ×V):=
  if (kvs.any fun kv=>decide (kv.1=k))=true then kvs.map (fun kv=>if kv.1=k then (kv.1,v) else kv) else kvs++[(k,v)]
def ZM0 (kvs:List (κ×V))(k:κ):List (κ×V):=kvs.filter fun kv=>decide (kv.1≠k)
theorem ZBl {p:κ×V}{r:List (κ×V)}{k:κ}(e:p.1=k):ZDh (p::r) k=some p.2:=by simp [ZDh,List.find?_cons,e]
theorem ZBf {p:κ×V}{r:List (κ×V)}{k:κ}(e:¬ p.1=k):ZDh (p::r) k=ZDh r k:=by simp [ZDh,List.find?_cons,e]
theorem ZEF (k:κ):∀ kvs:List (κ×V),(kvs.any fun kv=>decide (kv.1=k))=(ZDh kvs k).isSome
  | []=>rfl
  | p::r=>by
    rw [List.any_cons]
    by_cases e:p.1=k
    · simp only [ZBl e,decide_eq_true e,Bool.true_or,Option.isSome_some]
    · rw [ZBf e,decide_eq_false e,Bool.false_or];exact ZEF k r
theorem ZIS (k j:κ)(y:V):∀ kvs:List (κ×V),ZDh (kvs.map fun kv=>if kv.1=k then (kv.1,y) else kv) j=(ZDh kvs j).map fun x=>if j=k then y else x
  | []=>rfl
  | p::r=>by
    have ih:=ZIS k j y r
    rw [List.map_cons]
    by_cases h:p.1=k
    · rw [if_pos h]
      by_cases e:p.1=j
      · rw [ZBl (p:=(p.1,y)) e,ZBl e,Option.map_some,if_pos (e.symm.trans h)]
      · rw [ZBf (p:=(p.1,y)) e,ZBf e,ih]
    · rw [if_neg h]
      by_cases e:p.1=j
      · rw [ZBl (p:=p) e,ZBl e,Option.map_some,if_neg (fun z=>h (e.trans z))]
      · rw [ZBf (p:=p) e,ZBf e,ih]
theorem ZHE (k j:κ)(y:V):∀ kvs:List (κ×V),ZDh kvs k=none→ZDh (kvs++[(k,y)]) j=if j=k then some y else ZDh kvs j
  | [],_=>by
    by_cases e:k=j
    · rw [if_pos e.symm];exact ZBl (p:=(k,y)) e
    · rw [if_neg (fun z=>e z.symm)];exact ZBf (p:=(k,y)) e
  | p::r,hn=>by
    rw [List.cons_append]
    have hk:¬ p.1=k:=fun z=>by rw [ZBl z] at hn;cases hn
    rw [ZBf hk] at hn
    have ih:=ZHE k j y r hn
    by_cases e:p.1=j
    · rw [ZBl e,ZBl e,if_neg (fun z=>hk (e.trans z))]
    · rw [ZBf e,ZBf e,ih]
theorem ZIT (kvs:List (κ×V))(k j:κ)(y:V):ZDh (ZGM kvs k y) j=if j=k then some y else ZDh kvs j:=by
  unfold ZGM
  by_cases a:(kvs.any fun kv=>decide (kv.1=k))=true
  · rw [if_pos a,ZIS]
    rw [ZEF] at a
    by_cases e:j=k
    · obtain ⟨x,hx⟩:=Option.isSome_iff_exists.mp a
      rw [if_pos e,e,hx,Option.map_some,if_pos rfl]
    · rw [if_neg e]
      cases ZDh kvs j with
      | none=>rfl
      | some x=>rw [Option.map_some,if_neg e]
  · rw [if_neg a]
    refine ZHE k j y kvs ?_
    rw [ZEF] at a
    cases q:ZDh kvs k with
    | none=>rfl
    | some x=>rw [q] at a;exact (a rfl).elim
theorem ZDz (kvs:List (κ×V))(k:κ)(v:V):(ZGM kvs k v).length≤kvs.length+1:=by
  unfold ZGM
  split
  · rw [List.length_map];omega
  · rw [List.length_append,List.length_cons,List.length_nil];omega
theorem ZIt.isSome_eq {o:Option V}{u:Option Value}(r:ZIt o u):o.isSome=u.isSome:=by
  cases o with
  | none=>cases u with
    | none=>rfl
    | some _=>exact (show False from r).elim
  | some _=>cases u with
    | none=>exact (show False from r).elim
    | some _=>rfl
theorem ZIt.getD {o:Option V}{u:Option Value}{d:V}{d':Value}(r:ZIt o u)(rd:ZBC d d'):ZBC (o.getD d) (u.getD d'):=by
  cases o with
  | none=>cases u with
    | none=>exact rd
    | some _=>exact (show False from r).elim
  | some _=>cases u with
    | none=>exact (show False from r).elim
    | some _=>exact r
theorem KV.val {kvs:List (κ×V)}{vs:List (κ×Value)}(r:KV kvs vs)(k:κ):ZIt (ZDh kvs k) (valueAt vs k):=by
  unfold KV at r
  induction r with
  | nil=>exact True.intro
  | @cons p q ps qs h t ih=>
    obtain ⟨h1,h2⟩:=h
    by_cases e:p.1=k
    · have e':q.1=k:=h1.symm.trans e
      have b:valueAt (q::qs) k=some q.2:=by simp [valueAt,List.find?_cons,e']
      rw [ZBl e,b];exact h2
    · have e':¬ q.1=k:=fun z=>e (h1.trans z)
      have b:valueAt (q::qs) k=valueAt qs k:=by simp [valueAt,List.find?_cons,e']
      rw [ZBf e,b];exact ih
theorem KV.any {kvs:List (κ×V)}{vs:List (κ×Value)}(r:KV kvs vs)(k:κ):(kvs.any fun kv=>decide (kv.1=k))=vs.any fun kv=>decide (kv.1=k):=by
  unfold KV at r
  induction r with
  | nil=>rfl
  | cons h t ih=>rw [List.any_cons,List.any_cons,ih,h.1]
theorem KV.repl {kvs:List (κ×V)}{vs:List (κ×Value)}(r:KV kvs vs)(k:κ){y:V}{u:Value}(ry:ZBC y u):
    KV (kvs.map fun kv=>if kv.1=k then (kv.1,y) else kv) (vs.map fun kv=>if kv.1=k then (kv.1,u) else kv):=by
  unfold KV at r ⊢
  induction r with
  | nil=>exact .nil
  | @cons p q ps qs h t ih=>
    rw [List.map_cons,List.map_cons]
    refine .cons ?_ ih
    obtain ⟨h1,h2⟩:=h
    by_cases e:p.1=k
    · rw [if_pos e,if_pos (h1.symm.trans e)];exact ⟨h1,ry⟩
    · rw [if_neg e,if_neg (fun z=>e (h1.trans z))];exact ⟨h1,h2⟩
theorem KV.put {kvs:List (κ×V)}{vs:List (κ×Value)}(r:KV kvs vs)(k:κ){y:V}{u:Value}(ry:ZBC y u):KV (ZGM kvs k y) (stored vs k u):=by
  unfold ZGM stored
  rw [r.any k]
  by_cases e:(vs.any fun kv=>decide (kv.1=k))=true
  · rw [if_pos e,if_pos e];exact r.repl k ry
  · rw [if_neg e,if_neg e];exact Paired.snoc r ⟨rfl,ry⟩
theorem KV.length {kvs:List (κ×V)}{vs:List (κ×Value)}(r:KV kvs vs):kvs.length=vs.length:=Paired.length r
end
theorem ZJv {P:Program}{w:World}{k:Key}{u:Value}(r:ZBC (kV k) u):(ZBH P w).is k u=true:=by
  cases k with
  | inl i=>obtain ⟨t,e⟩:=(show ∃ t,u=Value.int i t from r);subst e;exact ZHh P w i t
  | inr x=>obtain ⟨t,e⟩:=(show ∃ t,u=Value.str x t from r);subst e;exact ZHi P w x t
theorem ZHF {P:Program}{w:World}:∀ {ks:List Key} {us:List Value},ZBJ (ks.map kV) us→ItemsAre (ZBH P w) ks us
  | [],_,r=>by rw [List.map_nil] at r;cases r;exact .nil
  | k::ks,_,r=>by
    rw [List.map_cons] at r
    cases r with
    | cons h t=>exact .cons (ZJv h) (ZHF t)
abbrev KT (H:Hp):List (List Key×V)→List (List Key×Addr×Value)→Prop:=Paired fun p q=>p.1=q.1∧H q.2.1=some (.tup (p.1.map kV))∧ZBC p.2 q.2.2
theorem KT.val {H:Hp}{kvs:List (List Key×V)}{xs:List (List Key×Addr×Value)}(r:KT H kvs xs)(k:List Key):ZIt (ZDh kvs k) ((atKey xs k).map (·.2)):=by
  induction r with
  | nil=>exact True.intro
  | @cons p q ps qs h t ih=>
    obtain ⟨h1,_,h2⟩:=h
    by_cases e:p.1=k
    · have e':q.1=k:=h1.symm.trans e
      have b:atKey (q::qs) k=some q.2:=by simp [atKey,List.find?_cons,e']
      rw [ZBl e,b];exact h2
    · have e':¬ q.1=k:=fun z=>e (h1.trans z)
      have b:atKey (q::qs) k=atKey qs k:=by simp [atKey,List.find?_cons,e']
      rw [ZBf e,b];exact ih
theorem KT.repl {H:Hp}{kvs:List (List Key×V)}{xs:List (List Key×Addr×Value)}(r:KT H kvs xs)(k:List Key){y:V}{u:Value}(ry:ZBC y u):
    KT H (kvs.map fun kv=>if kv.1=k then (kv.1,y) else kv) (xs.map (putAt k u)):=by
  induction r with
  | nil=>exact .nil
  | @cons p q ps qs h t ih=>
    rw [List.map_cons,List.map_cons]
    refine .cons ?_ ih
    obtain ⟨h1,h2,h3⟩:=h
    unfold putAt
    by_cases e:p.1=k
    · rw [if_pos e,if_pos (h1.symm.trans e)];exact ⟨h1,h2,ry⟩
    · rw [if_neg e,if_neg (fun z=>e (h1.trans z))];exact ⟨h1,h2,h3⟩
theorem KT.put {H:Hp}{kvs:List (List Key×V)}{xs:List (List Key×Addr×Value)}(r:KT H kvs xs)(k:List Key){b:Addr}{y:V}{u:Value}(hb:H b=some (.tup (k.map kV)))(ry:ZBC y u):
    KT H (ZGM kvs k y) (storedH xs k b u):=by
  have e:(kvs.any fun kv=>decide (kv.1=k))=(atKey xs k).isSome:=by
    rw [ZEF,(r.val k).isSome_eq,Option.isSome_map]
  unfold ZGM storedH
  rw [e]
  by_cases q:(atKey xs k).isSome=true
  · rw [if_pos q,if_pos q];exact r.repl k ry
  · rw [if_neg q,if_neg q];exact Paired.snoc r ⟨rfl,hb,ry⟩
theorem KT.keeps {H H':Hp}{kvs:List (List Key×V)}{xs:List (List Key×Addr×Value)}(r:KT H kvs xs)(ht:∀ b ys,H b=some (.tup ys)→H' b=some (.tup ys)):KT H' kvs xs:=
  Paired.mapP r fun _ _ z=>⟨z.1,ht _ _ z.2.1,z.2.2⟩
section
variable {P:Program}{w:World}{H:Hp}{h:Heap}{a:Addr}
theorem ZOH {u:HO}(ok:HOk P w H h)(e:Rd H a u):ZBx P w H h a u:=e.ok ok
theorem ZJw {kvs:List (Key×V)}(ok:HOk P w H h)(e:Rd H a (.dK kvs)):kvs.length≤sizeLine∧(a==sysModules)=false∧∃ vs,KV kvs vs∧h.DictOf (ZBH P w) a vs:=
  show ZBx P w H h a (.dK kvs) from ZOH ok e
theorem ZPx {kvs:List (Key×V)}(ok:HOk P w H h)(e:H a=some (.dK kvs)):kvs.length≤sizeLine∧(a==sysModules)=false∧∃ vs,KV kvs vs∧h.DictOf (ZBH P w) a vs:=ZJw ok (.inl e)
theorem ZIU {ks:List Key}(ok:HOk P w H h)(e:H a=some (.tup (ks.map kV))):(tupleKind (ZBH P w)).is h ks a:=by
  obtain ⟨_,its,r,o,h1,h2,n,h3⟩:=(show ZBx P w H h a (.tup (ks.map kV)) from ok a _ e)
  exact ⟨o,its.toArray,n,h1,h2,h3,by simpa using ZHF r⟩
theorem ZJx {kvs:List (List Key×V)}(ok:HOk P w H h)(e:Rd H a (.dT kvs)):kvs.length≤sizeLine∧(a==sysModules)=false∧
    ∃ xs,KT H kvs xs∧h.DictOfH (tupleKind (ZBH P w)) a xs:=by
  obtain ⟨z,y,xs,r,o,es,ep,h1,h2,h3,h4,h5⟩:=(show ZBx P w H h a (.dT kvs) from ZOH ok e)
  refine ⟨z,y,xs,r,o,es,ep,h1,h2,h3,h4,fun x hx=>?_,h5⟩
  have all:∀ {l:List (List Key×V)} {m:List (List Key×Addr×Value)},KT H l m→∀ x∈m,(tupleKind (ZBH P w)).is h x.1 x.2.1:=by
    intro l m q
    induction q with
    | nil=>intro x hx;exact nomatch hx
    | @cons p q ps qs hq t ih=>
      intro x hx
      rcases List.mem_cons.mp hx with e | hx
      · subst e
        exact ZIU ok (by rw [← hq.1];exact hq.2.1)
      · exact ih x hx
  exact all r x hx
theorem ZPy {kvs:List (List Key×V)}(ok:HOk P w H h)(e:H a=some (.dT kvs)):kvs.length≤sizeLine∧(a==sysModules)=false∧
    ∃ xs,KT H kvs xs∧h.DictOfH (tupleKind (ZBH P w)) a xs:=ZJx ok (.inl e)
end
def ZHe (H:Hp)(a:Addr)(y:V)(r:Option V):Prop:=
  (∃ kvs k,Rd H a (.dK kvs)∧y=kV k∧r=ZDh kvs k)∨∃ kvs k b,Rd H a (.dT kvs)∧y=.ref b∧H b=some (.tup (k.map kV))∧r=ZDh kvs k
def ZLI (H:Hp)(a:Addr)(y v:V)(H':Hp):Prop:=
  (∃ kvs k,H a=some (.dK kvs)∧y=kV k∧kvs.length<sizeLine∧H'=upd H a (.dK (ZGM kvs k v)))∨
  ∃ kvs k b,H a=some (.dT kvs)∧y=.ref b∧H b=some (.tup (k.map kV))∧kvs.length<sizeLine∧H'=upd H a (.dT (ZGM kvs k v))
theorem ZHe.k {H:Hp}{a:Addr}{kvs:List (Key×V)}{k:Key}(e:H a=some (.dK kvs)):ZHe H a (kV k) (ZDh kvs k):=.inl ⟨kvs,k,.inl e,rfl,rfl⟩
theorem ZHe.t {H:Hp}{a b:Addr}{kvs:List (List Key×V)}{k:List Key}(e:H a=some (.dT kvs))(eb:H b=some (.tup (k.map kV))):ZHe H a (.ref b) (ZDh kvs k):=.inr ⟨kvs,k,b,.inl e,rfl,eb,rfl⟩
theorem ZLI.k {H:Hp}{a:Addr}{kvs:List (Key×V)}{k:Key}{v:V}(e:H a=some (.dK kvs))(hl:kvs.length<sizeLine):ZLI H a (kV k) v (upd H a (.dK (ZGM kvs k v))):=.inl ⟨kvs,k,e,rfl,hl,rfl⟩
theorem ZLI.t {H:Hp}{a b:Addr}{kvs:List (List Key×V)}{k:List Key}{v:V}(e:H a=some (.dT kvs))(eb:H b=some (.tup (k.map kV)))(hl:kvs.length<sizeLine):
    ZLI H a (.ref b) v (upd H a (.dT (ZGM kvs k v))):=.inr ⟨kvs,k,b,e,rfl,eb,hl,rfl⟩
section
variable {X:Cx}{pins:List (Addr×Obj)}{σ:St}{H:Hp}{s:Shared}{a:Addr}{y v:V}{u r:Value}{o:Option V}{A:Around}{E:Value→Shared→Prop}
theorem Inv.big (I:Inv X pins σ H s):sysModules<s.heap.objs.size:=by
  have h:mainGlobals<s.heap.objs.size:=(I.mod.glob.keeps I.bk).lt
  exact Nat.lt_trans (by decide) h
theorem ZJy {Q:Value→Shared→Prop}(hu:A.units+1<cLine)(I:Inv X pins σ H s)(g:ZHe H a y (some v))(ry:ZBC y u)(h:∀ w' s',Inv X pins σ H s'→ZBC v w'→Q w' s'):
    wpAny (model X.prog X.w) A (getItem (.ref a) u) Q E s:=by
  rcases g with ⟨kvs,k,e,ey,l⟩ | ⟨kvs,k,b,e,ey,eb,l⟩
  · subst ey
    obtain ⟨z,hd,vs,rel,dd⟩:=ZJw I.hok e
    obtain ⟨w',hw,rw'⟩:=ZIt.some_of (v:=v) (o:=valueAt vs k) (by rw [l];exact rel.val k)
    exact wpAny_getItem_of (ZJv ry) dd.mapOf hw (h w' _ (I.tok _) rw')
  · subst ey
    cases (show u=Value.ref b from ry)
    obtain ⟨z,hd,xs,rel,dd⟩:=ZJx I.hok e
    obtain ⟨w',hw,rw'⟩:=ZIt.some_of (v:=v) (o:=(atKey xs k).map (·.2)) (by rw [l];exact rel.val k)
    obtain ⟨p,hp,hp2⟩:=Option.map_eq_some_iff.mp hw
    refine wpAny_getItem_heap (tupleKind_room_in1 hu) (ZIU I.hok eb) dd hp ?_
    rw [hp2]
    exact h w' _ (I.tok _) rw'
theorem ZJz {h':Heap}{t':Nat}{ob:HO}(I:Inv X pins σ H s)(mu:Mut (H a))(hs:Heap.SameBut a s.heap h')(he:∃ q,h'.get? a=some q)(new:ZBx X.prog X.w (upd H a ob) h' a ob):
    Inv X pins σ (upd H a ob) { s with heap:=h',toks:=t' }:=
  I.write (x:=a) (e:=a) mu (.inl rfl) (fun b q hb z=>(hs.2 b hb).trans z) he new
theorem ZOI {P:Program}{w:World}{H':Hp}{h':Heap}{kvs:List (Key×V)}{vs:List (Key×Value)}(z:kvs.length≤sizeLine)(hd:(a==sysModules)=false)(rel:KV kvs vs)(dd:h'.DictOf (ZBH P w) a vs):
    ZBx P w H' h' a (.dK kvs):=⟨z,hd,vs,rel,dd⟩
theorem ZJ0 {H':Hp}{Q:Unit→Shared→Prop}(hu:A.units+1<cLine)(I:Inv X pins σ H s)(g:ZLI H a y v H')(ry:ZBC y u)(rv:ZBC v r)(h:∀ s',Inv X pins σ H' s'→Q () s'):
    wpAny (model X.prog X.w) A (setItem (.ref a) u r) Q E s:=by
  rcases g with ⟨kvs,k,e,ey,l,eH⟩ | ⟨kvs,k,b,e,ey,eb,l,eH⟩
  · subst ey eH
    obtain ⟨z,hd,vs,rel,dd⟩:=ZPx I.hok e
    have hz:vs.length≤sizeLine:=by rw [← rel.length];exact z
    have hl:(ZGM kvs k v).length≤sizeLine:=by have:=ZDz kvs k v;omega
    refine wpAny_setItem_pairs (hsz:=hz) (ZJv ry) dd fun h' dd' hs=>h _ ?_
    have he:∃ q,h'.get? a=some q:=let ⟨q,_,_,hq,_⟩:=dd';⟨q,hq⟩
    exact ZJz I (by rw [e];exact True.intro) hs he (ZOI hl hd (rel.put k rv) dd')
  · subst ey eH
    cases (show u=Value.ref b from ry)
    obtain ⟨z,hd,xs,rel,dd⟩:=ZPy I.hok e
    have hz:xs.length≤sizeLine:=by rw [← Paired.length rel];exact z
    have hl:(ZGM kvs k v).length≤sizeLine:=by have:=ZDz kvs k v;omega
    refine wpAny_setItem_heap (hsz:=hz) (tupleKind_room_in1 hu) (ZIU I.hok eb) dd fun h' dd' hs=>h _ ?_
    obtain ⟨q,es,ep,hq,h2,h3,h4,_,h5⟩:=dd'
    refine ZJz I (by rw [e];exact True.intro) hs ⟨q,hq⟩ ⟨hl,hd,_,(rel.put k eb rv).keeps fun c ys ec=>?_,q,es,ep,hq,h2,h3,h4,h5⟩
    rw [ZAa (ZCH ec e (fun z=>nomatch z))]
    exact ec
end
section
variable {X:Cx}{pins:List (Addr×Obj)}{σ:St}{H:Hp}{s:Shared}{a:Addr}{kvs:List (Key×V)}{k:Key}{u:Value}{A:Around}{E:Value→Shared→Prop}
end
def ZRn (i:Expr):Prop:=∀ ov iv,subscripted i false ov iv=operate [ov,iv] (getItem ov iv)
theorem ZM1 {prog:Program}{w:World}{A:Around}{E:Value→Shared→Prop}{s:Shared}{env:Env}{value slice:Expr}{pos:Pos}{T id:String}{Q:Value→Shared→Prop}
    (hl:typeLookup (.type T) "__getitem__"=pure (some (.builtin id))) (hs:ZRn slice)
    (h:wpAny (model prog w) A (eval value env) (fun o s₁=>wpAny (model prog w) A (eval slice env) (fun i s₂=>s₂.TypeIs o T∧wpAny (model prog w) A (getItem o i) Q E s₂) E s₁) E s):
    wpAny (model prog w) A (eval (.Subscript value slice pos) env) Q E s:=by
  refine Subscript_ (wpAny_mono h (fun o s₁ h₁=>wpAny_mono h₁ (fun i s₂ h₂=>?_) fun _ _ x=>x) fun _ _ x=>x)
  obtain ⟨hT,h₂⟩:=h₂
  unfold subscriptTail
  refine wpAny_bind ?_
  rw [getitemInPython_of_ne hT.not_modules]
  refine wpAny_bind (wpAny_specialOf hT hl ?_)
  have fin:wpAny (model prog w) A (subscripted slice false o i) (fun r s₃=>wpAny (model prog w) A (letTemporaryGo value o r >>= fun _=>pure r) Q E s₃) E s₂:=by
    rw [hs o i]
    exact wpAny_operating (wpAny_mono h₂ (fun r s₃ h₃=>wpAny_bind (wpAny_letTemporaryGo (wpAny_pure h₃))) fun _ _ x=>x)
  first
    | exact wpAny_pure (wpAny_bind fin)
    | exact wpAny_bind (wpAny_pure (wpAny_bind fin))
    | exact wpAny_bind fin
theorem ZHo {X:Cx}{pins:List (Addr×Obj)}{σ:St}{H:Hp}{s:Shared}{a:Addr}{y:V}{o:Option V}(I:Inv X pins σ H s)(g:ZHe H a y o):s.TypeIs (.ref a) "dict":=by
  rcases g with ⟨kvs,k,e,_,_⟩ | ⟨kvs,k,b,e,_,_,_⟩
  · obtain ⟨_,_,vs,_,dd⟩:=ZJw I.hok e
    exact dd.typeIs
  · obtain ⟨_,_,xs,_,dd⟩:=ZJx I.hok e
    exact dd.typeIs
def ZPz (td ty:TE):TE:=fun σ H Q=>td σ H fun x H1=>ty σ H1 fun y H2=>∃ a v,x=.ref a∧ZHe H2 a y (some v)∧Q v H2
def tDIn (ty td:TE):TE:=fun σ H Q=>ty σ H fun y H1=>td σ H1 fun x H2=>∃ a o,x=.ref a∧ZHe H2 a y o∧Q (.bl o.isSome) H2
def ZP0 (ty td:TE):TE:=fun σ H Q=>ty σ H fun y H1=>td σ H1 fun x H2=>∃ a o,x=.ref a∧ZHe H2 a y o∧Q (.bl (!o.isSome)) H2
def ZP1 (td ty tv:TE):TS:=fun D σ H=>tv σ H fun v H1=>td σ H1 fun x H2=>ty σ H2 fun y H3=>∃ a H4,x=.ref a∧ZLI H3 a y v H4∧D.nx σ H4
def sDAug (td ty tv:TE)(rd:V→V→Hp→VK→Prop):TS:=fun D σ H=>td σ H fun x H1=>ty σ H1 fun y H2=>∃ a v,x=.ref a∧ZHe H2 a y (some v)∧
  tv σ H2 fun y2 H3=>rd v y2 H3 fun z H4=>∃ H5,ZLI H4 a y z H5∧D.nx σ H5
def sDDel (td ty:TE):TS:=fun D σ H=>td σ H fun x H1=>ty σ H1 fun y H2=>∃ a kvs k,x=.ref a∧H2 a=some (.dK kvs)∧y=kV k∧(ZDh kvs k).isSome=true∧D.nx σ (upd H2 a (.dK (ZM0 kvs k)))
section
variable {X:Cx}{o i e value:Expr}{pos pos' tpos:Pos}{td ty tv:TE}
theorem ZJ1 (hu:X.A.units+1<cLine)(ho:PE X o td)(hi:PE X i ty)(hs:ZRn i):PE X (.Subscript o i pos) (ZPz td ty):=by
  intro pins s σ H Q I h
  refine ZM1 PySem.F.slot_dict_getitem.lookup hs (thn (ho pins s σ H _ I h) fun u s1 ⟨x,H1,I1,rx,q1⟩=>thn (hi pins s1 σ H1 _ I1 q1) fun iv s2 zq=>?_)
  obtain ⟨y,H2,I2,ry,a,v,ex,g,q2⟩:=zq
  subst ex
  obtain rfl:u=Value.ref a:=rx
  exact ⟨ZHo I2 g,ZJy hu I2 g ry fun w' s3 I3 rw'=>⟨v,H2,I3,rw',q2⟩⟩
theorem ZJ2 (hu:X.A.units+1<cLine)(ho:PE X o td)(hi:PE X i ty)(hv:PE X value tv)(hs:swapsWith value (some (.Subscript o i pos')) pos.line X.env=pure false):
    PS X (.Assign [.Subscript o i pos'] value pos) (ZP1 td ty tv):=by
  intro pins s σ H D I h
  refine wpAny_Assign_Subscript (thn (hv pins s σ H _ I h) fun r s1 ⟨v,H1,I1,rv,q1⟩=>thn (ho pins s1 σ H1 _ I1 q1) fun u s2 ⟨x,H2,I2,rx,q2⟩=>thn (hi pins s2 σ H2 _ I2 q2) fun iv s3 zq=>?_) hs
  obtain ⟨y,H3,I3,ry,a,H4,ex,g,q3⟩:=zq
  subst ex
  obtain rfl:u=Value.ref a:=rx
  exact ZJ0 hu I3 g ry rv fun s4 I4=>⟨σ,H4,I4,q3⟩
end
theorem ZLJ {P:Program}{w:World}{H:Hp}(h:Heap)(hb:sysModules<h.objs.size):ZBx P w H (h.push { cls:=.type "dict",data:=.dict #[] }) h.objs.size (.dK []):=
  ⟨Nat.zero_le _,beq_eq_false_iff_ne.mpr (Ne.symm (Nat.ne_of_lt hb)),[],.nil,Heap.DictOf.new h⟩
theorem ZLK {P:Program}{w:World}{H:Hp}(h:Heap)(hb:sysModules<h.objs.size):ZBx P w H (h.push { cls:=.type "dict",data:=.dict #[] }) h.objs.size (.dT []):=
  ⟨Nat.zero_le _,beq_eq_false_iff_ne.mpr (Ne.symm (Nat.ne_of_lt hb)),[],.nil,_,#[],0,Heap.get?_push_size _ rfl,⟨rfl,rfl,rfl⟩,rfl,rfl,List.nodup_nil⟩
def ZOJ:TE:=fun _ H Q=>∀ p,H p=none→Q (.ref p) (upd H p (.dK []))
def ZOK:TE:=fun _ H Q=>∀ p,H p=none→Q (.ref p) (upd H p (.dT []))
section
variable {X:Cx}{pos:Pos}
theorem ZLL:PE X (.Dict [] [] pos) ZOJ:=fun pins s σ H Q I h=>
  wpAny_Dict_empty ⟨.ref s.heap.objs.size,_,I.laid (a:=s.heap.objs.size) (o:=.dK []) (t':=s.toks) (fun _ _ q=>Heap.get?_push_of_some _ q) (Nat.le_refl _) (ZLJ s.heap I.big),rfl,h _ (I.hok.fresh (Nat.le_refl _))⟩
theorem ZLM:PE X (.Dict [] [] pos) ZOK:=fun pins s σ H Q I h=>
  wpAny_Dict_empty ⟨.ref s.heap.objs.size,_,I.laid (a:=s.heap.objs.size) (o:=.dT []) (t':=s.toks) (fun _ _ q=>Heap.get?_push_of_some _ q) (Nat.le_refl _) (ZLK s.heap I.big),rfl,h _ (I.hok.fresh (Nat.le_refl _))⟩
end
end L2
namespace L2
open PySem PySem.Spec PyProof.Rows
section
variable {P:Program}{w:World}{A:Around}{E:Value→Shared→Prop}{s:Shared}{d it:Addr}{o:Obj}{es:Array DictEntry}{ep i:Nat}
structure ZOL (h:Heap)(d:Addr)(o:Obj)(es:Array DictEntry)(ep:Nat):Prop where
  at_:h.get? d=some o
  ex:o.ExactDict
  data:o.data=.dict es ep
theorem ZOL.ty (x:ZOL s.heap d o es ep):s.TypeIs (.ref d) "dict":=⟨o,x.at_,x.ex.1⟩
theorem ZLN {Q:Value→Shared→Prop}(x:ZOL s.heap d o es ep)(hd:(d==sysModules)=false)
    (hQ:Q (.ref s.heap.objs.size) { s with heap:=s.heap.push { cls:=.type "dict_keyiterator",data:=.fields #[.ref d,.int 0 0,.int es.size 0,.int ep 0] } }):
    wpAny (model P w) A (pyIter (.ref d)) Q E s:=by
  refine wpAny_pyIter_slot x.ty F.slot_dict_iter (wpAny_call_entry F.slot_dict_iter x.ty F.entry_dict_iter ?_ (F.args_dict_iter_1 _))
  unfold Builtin.«dict.__iter__» Builtin.Dict.dictSlotNone
  refine wpAny_bind (wpAny_bind (wpAny_notOrdered_dict x.ty (wpAny_pure (a:=Value.ref d) ?_)))
  show wpAny _ _ (Builtin.Dict.showsAll d >>= _) _ _ s
  unfold Builtin.Dict.showsAll
  rw [if_neg (by rw [hd];exact Bool.false_ne_true)]
  refine wpAny_bind (wpAny_pure (wpAny_bind (wpAny_dictEntries x.at_ x.data (wpAny_bind (wpAny_dictEpoch x.at_ x.data ?_)))))
  refine wpAny_bind (wpAny_newObj_type (wpAny_pure ⟨_,rfl,"dict_keyiterator",_,⟨_,Heap.get?_push_size _ rfl,rfl⟩,F.slot_dict_keyiterator_next.lookup,?_⟩))
  simpa [rawInt] using hQ
theorem ZLO {Q:Option Value→Shared→Prop}{e:DictEntry}(hit:s.heap.IsKeyIter it d i es.size ep)(x:ZOL s.heap d o es ep)(he:es[i]?=some e)
    (hQ:∀ h',h'.IsKeyIter it d (i+1) es.size ep→Heap.SameBut it s.heap h'→Q (some e.key) { s with heap:=h' }):
    wpAny (model P w) A (pyNext (.ref it)) Q E s:=by
  obtain ⟨oi,ho,hc,hd⟩:=id hit
  unfold pyNext
  refine wpAny_bind (wpAny_attempt (wpAny_callSpecial?_slot (name:=Str.ofString "__next__") hit.typeIs F.slot_dict_keyiterator_next
    (wpAny_call_entry F.slot_dict_keyiterator_next hit.typeIs F.entry_dict_keyiterator_next (wpAny_bind (wpAny_pure (wpAny_bind (wpAny_bind ?_)))) (F.args_dict_keyiterator_next_1 _))))
  first | refine wpAny_bind (wpAny_typeNameOfWhole_keyiter hit.typeIs (wpAny_pure ?_)) | refine wpAny_bind (wpAny_typeNameOf_keyiter hit.typeIs (wpAny_pure ?_))
  refine wpAny_bind (wpAny_fieldsOf ho hd ?_)
  simp only [show Builtin.Dict_items.ownsTuple "dict_keyiterator"=false by decide,Bool.false_eq_true,if_false]
  show wpAny _ _ (if (Value.ref d==Value.none)=true then _ else _) _ _ s
  rw [if_neg (show ¬ ((Value.ref d==Value.none)=true) from Bool.false_ne_true)]
  refine wpAny_bind (wpAny_pure (wpAny_bind (wpAny_dictEntries x.at_ x.data ?_)))
  rw [if_neg (by simp)]
  refine wpAny_bind (wpAny_pure (wpAny_bind (wpAny_dictEpoch x.at_ x.data ?_)))
  rw [if_neg (by simp)]
  refine wpAny_pure ?_
  simp only [show ¬ ((i:Int)<0) from by omega,if_false,Int.toNat_natCast,he]
  refine wpAny_bind ?_
  first | refine wpAny_bind (wpAny_typeNameOfWhole_keyiter hit.typeIs (wpAny_pure ?_)) | refine wpAny_bind (wpAny_typeNameOf_keyiter hit.typeIs (wpAny_pure ?_))
  refine wpAny_bind (wpAny_isOneOf_keyiter hit.typeIs ?_)
  show wpAny _ _ (setField (.ref it) 1 (rawInt ((i:Int)+1)) >>= _) _ _ s
  refine wpAny_bind (wpAny_setField ho hd (by simp) ?_)
  have hit':(s.heap.update it (Obj.mapFields (·.setIfInBounds 1 (rawInt ((i:Int)+1))))).IsKeyIter it d (i+1) es.size ep:=
    ⟨_,Heap.get?_update_self _ ho (Obj.isFreed_of_fields (Obj.data_mapFields hd _)),(Obj.cls_mapFields ..).trans hc,by rw [Obj.data_mapFields hd];simp [rawInt]⟩
  refine wpAny_bind (wpAny_holding (wpAny_bind (wpAny_isOneOf_keyiter (s:={ s with heap:=s.heap.update it (Obj.mapFields (·.setIfInBounds 1 (rawInt ((i:Int)+1)))) }) hit'.typeIs ?_)))
  show wpAny _ _ (pure e.key) _ _ _
  exact wpAny_pure (wpAny_pure ⟨_,rfl,wpAny_pure (hQ _ hit' (Heap.SameBut.update ..))⟩)
theorem ZM2 {Q:Option Value→Shared→Prop}(hh:A.handled=none)(hit:s.heap.IsKeyIter it d i es.size ep)(x:ZOL s.heap d o es ep)(he:es.size≤i)
    (hQ:∀ h',Heap.ExtBut it s.heap h'→Q none { s with heap:=h' }):wpAny (model P w) A (pyNext (.ref it)) Q E s:=by
  obtain ⟨oi,ho,hc,hd⟩:=id hit
  unfold pyNext
  refine wpAny_bind (wpAny_attempt (wpAny_callSpecial?_slot (name:=Str.ofString "__next__") hit.typeIs F.slot_dict_keyiterator_next
    (wpAny_call_entry F.slot_dict_keyiterator_next hit.typeIs F.entry_dict_keyiterator_next (wpAny_bind (wpAny_pure (wpAny_bind (wpAny_bind ?_)))) (F.args_dict_keyiterator_next_1 _))))
  first | refine wpAny_bind (wpAny_typeNameOfWhole_keyiter hit.typeIs (wpAny_pure ?_)) | refine wpAny_bind (wpAny_typeNameOf_keyiter hit.typeIs (wpAny_pure ?_))
  refine wpAny_bind (wpAny_fieldsOf ho hd ?_)
  simp only [show Builtin.Dict_items.ownsTuple "dict_keyiterator"=false by decide,Bool.false_eq_true,if_false]
  show wpAny _ _ (if (Value.ref d==Value.none)=true then _ else _) _ _ s
  rw [if_neg (show ¬ ((Value.ref d==Value.none)=true) from Bool.false_ne_true)]
  refine wpAny_bind (wpAny_pure (wpAny_bind (wpAny_dictEntries x.at_ x.data ?_)))
  rw [if_neg (by simp)]
  refine wpAny_bind (wpAny_pure (wpAny_bind (wpAny_dictEpoch x.at_ x.data ?_)))
  rw [if_neg (by simp)]
  refine wpAny_pure ?_
  simp only [show ¬ ((i:Int)<0) from by omega,if_false,Int.toNat_natCast,Array.getElem?_eq_none he]
  refine wpAny_bind ?_
  first | refine wpAny_bind (wpAny_typeNameOfWhole_keyiter hit.typeIs (wpAny_pure ?_)) | refine wpAny_bind (wpAny_typeNameOf_keyiter hit.typeIs (wpAny_pure ?_))
  show wpAny _ _ (setField (.ref it) 0 .none >>= _) _ _ s
  refine wpAny_bind (wpAny_setField ho hd (by simp) ?_)
  show wpAny _ _ (newExc (.type "StopIteration") [] >>= _) _ _ _
  refine wpAny_bind ?_
  simp only [newExc,newTuple]
  refine wpAny_bind (wpAny_newObj_type ?_ (by size_fits))
  refine wpAny_bind (m:=firstArgMember _ _) (wpAny_of_eq (a:=Value.none) (by first | rfl | (simp only [firstArgMember];rfl)) ?_)
  refine wpAny_newObj_type ?_ (by size_fits)
  simp only [raiseNew]
  refine wpAny_bind (wpAny_handled ?_)
  rw [show A.in1.handled=none from hh]
  refine wpAny_bind (wpAny_pure (wpAny_throw ?_))
  refine wpAny_bind (wpAny_isInstance (T:="StopIteration") (b:=true) ⟨_,Heap.get?_push_size _ rfl,rfl⟩ isSubtype_stop ?_)
  exact wpAny_pure (hQ _ (((Heap.SameBut.update ..).extBut.push _).push _))
end
section
variable {X:Cx}{tg:Expr}{pins:List (Addr×Obj)}{σ:St}{H:Hp}{s:Shared}
def Itd (a:Addr)(o:Obj):It:=
  ⟨fun i H=>∃ kvs,H a=some (.frz o (.dT kvs))∧i<kvs.length,
   fun i H x H'=>H'=H∧∀ kvs,H a=some (.frz o (.dT kvs))→∃ ks v b,kvs[i]?=some (ks,v)∧x=.ref b∧H b=some (.tup (ks.map kV)),
   fun i H=>∃ kvs,H a=some (.frz o (.dT kvs))∧kvs.length≤i⟩
def iDT (tl:TE):TI:=fun σ H R=>tl σ H fun x H1=>∃ a kvs,x=.ref a∧H1 a=some (.dT kvs)∧∀ o,R (Itd a o) (upd H1 a (.frz o (.dT kvs)))
end
section
variable {P:Program}{w:World}{A:Around}{E:Value→Shared→Prop}{s:Shared}{d:Addr}{o:Obj}{es:Array DictEntry}{ep:Nat}
end
section
variable {X:Cx}
def rNeE (K:PySem.W.Frag):R2:=fun x y H Q=>∃ a b xs,x=.ref a∧y=.ref b∧SqL K H a xs∧SqL K H b []∧Q (.bl (!xs.isEmpty)) H
theorem ZOM (hu:X.A.units<cLine):OpR X (compareOp .NotEq) (rNeE X.K):=by
  intro pins s σ H x y v u Q I rx ry h
  obtain ⟨a,b,xs,rfl,rfl,ha,hb,q⟩:=h
  cases xs with
  | nil=>exact ZOG hu pins s σ H _ _ v u Q I rx ry ⟨a,b,[],[],rfl,rfl,ha,hb,rfl,rfl,q⟩
  | cons x0 xs=>
    cases rx
    cases ry
    obtain ⟨its,r1,p1,_⟩:=I.list ha
    obtain ⟨its2,r2,p2,_⟩:=I.list hb
    have l1:=r1.length
    have l2:=r2.length
    have hne:(its.toArray.size != its2.toArray.size)=true:=by
      rw [List.size_toArray,List.size_toArray,← l1,← l2]
      simp
    exact SeqAt.RcNeAt.lists_lengths p1.isList p2.isList hne hu X.prog X.w X.xe _ ⟨.bl true,H,I,rfl,q⟩
end
end L2
namespace StrT
open PySem PySem.W PyProof.Rows
section
variable {N:Nat}{lt:Nat→Nat→Bool}
def Wp {α:Type}(N:Nat)(lt:Nat→Nat→Bool):KasT α→(α→Prop)→Prop
  | .ret a,P=>P a
  | .ask i j k,P=>i<N∧j<N∧Wp N lt (k (lt i j)) P
structure Ord (lt:Nat→Nat→Bool):Prop where
  tr:∀ a b c,lt b a=false→lt c b=false→lt c a=false
  as:∀ a b,lt a b=true→lt b a=false
def gg (p:Array Nat)(i:Nat):Nat:=p.getD i 0
def Up (lt:Nat→Nat→Bool)(p:Array Nat)(k:Nat):Prop:=∀ i j,i≤j→j<k→lt (gg p j) (gg p i)=false
def Dn (lt:Nat→Nat→Bool)(p:Array Nat)(k:Nat):Prop:=∀ i j,i≤j→j<k→lt (gg p i) (gg p j)=false
structure Bs (N:Nat)(p₀ p:Array Nat):Prop where
  sz:p.size=N
  bd:∀ i,gg p i<N
  pm:p.Perm p₀
def Eqs (lt:Nat→Nat→Bool)(p:Array Nat)(n q:Nat):Prop:=q+1≤n∧∀ i j,n-(q+1)≤i→i<n→n-(q+1)≤j→j<n→lt (gg p i) (gg p j)=false
end
end StrT
namespace L2
open PySem PySem.Spec PyProof.Rows
def plt (p q:Int×Int):Bool:=if p.1=q.1 then decide (p.2<q.2) else decide (p.1<q.1)
def ZRo (h:Heap)(v:Value)(p:Int×Int):Prop:=∃ a t u,v=.ref a∧IsTup h a #[.int p.1 t,.int p.2 u]
theorem ZEf:bootBuiltins "enumerate"=some (.type "enumerate"):=by decide +kernel
abbrev Rise (ps:List (Int×Int)):Prop:=ps.Pairwise fun p q=>plt q p=false
section
variable {P:Program}{w:World}{A:Around}{E:Value→Shared→Prop}{s:Shared}
end
def PrV (H:Hp)(v:V)(p:Int×Int):Prop:=∃ b,v=.ref b∧H b=some (.tup [.int p.1,.int p.2])
abbrev Prs (H:Hp)(vs:List V)(ps:List (Int×Int)):Prop:=Paired (PrV H) vs ps
section
variable {X:Cx}{pins:List (Addr×Obj)}{σ:St}{H:Hp}{s:Shared}
def ZP2 (K:PySem.W.Frag):List V→Hp→VK→Prop:=fun xs H Q=>∃ a vs ps,xs=[V.ref a]∧SqL K H a vs∧Prs H vs ps∧vs.length<64∧∀ l vs' ps',H l=none→Prs H vs' ps'→ps'.Perm ps→Rise ps'→Q (.ref l) (upd H l (.lst vs'))
def Ite (K:PySem.W.Frag)(a:Addr):It:=
  ⟨fun i H=>∃ xs x,SqL K H a xs∧xs[i]?=some x,fun i H y H'=>∃ x b,(∀ xs,SqL K H a xs→xs[i]?=some x)∧H b=none∧y=.ref b∧H'=upd H b (.tup [.int i,x]),fun i H=>∃ xs,SqL K H a xs∧xs.length≤i⟩
theorem ZJ3 {P:Program}{w:World}{K:PySem.W.Frag}{els:List Expr}{x1}{pt:Pos}(a e it:Addr)(hei:e≠it):ZLC P w K (.Tuple els x1 pt) (Ite K a) [e,it] e (fun i h=>h.IsListIter it a i∧∃ old,IsEnum h e it (i:Nat) old) where
  mem:=by simp
  obj:=fun i h st b hb=>by
    obtain ⟨⟨o,h1,c,d⟩,old,h2⟩:=st
    rcases List.mem_cons.mp hb with rfl | hb
    · exact ⟨_,h2,fun v z=>by cases z⟩
    · have eb:b=it:=by simpa using hb
      subst eb
      exact ⟨o,h1,fun v z=>by rw [d] at z;cases z⟩
  keep:=fun i h h' st k=>⟨st.1.at fun o q=>k it (by simp) o q,st.2.imp fun old q=>k e (by simp) _ q⟩
  item:=by
    intro X hP hw hK hc i pins s σ H E I hf st hg
    subst hP hw hK
    obtain ⟨xs,x,hq,hx⟩:=hg
    obtain ⟨hit,old,hen⟩:=st
    obtain ⟨its,rv,p,hz⟩:=I.list hq
    obtain ⟨u,hu,ru⟩:=rv.get hx
    refine wpAny_pyNext_enum_item hen hit p.isList (x:=u) (by simpa using hu) hei fun h1 heo hit1 ht1 hz1 hk1=>⟨_,rfl,?_⟩
    refine wpAny_letOwnedTupleGo_enum (s:={ s with heap:=h1,toks:=s.toks+1 }) heo fun h2 he2 hs2=>?_
    replace hs2:Heap.SameBut e h1 h2:=hs2
    obtain ⟨f0,f1,f2,f3,f4,f5⟩:=hf e (by simp)
    obtain ⟨g0,g1,g2,g3,g4,g5⟩:=hf it (by simp)
    have eH:e<s.heap.objs.size:=Heap.lt_size hen
    obtain ⟨oi0,hoi0,_⟩:=id hit
    have iH:it<s.heap.objs.size:=Heap.lt_size hoi0
    have hit2:h2.IsListIter it a (i+1):=hit1.extBut hs2.extBut (Ne.symm hei)
    obtain ⟨oi,hoi,hci,hdi⟩:=id hit2
    have tup2:h2.get? s.heap.objs.size=some { cls:=.type "tuple",data:=.seq #[.int i s.toks,u] }:=(hs2.2 _ (Nat.ne_of_gt eH)).trans ht1
    have he3:IsEnum h2 e it ((i+1:Nat):Int) u:=by
      have e1:((i+1:Nat):Int)=(i:Int)+1:=by push_cast;rfl
      rw [e1];exact he2
    obtain ⟨mid,hmz,hme,hmo⟩:∃ mid:Heap,mid.objs.size=s.heap.objs.size∧mid.get? e=h2.get? e∧∀ b,b≠e→mid.get? b=s.heap.get? b:=
      ⟨s.heap.update e (fun _=>{ cls:=.type "enumerate",dict:=none,data:=.fields #[.none,.bool false,.ref it,rawInt ((i+1:Nat):Int),.none,u],slots:=#[] }),Heap.size_update ..,(Heap.get?_update_self _ hen (Obj.isFreed_of_fields rfl)).trans he3.symm,fun b hb=>Heap.get?_update_ne _ _ _ _ hb⟩
    have hmi:mid.get? it=some oi0:=(hmo it (Ne.symm hei)).trans hoi0
    obtain ⟨mid2,hnz,hne,hno⟩:∃ mid2:Heap,mid2.objs.size=mid.objs.size∧mid2.get? it=h2.get? it∧∀ b,b≠it→mid2.get? b=mid.get? b:=
      ⟨mid.update it (fun _=>oi),Heap.size_update ..,(Heap.get?_update_self _ hmi (Obj.isFreed_of_fields hdi)).trans hoi.symm,fun b hb=>Heap.get?_update_ne _ _ _ _ hb⟩
    have I1:Inv X pins σ H { s with heap:=mid }:=I.turned (t':=s.toks) (fun b o hb q=>(hmo b hb).trans q) f0 f1 f3 f4 f5
    have I2:Inv X pins σ H { s with heap:=mid2 }:=I1.turned (t':=s.toks) (fun b o hb q=>(hno b hb).trans q) g0 g1 g3 g4 g5
    have k2:∀ b o,mid2.get? b=some o→h2.get? b=some o:=fun b o q=>by
      by_cases c1:b=it
      · subst c1;exact hne.symm.trans q
      · rw [hno b c1] at q
        by_cases c2:b=e
        · subst c2;exact hme.symm.trans q
        · rw [hmo b c2] at q
          exact (hs2.2 b c2).trans (hk1 b o c2 c1 q)
    have fz:mid2.objs.size≤s.heap.objs.size:=by rw [hnz,hmz];exact Nat.le_refl _
    have I3:Inv X pins σ (upd H s.heap.objs.size (.tup [.int i,x])) { s with heap:=h2,toks:=s.toks+1 }:=
      I2.laid (t':=s.toks+1) k2 fz (show ZBx X.prog X.w _ h2 _ (.tup [.int i,x]) from ⟨by show 2≤sizeLine;rw [sizeLine_eq];decide,[.int i s.toks,u],.cons ⟨_,rfl⟩ (.cons ru .nil),⟨_,tup2,rfl,_,rfl⟩⟩)
    refine ⟨.ref s.heap.objs.size,_,I3,rfl,⟨x,s.heap.objs.size,fun ys hy=>by rw [I.list_inj hy hq];exact hx,I.hok.fresh (Nat.le_refl _),rfl,rfl⟩,⟨hit2,u,he3⟩,fun b hb=>?_⟩
    rcases List.mem_cons.mp hb with rfl | hb
    · rw [ZAa (Nat.ne_of_lt eH)];exact f0
    · have eb:b=it:=by simpa using hb
      subst eb
      rw [ZAa (Nat.ne_of_lt iH)];exact g0
  done:=by
    intro X hP hw hK hc i pins s σ H E I hf st hg
    subst hP hw hK
    obtain ⟨xs,hq,hx⟩:=hg
    obtain ⟨hit,old,hen⟩:=st
    obtain ⟨its,rv,p,hz⟩:=I.list hq
    obtain ⟨g0,g1,g2,g3,g4,g5⟩:=hf it (by simp)
    have hl:=rv.length
    exact wpAny_pyNext_enum_end (I.ok.hd hc) hen hit p.isList (by simp;omega) fun h' eb=>⟨rfl,I.turned (t':=s.toks) (fun b o hb e=>eb b o hb e) g0 g1 g3 g4 g5⟩
  self:=fun _ _ _ _ _ st h=>by
    obtain ⟨_,old,q⟩:=st
    exact wpAny_pyIter_enum q h
def ZP3 (K:PySem.W.Frag)(ta:TA):TI:=fun σ H R=>ta σ H fun vs H1=>∃ a,vs=[V.ref a]∧(∃ xs,SqL K H1 a xs)∧R (Ite K a) H1
theorem ZJ4 {a:Expr}{ta:TA}{p pos pt:Pos}{els:List Expr}{x1}(hg:Gl X "enumerate")(hm:X.mg "enumerate"=none)(hv:bootBuiltins "enumerate"=some (.type "enumerate"))(ha:PA X [a] ta)(hs:starEach [a] X.env=[(false,eval a X.env)]:=by rfl):
    PI X (.Tuple els x1 pt) (.Call (.Name "enumerate" p) [a] [] pos) (ZP3 X.K ta):=by
  intro pins s σ H R I h
  refine Call_ (ZDp I hg hm hv (PyProof.Rows.callWith_type1 (thn (ha pos pins s σ H _ I h) fun us s1 zq=>?_) hs rfl))
  obtain ⟨vs,H1,I1,r1,q1⟩:=zq
  obtain ⟨l,e,⟨xs,hq⟩,q⟩:=q1
  subst e
  obtain ⟨u,rfl,ru⟩:=ZFk r1
  cases ru
  obtain ⟨its,rv,pl,hz⟩:=I1.list hq
  refine call_enumerate_list pl.isList fun h' he hit hz' kp=>wpAny_pyIter_enum (s:={ s1 with heap:=h' }) he ?_
  have I2:Inv X pins σ H1 { s1 with heap:=h' }:=I1.kept (t':=s1.toks) kp
  have ge:∀ b∈[s1.heap.objs.size+1,s1.heap.objs.size],s1.heap.objs.size≤b:=fun b hb=>by
    rcases List.mem_cons.mp hb with rfl | hb
    · exact Nat.le_succ _
    · have eb:b=s1.heap.objs.size:=by simpa using hb
      rw [eb];exact Nat.le_refl _
  exact ⟨s1.heap.objs.size+1,_,_,_,H1,rfl,I2,ZJ3 l _ s1.heap.objs.size (Nat.ne_of_gt (Nat.lt_succ_self _)),⟨hit,.none,he⟩,fun b hb=>I1.fpOk (ge b hb) (I1.hok.fresh (ge b hb)),q⟩
theorem ZIV {K:PySem.W.Frag}{a:Addr}{xs:List V}{g:TG}{tb:TS}{D:ZHd}{σ:St}{H:Hp}(Pv:Nat→St→Hp→Prop)(h0:Pv 0 σ H)(hl:∀ i σ H,i≤xs.length→Pv i σ H→SqL K H a xs)
    (hs:∀ i x σ H b,xs[i]?=some x→Pv i σ H→H b=none→g (.ref b) σ (upd H b (.tup [.int i,x])) fun σ2 H2=>tb { D with nx:=Pv (i+1),ct:=Pv (i+1),bk:=D.nx } σ2 H2) (hd:∀ σ H,Pv xs.length σ H→D.nx σ H):
    ∃ W:Nat→Nat→St→Hp→Prop,(∃ m,W 0 m σ H)∧∀ i m σ H,W i m σ H→
      ((Ite K a).stop i H∧D.nx σ H)∨((Ite K a).go i H∧∃ N:St→Hp→Prop,(∀ σ' H',N σ' H'→∃ m',m'<m∧W (i+1) m' σ' H')∧∀ x H',(Ite K a).yld i H x H'→g x σ H' fun σ2 H2=>tb { D with nx:=N,ct:=N,bk:=D.nx } σ2 H2):=by
  refine ⟨fun i m σ H=>m=xs.length-i∧i≤xs.length∧Pv i σ H,⟨xs.length,by simp,Nat.zero_le _,h0⟩,?_⟩
  rintro i m σ H ⟨rfl,hi,p⟩
  have q:=hl i σ H hi p
  by_cases hlt:i<xs.length
  · refine .inr ⟨⟨xs,xs[i],q,by simp [hlt]⟩,Pv (i+1),fun σ' H' p'=>⟨xs.length-(i+1),by omega,rfl,hlt,p'⟩,fun x H' y=>?_⟩
    obtain ⟨x0,b,y,hb,rfl,rfl⟩:=y
    exact hs i x0 σ H b (y xs q) p hb
  · have e:i=xs.length:=by omega
    subst e
    exact .inl ⟨⟨xs,q,Nat.le_refl _⟩,hd σ H p⟩
end
section
variable {A:Around}{s:Shared}
end
section
variable {X:Cx}{pins:List (Addr×Obj)}{σ:St}{H:Hp}{s:Shared}
def LsV (K:PySem.W.Frag)(H:Hp)(v:V)(ps:List (Int×Int)):Prop:=∃ a vs,v=.ref a∧SqL K H a vs∧Prs H vs ps
end
end L2
namespace L2
open PySem PySem.Spec PyProof.Rows
structure ZF6 (X:Cx)(scope:Scope)(cl:List (Str×Addr))(x y:Str)(fv:List Str)(js:List Nat):Prop where
  S:ZCC X scope cl x fv js
  hy:scope.names.lookup y=some .local
  nd:(x::y::fv).Nodup
section
variable {X:Cx}{scope:Scope}{cl:List (Str×Addr)}{x y:Str}{fv:List Str}{js:List Nat}
theorem ZHp {pins:List (Addr×Obj)}{σ:St}{H:Hp}{s:Shared}{h₁:Heap}{ex:List Addr}{tk:Nat}(S2:ZF6 X scope cl x y fv js)(I:Inv X pins σ H s)
    (hf:∀ b∈ex,ZGs X pins H b) (hlt:∀ b∈ex,b<s.heap.objs.size) (hns:h₁.Ns s.heap.objs.size (fun _=>none)) (hk:∀ b o,s.heap.get? b=some o→h₁.get? b=some o):
    Inv (ZAr X scope cl s.heap.objs.size (x::y::fv) s H ex (X.pn++pins)) [] (none::none::frv js σ) H { s with heap:=h₁,toks:=tk }:=by
  have S:=S2.S
  have nstk:∀ b∈ex,b∉frs X.stack:=fun b hb z=>by
    rcases List.mem_cons.mp (I.stkSub b z) with e | e
    · exact (hf b hb).2.1 e
    · exact (hf b hb).2.2.1 e
  have ok:(ZAr X scope cl s.heap.objs.size (x::y::fv) s H ex (X.pn++pins)).Ok:=by
    refine ⟨I.ok.mod,S.kind,I.ok.glob,I.ok.blt,Nat.le_refl _,fun y' z c h1 h2=>I.ok.inj y' z c (S.cell_of h1) (S.cell_of h2),fun y hy=>?_,(fun y c h hc=>by
      have h':((cl.lookup y).any fun c=>decide (s.heap.objs.size<c))=true:=h
      rw [show cl.lookup y=some c from hc] at h'
      exact Nat.le_of_lt (of_decide_eq_true h')),I.ok.hd,I.ok.frames,.inl rfl,
      fun b hb=>⟨Nat.ne_of_lt (hlt b hb),fun y c h=>(hf b hb).2.2.2.2.1 y c (S.cell_of h)⟩,I.bs,Nat.le_trans I.ok.bsz I.sz,fun b o e hb=>?_,nstk,I.stack,I.stkFree⟩
    · have hm:y∈fv:=by
        rcases hy with hy | hy
        · exact S.own hy (.inl rfl)
        · exact S.own hy (.inr rfl)
      exact Option.isSome_iff_exists.mp (S.vis y hm).2.2
    · obtain ⟨f0,f1,f2,f3,f4,f5⟩:=hf b hb
      rcases f3 with z | z
      · exact I.ok.noex b o e z
      · exact absurd (Nat.lt_of_lt_of_le (Heap.lt_size e) (Nat.le_trans I.ok.bsz z)) (Nat.lt_irrefl _)
  refine ⟨ok,rfl,I.bare,Un.kept hk,⟨_,hns,fun i y v e1 e2 e3=>?_⟩,fun y c h=>?_,I.hok.fresh (Nat.le_refl _),fun y c h=>I.freeC y c (S.cell_of h),fun p hp=>?_,I.hok.kept hk,?_⟩
  · rcases i with _ | _ | i
    · have z:(some (none:Option V))=some (some v):=e2;cases z
    · have z:(some (none:Option V))=some (some v):=e2;cases z
    ·
      have hy:fv[i]?=some y:=by simpa [ZAr] using e1
      obtain ⟨j,hj,hN⟩:=ZEX S.sl hy
      have hv:σ[j]?=some (some v):=by
        have z:(frv js σ)[i]?=some (some v):=by simpa using e2
        unfold frv at z
        rw [List.getElem?_map,hj] at z
        have z':(σ[j]?).getD none=some v:=Option.some.inj z
        cases q:σ[j]? with
        | none=>rw [q] at z';cases z'
        | some o=>rw [q] at z';exact congrArg some z'
      obtain ⟨hfree,hcell,hsome⟩:=S.vis y (List.mem_of_getElem? hy)
      obtain ⟨m,hn,hl⟩:=I.loc
      obtain ⟨u,ru,look⟩:=hl j y v hN hv (.inr (.inl hcell))
      refine ⟨u,ru,.inr ⟨.inl (ZB1 I.ok.kind hfree hcell),?_⟩⟩
      obtain ⟨c',hc'⟩:=Option.isSome_iff_exists.mp hsome
      rcases look with ⟨k,_⟩ | ⟨_,c,ec,z⟩
      · have k':X.env.scope.names.lookup y=some .local:=k
        rw [hcell] at k';cases k'
      · have e:=S.cell_of hc'
        rw [ec] at e
        cases e
        exact ⟨_,hc',by obtain ⟨o,ho,hd⟩:=z;exact ⟨o,hk _ _ ho,hd⟩⟩
  · obtain ⟨v,o,ho,hd⟩:=I.cell y c (S.cell_of h)
    exact ⟨v,o,hk _ _ ho,hd⟩
  · have hp':p∈X.pn++pins:=by simpa [ZAr] using hp
    obtain ⟨e,n,ne,nf,d⟩:=I.pin p hp'
    refine ⟨hk _ _ e,n,Nat.ne_of_lt (Heap.lt_size e),fun z=>?_,d⟩
    rcases List.mem_cons.mp (I.stkSub p.1 z) with q | q
    · exact ne q
    · exact nf q
  · show (none::none::frv js σ).length=(x::y::fv).length
    have:fv.length=js.length:=Paired.length S.sl
    simp [frv,this]
end
def ZON (wi:TI)(g:TG)(js:List Nat)(tt:TT)(te:TE):TE:=fun σ H Q=>wi σ H fun J H1=>∀ D,H1 D=none→∃ W:Nat→Nat→Hp→Prop,(∃ m,W 0 m (upd H1 D (.lst [])))∧∀ i m H,W i m H→
  (J.stop i H∧Q (.ref D) H)∨(J.go i H∧∀ x H' o1 o2,J.yld i H x H'→g x (o1::o2::frv js σ) H' fun σ2 H4=>(∃ v1 v2,σ2=some v1::some v2::frv js σ)∧tt σ2 H4 fun b H2=>
    if b=true then te σ2 H2 fun v H3=>∃ xs,H3 D=some (.lst xs)∧xs.length<sizeLine∧∃ m',m'<m∧W (i+1) m' (upd H3 D (.lst (xs++[v])))
    else ∃ m',m'<m∧W (i+1) m' H2)
theorem ZLP {X:Cx}{elt iter:Expr}{ifs:List Expr}{x y:Str}{px py tp:Pos}{kk:Nat}{pos:Pos}{scope:Scope}{cl:List (Str×Addr)}{fv:List Str}{js:List Nat}{wi:TI}{tt:TT}{te:TE}(hc:X.calm=true)(hclos:closureFor scope X.env=pure cl)
    (S2:ZF6 X scope cl x y fv js) (hi:PI X (.Tuple [.Name x px,.Name y py] kk tp) iter wi)
    (ht:∀ (C:Addr) (s₀:Shared) (H₀:Hp) (ex:List Addr) (pn:List (Addr×Obj)),PF (ZAr X scope cl C (x::y::fv) s₀ H₀ ex pn) ifs tt)
    (he:∀ (C:Addr) (s₀:Shared) (H₀:Hp) (ex:List Addr) (pn:List (Addr×Obj)),PE (ZAr X scope cl C (x::y::fv) s₀ H₀ ex pn) elt te)
    (hs:∀ x,foldedSetIterable iter X.env x=pure x:=by intro _;rfl):PE X (.ListComp elt [⟨.Tuple [.Name x px,.Name y py] kk tp,iter,ifs,0⟩] scope pos) (ZON wi (ZPd X.K 2 (ZJY (ZE8 0) (ZJY (ZE8 1) ZPc))) js tt te):=by
  intro pins s σ H Q I h
  have S:=S2.S
  rw [eval_ListComp]
  refine wpAny_comprehension_free (use:=none) rfl hs hclos S.kind S.nm (thn (hi pins s σ H _ I h) fun v s1 h1=>thn h1 fun itv s2 h2=>?_)
  obtain ⟨it,fp,tn,J,H2,e,I2,T,st2,f2,hW⟩:=h2
  subst e
  have hD:H2 s2.heap.objs.size=none:=I2.hok.fresh (Nat.le_refl _)
  obtain ⟨W,⟨m0,w0⟩,turn⟩:=hW s2.heap.objs.size hD
  have lt2:∀ b∈fp,b<s2.heap.objs.size:=fun b hb=>by
    obtain ⟨o,e,_⟩:=T.obj _ _ st2 b hb
    exact Heap.lt_size e
  refine wpAny_newObj_type (wpAny_newFunctionEnv S.nc (by intro y hy;simp at hy) (fun h₁ hns₁ hsb₁=>?_) S.kind)
  dsimp only at hns₁ hsb₁ ⊢
  have I3:Inv X pins σ (upd H2 s2.heap.objs.size (.lst [])) { s2 with heap:=s2.heap.push { cls:=.type "list",dict:=none,data:=.seq ([]:List Value).toArray } }:=I2.lnew (t':=s2.toks) .nil (Nat.zero_le _)
  generalize hS3:({ s2 with heap:=s2.heap.push { cls:=.type "list",dict:=none,data:=.seq ([]:List Value).toArray } }:Shared)=s3 at I3
  have eh:s3.heap=s2.heap.push { cls:=.type "list",dict:=none,data:=.seq ([]:List Value).toArray }:=by rw [← hS3]
  rw [← eh] at hns₁ hsb₁ ⊢
  have hsz:s3.heap.objs.size=s2.heap.objs.size+1:=by rw [eh,Heap.size_push]
  have k23:∀ b o,s2.heap.get? b=some o→s3.heap.get? b=some o:=fun b o e=>by rw [eh];exact Heap.get?_push_of_some _ e
  have k34:∀ b o,s3.heap.get? b=some o→h₁.get? b=some o:=fun b o e=>hsb₁.extBut b o (Nat.ne_of_lt (Heap.lt_size e)) (Heap.get?_push_of_some _ e)
  have f3:∀ b∈fp,ZGs X pins (upd H2 s2.heap.objs.size (.lst [])) b:=fun b hb=>⟨by rw [ZAa (Nat.ne_of_lt (lt2 b hb))];exact (f2 b hb).1,(f2 b hb).2⟩
  have lt3:∀ b∈fp,b<s3.heap.objs.size:=fun b hb=>by rw [hsz];exact Nat.lt_succ_of_lt (lt2 b hb)
  have I4:=ZHp (tk:=s3.toks) S2 I3 f3 lt3 (h₁:=h₁) (by simpa using hns₁) k34
  generalize hY:ZAr X scope cl s3.heap.objs.size (x::y::fv) s3 (upd H2 s2.heap.objs.size (.lst [])) fp (X.pn++pins)=Y at I4
  have hYp:Y.prog=X.prog:=by rw [← hY];rfl
  have hYw:Y.w=X.w:=by rw [← hY];rfl
  have hYK:Y.K=X.K:=by rw [← hY];rfl
  have hYA:Y.A=X.A:=by rw [← hY];rfl
  have hYc:Y.calm=true:=by rw [← hY];exact hc
  have hYe:Y.env=compEnvC scope cl s3.heap.objs.size X.env:=by rw [← hY];rfl
  have hYx:Y.xe=fun _ _=>False:=by rw [← hY];rfl
  have hYN:Y.N=x::y::fv:=by rw [← hY];rfl
  have hgY:PG Y (.Tuple [.Name x px,.Name y py] kk tp) (ZPd X.K 2 (ZJY (ZE8 0) (ZJY (ZE8 1) ZPc))):=by
    rw [← hYK]
    exact ZGx hYc (ZB0 (ZA2 (X:=Y) (i:=0) (by rw [hYN];exact S2.nd) (by rw [hYN];rfl) (.inl (by rw [hYe];exact lookup_relabel_local S.hx)) (.inr (by rw [hYe];exact lookup_relabel_local S.hx)))
      (ZB0 (ZA2 (X:=Y) (i:=1) (by rw [hYN];exact S2.nd) (by rw [hYN];rfl) (.inl (by rw [hYe];exact lookup_relabel_local S2.hy)) (.inr (by rw [hYe];exact lookup_relabel_local S2.hy))) ZER))
  have heY:PE Y elt te:=by rw [← hY];exact he _ _ _ _ _
  have htY:PF Y ifs tt:=by rw [← hY];exact ht _ _ _ _ _
  have stat:∀ {H':Hp},(∀ b∈fp,H' b=none)→∀ b∈fp,ZGs Y [] H' b:=fun {H'} hn b hb=>by
    obtain ⟨g0,g1,g2,g3,g4,g5⟩:=f3 b hb
    rw [← hY]
    refine ⟨hn b hb,Nat.ne_of_lt (lt3 b hb),fun z=>?_,.inl hb,fun y c e=>g4 y c (S.cell_of e),fun p hp=>g5 p (by simpa [ZAr] using hp)⟩
    rcases List.mem_cons.mp (I3.stkSub b z) with q | q
    · exact g1 q
    · exact g2 q
  have fin:∀ {i:Nat} {m:Nat} {σ':St} {H':Hp} {s':Shared},Inv Y [] σ' H' s'→Q (.ref s2.heap.objs.size) H'→compPost (model X.prog X.w) X.A X.xe none (EP X pins σ Q) (.ref s2.heap.objs.size) s3.heap.objs.size (.ok .next) s':=fun {i m σ' H' s'} J q=>by
    obtain ⟨mm,hn,_⟩:=J.loc
    rw [← hY] at J hn
    refine ⟨mm,hn,fun h'' sb=>?_⟩
    exact ⟨.ref _,H',ZGI I3 f3 J sb,rfl,q⟩
  have st4:∀ s4:Shared,s4={ s3 with heap:=h₁,toks:=s3.toks }→tn 0 s4.heap:=fun s4 e=>by
    subst e
    exact T.keep _ _ _ st2 fun b hb o e=>k34 b o (k23 b o e)
  have loop:codeAny (model X.prog X.w) X.A (.compLoop (.ListComp elt [⟨.Tuple [.Name x px,.Name y py] kk tp,iter,ifs,0⟩] scope pos) 0 (.ref it) (.ref s2.heap.objs.size) (compEnvC scope cl s3.heap.objs.size X.env))
      (compPost (model X.prog X.w) X.A X.xe none (EP X pins σ Q) (.ref s2.heap.objs.size) s3.heap.objs.size) { s3 with heap:=h₁,toks:=s3.toks }:=by
    refine ZDy (fun n s'=>∃ (i:Nat) (o1 o2:Option V) (H':Hp),Inv Y [] (o1::o2::frv js σ) H' s'∧tn i s'.heap∧(∀ b∈fp,H' b=none)∧W i n H') ?_ m0 ⟨0,none,none,_,I4,st4 _ rfl,fun b hb=>(f3 b hb).1,w0⟩
    rintro n s5 ⟨i,o1,o2,H5,I5,st5,fr5,w5⟩
    rcases turn i n H5 w5 with ⟨stop,q⟩ | ⟨go,step⟩
    · have r:=T.done Y hYp hYw hYK hYc i [] s5 _ H5 (fun _ _=>False) I5 (stat fr5) st5 stop
      rw [hYA] at r
      refine thn r fun r s6 zq=>?_
      obtain ⟨hr,I6⟩:=zq
      subst hr
      exact fin (i:=i) (m:=n) I6 q
    · have r:=T.item Y hYp hYw hYK hYc i [] s5 _ H5 (fun _ _=>False) I5 (stat fr5) st5 go
      rw [hYA] at r
      refine thn r fun r s6 zq=>?_
      obtain ⟨u,hr,h6⟩:=zq
      subst hr
      refine thn h6 fun _ s7 zq=>?_
      obtain ⟨y,H7,I7,r7,y7,st7,fr7⟩:=zq
      have I7':=I7.pinned (stat fr7) (T.obj _ _ st7)
      have r8:=hgY _ s7 _ H7 y u _ I7' r7 (step y _ o1 o2 y7)
      rw [hYp,hYw,hYA,hYe,hYx] at r8
      refine thn r8 fun _ s8 zq=>?_
      obtain ⟨σ8,H8,I8,⟨v1,v2,e1⟩,q8⟩:=zq
      subst e1
      have r9:=htY _ s8 _ _ _ I8 q8
      rw [hYp,hYw,hYA,hYe,hYx] at r9
      refine thn r9 fun b s9 zq=>?_
      obtain ⟨H9,I9,q9⟩:=zq
      have again:∀ {σ':St} {H':Hp} {s':Shared},Inv Y ([]++ZFA fp s7.heap) (some v1::some v2::frv js σ) H' s'→(∃ m',m'<n∧W (i+1) m' H')→
          ∃ m,m<n∧∃ (i:Nat) (o1 o2:Option V) (H':Hp),Inv Y [] (o1::o2::frv js σ) H' s'∧tn i s'.heap∧(∀ b∈fp,H' b=none)∧W i m H':=fun {σ' H' s'} K7 ⟨m',hm,w7⟩=>by
        refine ⟨m',hm,i+1,some v1,some v2,H',K7.unpinned,T.keep _ _ _ st7 fun b hb o e=>(K7.pin (b,o) (List.mem_append_right _ (List.mem_append_right _ (ZB2 hb e)))).1,fun b hb=>?_,w7⟩
        obtain ⟨o,e,d⟩:=T.obj _ _ st7 b hb
        exact (K7.pin (b,o) (List.mem_append_right _ (List.mem_append_right _ (ZB2 hb e)))).2.1
      cases b with
      | false=>
        rw [if_neg Bool.false_ne_true] at q9 ⊢
        exact again (σ':=[]) I9 q9
      | true=>
        rw [if_pos rfl] at q9 ⊢
        have r10:=heY _ s9 _ _ _ I9 q9
        rw [hYp,hYw,hYA,hYe,hYx] at r10
        refine thn r10 fun v s10 zq=>?_
        obtain ⟨y10,H10,I10,ry,xs,hxs,hlen,m',hm,w10⟩:=zq
        have r11:=ZBK (X:=Y) _ s10 _ H10 (.ref s2.heap.objs.size) [y10] (.ref s2.heap.objs.size) [v] (fun _ H'=>H'=upd H10 s2.heap.objs.size (.lst (xs++[y10]))) I10 rfl (.cons ry .nil) ⟨_,xs,y10,rfl,rfl,hxs,hlen,rfl⟩
        rw [hYp,hYw,hYA,hYx] at r11
        refine thn r11 fun _ s11 zq=>?_
        obtain ⟨_,H11,I11,_,e11⟩:=zq
        subst e11
        exact again (σ':=[]) I11 ⟨m',hm,w10⟩
  have loop':∀ s4:Shared,s4={ s3 with heap:=h₁,toks:=s3.toks }→codeAny (model X.prog X.w) X.A (.compLoop (.ListComp elt [⟨.Tuple [.Name x px,.Name y py] kk tp,iter,ifs,0⟩] scope pos) 0 (.ref it) (.ref s2.heap.objs.size) (compEnvC scope cl s3.heap.objs.size X.env))
      (compPost (model X.prog X.w) X.A X.xe none (EP X pins σ Q) (.ref s2.heap.objs.size) s3.heap.objs.size) s4:=fun s4 e=>by subst e;exact loop
  have e4:∀ t,t=s3.toks→({ s3 with heap:=h₁,toks:=t }:Shared)={ s3 with heap:=h₁,toks:=s3.toks }:=fun t e=>by rw [e]
  have fin4:∀ s4:Shared,s4={ s3 with heap:=h₁,toks:=s3.toks }→codeAny (model X.prog X.w) X.A (.compStart (.ListComp elt [⟨.Tuple [.Name x px,.Name y py] kk tp,iter,ifs,0⟩] scope pos) 0 (.ref it) (.ref s2.heap.objs.size) (compEnvC scope cl s3.heap.objs.size X.env))
      (compPost (model X.prog X.w) X.A X.xe none (EP X pins σ Q) (.ref s2.heap.objs.size) s3.heap.objs.size) s4:=fun s4 e=>
    codeAny_compStart_list (loop' s4 e) (T.self X.A 0 s4 _ _ (st4 s4 e) (loop' s4 e))
  have es:({ s2 with heap:=s2.heap.push { cls:=.type "list",dict:=none,data:=.seq ([]:List Value).toArray } }:Shared)=s3:=hS3
  refine fin4 _ ?_
  rw [← es]
  rfl
section
variable {X:Cx}
def tRev (K:PySem.W.Frag)(te:TE)(tk:TO):TE:=fun σ H Q=>te σ H fun x H1=>tk σ H1 fun k H2=>k=some (-1)∧∃ a xs,x=.ref a∧SqL K H2 a xs∧∀ p,H2 p=none→Q (.ref p) (upd H2 p (.lst xs.reverse))
theorem ZLQ {xs:List V}{us:List Value}(r:ZBJ xs us):ZBJ xs.reverse us.reverse:=by
  induction r with
  | nil=>exact .nil
  | cons r _ ih=>
    rw [List.reverse_cons,List.reverse_cons]
    exact ZBJ.append ih (.cons r .nil)
end
end L2
namespace L2
open PySem PySem.Spec PyProof.Rows
def ZJ5:List (TE×TE)→St→Hp→(List (V×V)→Hp→Prop)→Prop
  | [],_,H,Q=>Q [] H
  | (tk,tv)::r,σ,H,Q=>tk σ H fun x H1=>tv σ H1 fun y H2=>ZJ5 r σ H2 fun ps H3=>Q ((x,y)::ps) H3
abbrev VV:List (V×V)→List (Value×Value)→Prop:=Paired fun p q=>ZBC p.1 q.1∧ZBC p.2 q.2
def PPs (X:Cx)(pos:Pos)(keys:List (Option Expr))(values:List Expr)(trs:List (TE×TE)):Prop:=
  ∀ (pins:List (Addr×Obj)) (s:Shared) (σ:St) (H:Hp) (Q:List (V×V)→Hp→Prop),Inv X pins σ H s→ZJ5 trs σ H Q→
    wpAny (model X.prog X.w) X.A (evalPairs (pairTrees keys values X.env pos)) (fun vs s'=>∃ ps H',Inv X pins σ H' s'∧VV ps vs∧Q ps H') X.xe s
def ZOO (kvs more:List (Key×V)):List (Key×V):=more.foldl (fun acc kv=>ZGM acc kv.1 kv.2) kvs
def tDisp (trs:List (TE×TE)):TE:=fun σ H Q=>∀ p,H p=none→ZJ5 trs σ (upd H p (.dK [])) fun ps H2=>H2 p=some (.dK [])∧∃ kvs:List (Key×V),ps=kvs.map (fun kv=>(kV kv.1,kv.2))∧kvs.length≤15∧Q (.ref p) (upd H2 p (.dK (ZOO [] kvs)))
structure M1 (X:Cx)(o:Expr)(m:Str)(apos:Pos)(e:Expr)(cpos:Pos):Prop where
  base:attributeBase o m X.env (eval o X.env)=eval o X.env
  few:((backTo cpos (starEach [e] X.env)).all (fun x=>!x.1)&&(backToKw cpos (keywordEach [] X.env)).all (fun x=>x.1.isSome)
    && decide (([e]:List Expr).length+([]:List Keyword).length+(if ([]:List Keyword).isEmpty then 0 else 1)<30))=true
  line:(apos.endLine==cpos.line)=true
  trees:backTo cpos (starEach [e] X.env)=[(false,eval e X.env)]
structure M2 (X:Cx)(o:Expr)(m:Str)(apos:Pos)(e f:Expr)(cpos:Pos):Prop where
  base:attributeBase o m X.env (eval o X.env)=eval o X.env
  few:((backTo cpos (starEach [e,f] X.env)).all (fun x=>!x.1)&&(backToKw cpos (keywordEach [] X.env)).all (fun x=>x.1.isSome)
    && decide (([e,f]:List Expr).length+([]:List Keyword).length+(if ([]:List Keyword).isEmpty then 0 else 1)<30))=true
  line:(apos.endLine==cpos.line)=true
  trees:backTo cpos (starEach [e,f] X.env)=[(false,eval e X.env),(false,eval f X.env)]
def IsD (H:Hp)(a:Addr):Prop:=(∃ kvs,Rd H a (.dK kvs))∨∃ kvs,Rd H a (.dT kvs)
theorem ZOP {X:Cx}{pins:List (Addr×Obj)}{σ:St}{H:Hp}{s:Shared}{a:Addr}(I:Inv X pins σ H s)(d:IsD H a):
    s.TypeIs (.ref a) "dict"∧(∀ b,Value.ref a=.ref b→∃ ob,s.heap.get? b=some ob∧ob.dict=none)∧(a==sysModules)=false:=by
  rcases d with ⟨kvs,e⟩ | ⟨kvs,e⟩
  · obtain ⟨_,hd,vs,_,dd⟩:=ZJw I.hok e
    refine ⟨dd.typeIs,fun b q=>?_,hd⟩
    cases q
    obtain ⟨ob,_,_,h1,h2,_⟩:=dd
    exact ⟨ob,h1,h2.2.1⟩
  · obtain ⟨_,hd,xs,_,dd⟩:=ZJx I.hok e
    refine ⟨dd.typeIs,fun b q=>?_,hd⟩
    cases q
    obtain ⟨ob,_,_,h1,h2,_⟩:=dd
    exact ⟨ob,h1,h2.2.1⟩
section
variable {X:Cx}{pins:List (Addr×Obj)}{σ:St}{H:Hp}{s:Shared}{a:Addr}{y d:V}{u r:Value}{o:Option V}{A:Around}{E:Value→Shared→Prop}
theorem ZOQ {Q:Value→Shared→Prop}(hu:A.units+1<cLine)(I:Inv X pins σ H s)(g:ZHe H a y o)(ry:ZBC y u)(rd:ZBC d r)(h:∀ w' s',Inv X pins σ H s'→ZBC (o.getD d) w'→Q w' s'):
    wpAny (model X.prog X.w) A (call (.builtin "dict.get") [.ref a,u,r]) Q E s:=by
  rcases g with ⟨kvs,k,e,ey,l⟩ | ⟨kvs,k,b,e,ey,eb,l⟩
  · subst ey
    obtain ⟨z,hd,vs,rel,dd⟩:=ZJw I.hok e
    refine call_meetsIn PySem.F.slot_dict_get dd.typeIs PySem.F.entry_dict_get (PySem.F.args_dict_get_3 _ _ _) (meets_dict_get_default (ZBH X.prog X.w) a (ZJv ry) hd r) ⟨_,dd.mapOf,h _ _ (I.tok _) ?_⟩
    rw [l]
    exact (rel.val k).getD rd
  · subst ey
    cases (show u=Value.ref b from ry)
    obtain ⟨z,hd,xs,rel,dd⟩:=ZJx I.hok e
    refine call_meetsIn PySem.F.slot_dict_get dd.typeIs PySem.F.entry_dict_get (PySem.F.args_dict_get_3 _ _ _) (meetsH_dict_get_default (tupleKind (ZBH X.prog X.w)) a b hd r) ⟨tupleKind_room_in1 hu,k,xs,ZIU I.hok eb,dd,h _ _ (I.tok _) ?_⟩
    rw [l]
    exact (rel.val k).getD rd
end
def ZRp (td ty:TE):TE:=fun σ H Q=>td σ H fun x H1=>∃ a,x=.ref a∧IsD H1 a∧ty σ H1 fun y H2=>∃ o,ZHe H2 a y o∧Q (o.getD .non) H2
def ZOR (td ty tx:TE):TE:=fun σ H Q=>td σ H fun x H1=>∃ a,x=.ref a∧IsD H1 a∧ty σ H1 fun y H2=>tx σ H2 fun z H3=>∃ o,ZHe H3 a y o∧Q (o.getD z) H3
def ZRq (td ty:TE):TE:=fun σ H Q=>td σ H fun x H1=>∃ a,x=.ref a∧IsD H1 a∧ty σ H1 fun y H2=>∃ kvs k v,H2 a=some (.dK kvs)∧y=kV k∧ZDh kvs k=some v∧Q v (upd H2 a (.dK (ZM0 kvs k)))
def ZRr (td ty tx:TE):TE:=fun σ H Q=>td σ H fun x H1=>∃ a,x=.ref a∧IsD H1 a∧ty σ H1 fun y H2=>tx σ H2 fun z H3=>∃ kvs k,H3 a=some (.dK kvs)∧y=kV k∧
  (∀ v,ZDh kvs k=some v→Q v (upd H3 a (.dK (ZM0 kvs k))))∧(ZDh kvs k=none→Q z H3)
section
variable {X:Cx}{o e f:Expr}{apos cpos:Pos}{td ty tx:TE}
theorem ZLR (hu:X.A.units+1<cLine)(ho:PE X o td)(he:PE X e ty)(hf:PE X f tx)(m:M2 X o "get" apos e f cpos):PE X (.Call (.Attribute o "get" apos) [e,f] [] cpos) (ZOR td ty tx):=by
  intro pins s σ H Q I h
  refine wpAny_Call_method m.base m.few m.line PySem.F.plainAttrs_dict PySem.F.slot_dict_get PySem.F.type_dict_get (thn (ho pins s σ H _ I h) fun u s1 zq=>?_)
  obtain ⟨x,H1,I1,rx,a,ex,d,q1⟩:=zq
  subst ex
  obtain rfl:u=Value.ref a:=rx
  obtain ⟨t1,t2,_⟩:=ZOP I1 d
  refine ⟨t1,t2,?_⟩
  rw [m.trees]
  refine Calls.callWith_builtin rfl (Calls.evalArgs_plain (Calls.spliced_cons (thn (he pins s1 σ H1 _ I1 q1) fun iv s2 ⟨y,H2,I2,ry,q2⟩=>
    Calls.spliced_cons (thn (hf pins s2 σ H2 _ I2 q2) fun fv s3 ⟨z,H3,I3,rz,ov,g,q3⟩=>Calls.spliced_nil ?_))))
  exact ZOQ hu I3 g ry rz fun w' s4 I4 rw'=>⟨_,H3,I4,rw',q3⟩
end
end L2
namespace L2
open PySem PySem.Spec PyProof.Rows
def isTx (z:Str):Value→Bool
  | .str y _=>y==z
  | _=>false
section
variable {X:Cx}
end
end L2
namespace L2
open PySem PySem.Spec PyProof.Rows
def ZOS (w:World)(kv:Key×V)(e:DictEntry):Prop:=ZHg kv.1 e.key=true∧e.hash=ZRU w kv.1∧ZBC kv.2 e.val
def ZRs (w:World)(o:Obj)(kvs:List (Key×V)):Prop:=o.ExactDict∧∃ es ep,o.data=.dict es ep∧Paired (ZOS w) kvs es.toList∧(kvs.map (·.1)).Nodup
def ZM3 (w:World)(K:PySem.W.Frag)(a:Addr)(kvs:List (Key×V)):Prop:=∃ ob,K.lookup a=some ob∧ZRs w ob kvs∧(a==sysModules)=false
theorem ZJ6 {P:Program}{w:World}:∀ {kvs:List (Key×V)} {es:List DictEntry},Paired (ZOS w) kvs es→∃ vs:List (Key×Value),KV kvs vs∧Pairs (ZBH P w) es vs∧vs.map (·.1)=kvs.map (·.1)∧∀ e∈es,∃ k,(ZBH P w).is k e.key=true∧e.hash=(ZBH P w).hash k
  | _,_,.nil=>⟨[],.nil,.nil,rfl,fun _ h=>nomatch h⟩
  | (kv::_),(e::_),.cons r t=>by
    obtain ⟨vs,h1,h2,h3,h4⟩:=ZJ6 (P:=P) t
    obtain ⟨q1,q2,q3⟩:=r
    refine ⟨(kv.1,e.val)::vs,.cons ⟨rfl,q3⟩ h1,.cons q1 rfl h2,by rw [List.map_cons,List.map_cons,h3],fun x hx=>?_⟩
    rcases List.mem_cons.mp hx with z | z
    · rw [z];exact ⟨kv.1,q1,q2⟩
    · exact h4 x z
section
variable {X:Cx}{pins:List (Addr×Obj)}{σ:St}{H:Hp}{s:Shared}{a:Addr}{kvs:List (Key×V)}
theorem ZM3.at (I:Inv X pins σ H s)(d:ZM3 X.w X.K a kvs):∃ vs,KV kvs vs∧s.heap.DictOf (ZBH X.prog X.w) a vs∧∃ ob,s.heap.get? a=some ob∧ob.dict=none:=by
  obtain ⟨ob,hk,⟨hx,es,ep,hd,hp,hn⟩,_⟩:=d
  obtain ⟨vs,h1,h2,h3,h4⟩:=ZJ6 (P:=X.prog) hp
  refine ⟨vs,h1,⟨ob,es,ep,I.kIn a ob hk,hx,hd,fun e he=>h4 e (Array.mem_def.mp he),h2,by rw [h3];exact hn⟩,ob,I.kIn a ob hk,hx.2.1⟩
end
def GDic (w:World)(K:PySem.W.Frag)(mg:Str→Option Value)(x:Str)(kvs:List (Key×V)):Prop:=∃ a,mg x=some (.ref a)∧ZM3 w K a kvs
def tGD (w:World)(K:PySem.W.Frag)(kvs:List (Key×V)):TE:=fun _ H Q=>∀ a,ZM3 w K a kvs→Q (.ref a) H
def ZRt (w:World)(K:PySem.W.Frag)(mg:Str→Option Value)(x:Str)(kts:List (Key×List V)):Prop:=∃ kvs,GDic w K mg x kvs∧Paired (fun (kv:Key×V) (kt:Key×List V)=>kv.1=kt.1∧∃ a,kv.2=.ref a∧∀ H,SqT K H a kt.2) kvs kts
def tGT2 (w:World)(K:PySem.W.Frag)(kts:List (Key×List V)):TE:=fun _ H Q=>∀ a kvs,ZM3 w K a kvs→Paired (fun (kv:Key×V) (kt:Key×List V)=>kv.1=kt.1∧∃ a,kv.2=.ref a∧∀ H,SqT K H a kt.2) kvs kts→Q (.ref a) H
theorem ZM4 {X:Cx}{x:Str}{kts:List (Key×List V)}{pos:Pos}(hm:ZRt X.w X.K X.mg x kts)(hg:Gl X x:=by rfl)(hd:(x==("__debug__":Str))=false:=by decide):PE X (.Name x pos) (tGT2 X.w X.K kts):=by
  obtain ⟨kvs,⟨a,h,k⟩,p⟩:=hm
  intro pins s σ H Q I q
  exact ZE5 I hg h ⟨.ref a,H,I,rfl,q a kvs k p⟩ hd
section
variable {X:Cx}{o i e f:Expr}{pos apos cpos:Pos}{td ty te tf:TE}
def tKGet (w:World)(K:PySem.W.Frag)(td ty:TE):TE:=fun σ H Q=>td σ H fun x H1=>ty σ H1 fun y H2=>∃ a kvs k v,x=.ref a∧ZM3 w K a kvs∧y=kV k∧ZDh kvs k=some v∧Q v H2
def ZOT (w:World)(K:PySem.W.Frag)(td ty tx:TE):TE:=fun σ H Q=>td σ H fun x H1=>∃ a kvs,x=.ref a∧ZM3 w K a kvs∧ty σ H1 fun y H2=>tx σ H2 fun z H3=>∃ k,y=kV k∧Q ((ZDh kvs k).getD z) H3
theorem ZLS (ho:PE X o td)(he:PE X e te)(hf:PE X f tf)(m:M2 X o "get" apos e f cpos):PE X (.Call (.Attribute o "get" apos) [e,f] [] cpos) (ZOT X.w X.K td te tf):=by
  intro pins s σ H Q I h
  refine wpAny_Call_method m.base m.few m.line PySem.F.plainAttrs_dict PySem.F.slot_dict_get PySem.F.type_dict_get (thn (ho pins s σ H _ I h) fun u s1 zq=>?_)
  obtain ⟨x,H1,I1,rx,a,kvs,ex,d,q1⟩:=zq
  subst ex
  obtain rfl:u=Value.ref a:=rx
  obtain ⟨_,_,dd,ob,hob,hno⟩:=d.at I1
  refine ⟨dd.typeIs,fun b q=>by cases q;exact ⟨ob,hob,hno⟩,?_⟩
  rw [m.trees]
  refine Calls.callWith_builtin rfl (Calls.evalArgs_plain (Calls.spliced_cons (thn (he pins s1 σ H1 _ I1 q1) fun iv s2 ⟨y,H2,I2,ry,q2⟩=>
    Calls.spliced_cons (thn (hf pins s2 σ H2 _ I2 q2) fun fv s3 ⟨z,H3,I3,rz,k,ey,q3⟩=>Calls.spliced_nil ?_))))
  subst ey
  obtain ⟨vs3,rel3,dd3,_⟩:=d.at I3
  refine call_meetsIn PySem.F.slot_dict_get dd3.typeIs PySem.F.entry_dict_get (PySem.F.args_dict_get_3 _ _ _) (meets_dict_get_default (ZBH X.prog X.w) a (ZJv ry) d.choose_spec.2.2 fv) ⟨_,dd3.mapOf,?_⟩
  exact ⟨_,H3,I3.tok _,(rel3.val k).getD rz,q3⟩
def rIns1:V→List V→Hp→VK→Prop:=fun x vs H Q=>∃ l x0 xs y,x=.ref l∧vs=[.int 1,y]∧H l=some (.lst (x0::xs))∧xs.length+2≤sizeLine∧Q .non (upd H l (.lst (x0::y::xs)))
end
end L2
namespace L2
open PySem PySem.Spec PyProof.Rows
section
variable {prog:Program}{w:World}{A:Around}{E:Value→Shared→Prop}{s:Shared}
end
abbrev zT1 (h:Heap)(l1:Addr):Heap:=h.push { cls:=.type "tuple_iterator",data:=.fields #[.ref l1,.int 0 0] }
abbrev zT2 (h:Heap)(l1 l2:Addr):Heap:=(zT1 h l1).push { cls:=.type "list_iterator",data:=.fields #[.ref l2,.int 0 0] }
abbrev zT3 (h:Heap)(l1 l2:Addr):Heap:=(zT2 h l1 l2).push { cls:=.type "tuple",data:=.seq #[.ref h.objs.size,.ref (zT1 h l1).objs.size] }
abbrev zT4 (h:Heap)(l1 l2:Addr):Heap:=(zT3 h l1 l2).push { cls:=.type "tuple",data:=.seq #[.none,.none] }
abbrev zT5 (h:Heap)(l1 l2:Addr):Heap:=(zT4 h l1 l2).push { cls:=.type "zip",data:=.fields #[.none,.bool false,.bool false,.ref (zT2 h l1 l2).objs.size,.ref (zT3 h l1 l2).objs.size] }
section
variable {prog:Program}{w:World}{A:Around}{E:Value→Shared→Prop}{s:Shared}
end
theorem ZRu {h h2:Heap}:∀ fs:List Addr,(∀ b∈fs,∃ o,h.get? b=some o)→(∀ b∈fs,∃ o,h2.get? b=some o∧o.isFreed=false)→
    ∃ mid:Heap,mid.objs.size=h.objs.size∧(∀ b∈fs,mid.get? b=h2.get? b)∧∀ b,b∉fs→mid.get? b=h.get? b
  | [],_,_=>⟨h,rfl,(fun _ hb=>nomatch hb),fun _ _=>rfl⟩
  | b::fs,h1,h2'=>by
    obtain ⟨m,e1,e2,e3⟩:=ZRu fs (fun c hc=>h1 c (List.mem_cons_of_mem _ hc)) (fun c hc=>h2' c (List.mem_cons_of_mem _ hc))
    obtain ⟨o,ho,hf⟩:=h2' b (by simp)
    obtain ⟨o1,ho1⟩:∃ o1,m.get? b=some o1:=by
      by_cases c:b∈fs
      · exact ⟨o,(e2 b c).trans ho⟩
      · obtain ⟨o1,q⟩:=h1 b (by simp)
        exact ⟨o1,(e3 b c).trans q⟩
    have hb:(m.update b fun _=>o).get? b=some o:=Heap.get?_update_self (fun _=>o) ho1 hf
    refine ⟨m.update b fun _=>o,(Heap.size_update ..).trans e1,fun c hc=>?_,fun c hc=>?_⟩
    · by_cases e:c=b
      · subst e;exact hb.trans ho.symm
      · rw [Heap.get?_update_ne _ _ _ _ e]
        rcases List.mem_cons.mp hc with z | z
        · exact absurd z e
        · exact e2 c z
    · have e:c≠b:=fun z=>hc (by simp [z])
      rw [Heap.get?_update_ne _ _ _ _ e]
      exact e3 c fun z=>hc (List.mem_cons_of_mem _ z)
section
variable {X:Cx}{pins:List (Addr×Obj)}{σ:St}{H:Hp}{s:Shared}{h':Heap}
theorem Inv.turnedL {t':Nat}{fs:List Addr}(I:Inv X pins σ H s)(k:∀ b o,b∉fs→s.heap.get? b=some o→h'.get? b=some o)(ok:∀ b∈fs,ZGs X pins H b):Inv X pins σ H { s with heap:=h',toks:=t' }:=by
  have nit:∀ b u,H b=some u→b∉fs:=fun b u e z=>by rw [(ok b z).1] at e;cases e
  refine I.step (g':=s.gens) (d':=s.drawn) (ch:=fs) (fun b hb=>?_) (fun b o _ _ hc e _=>k b o hc e) (fun b o _ _ hc e _=>⟨o.slots,k b o hc e⟩) (fun _ _ _ _ n=>n)
    (fun b o hc e=>⟨o,k b o hc e⟩) (fun _ _ e=>e) (fun _ _ _ e=>e) (fun b ps e=>⟨#[],by rw [e];simp⟩) (fun m hm=>?_) (fun b u e=>?_) I.bare
  · obtain ⟨f0,f1,f2,f3,f4,f5⟩:=ok b hb
    exact ⟨f3,f1,f4,f5⟩
  · obtain ⟨o,es,ep,ho,r⟩:=hm
    exact ⟨o,es,ep,k _ o (fun z=>(ok _ z).2.1 rfl) ho,r⟩
  · refine (I.hok b u e).stay (fun c v hc q=>k c v ?_ q) (fun _ q=>q) fun _ _ q=>q
    rcases hc with z | z
    · rw [z];exact nit b u e
    · exact nit c _ z
end
def Itz (K:PySem.W.Frag)(t l:Addr):It:=
  ⟨fun i H=>∃ xs ys x y,SqT K H t xs∧SqL K H l ys∧xs[i]?=some x∧ys[i]?=some y,
   fun i H v H'=>∃ x y b,(∀ xs,SqT K H t xs→xs[i]?=some x)∧(∀ ys,SqL K H l ys→ys[i]?=some y)∧H b=none∧v=.ref b∧H'=upd H b (.tup [x,y]),
   fun i H=>∃ xs ys,SqT K H t xs∧SqL K H l ys∧(xs.length≤i∨ys.length≤i)⟩
section
variable {X:Cx}
def iZip (K:PySem.W.Frag)(ta:TA):TI:=fun σ H R=>ta σ H fun vs H1=>∃ t l,vs=[V.ref t,V.ref l]∧(∃ xs,SqT K H1 t xs)∧(∃ ys,SqL K H1 l ys)∧R (Itz K t l) H1
end
section
variable {X:Cx}
end
inductive ZPQ (H:Hp):Nat→V→V→Prop where
  | fl {n:Nat} {x:V} (h:ZCX x=true):ZPQ H n x x
  | rf {n:Nat} {a:Addr}:ZPQ H n (.ref a) (.ref a)
  | tp {n:Nat} {a b:Addr} {xs ys:List V} (h1:H a=some (.tup xs)) (h2:H b=some (.tup ys)) (hl:xs.length=ys.length)
      (hh:∀ (j:Nat) (u v:V),xs[j]?=some u→ys[j]?=some v→ZPQ H n u v):ZPQ H (n+1) (.ref a) (.ref b)
section
variable {X:Cx}{pins:List (Addr×Obj)}{σ:St}{H:Hp}{s:Shared}
end
end L2
namespace L2
open PySem PySem.Spec PyProof.Rows
section
variable {prog:Program}{w:World}{A:Around}{E:Value→Shared→Prop}{s:Shared}
theorem ZM5:typeLookup (.type "list_reverseiterator") "__len__"=pure none:=by rw [typeLookup_type,builtinLookup_eq_fast];kernel_rfl
theorem ZLT:typeLookup (.type "list_reverseiterator") "__length_hint__"=pure (some (.builtin "list_reverseiterator.__length_hint__")):=by rw [typeLookup_type,builtinLookup_eq_fast];kernel_rfl
theorem ZLU {it l:Addr}{i:Int}{Q:Bool→Shared→Prop}(hit:s.heap.IsRevIter it l i)(h:Q false s):wpAny (model prog w) A (Builtin.List.listLengthHint (.ref it)) Q E s:=by
  unfold Builtin.List.listLengthHint
  refine wpAny_bind (wpAny_specialOf hit.typeIs ZM5 ?_)
  wp_delta
  refine wpAny_ite_split (fun hab=>absurd hab (by decide +kernel)) (fun _=>?_)
  refine wpAny_ite_split (fun hab=>absurd hab (by decide)) (fun _=>?_)
  refine wpAny_bind (wpAny_specialOf hit.typeIs ZLT ?_)
  generalize hid:("list_reverseiterator.__length_hint__":String)=id0
  wp_delta
  rw [show splitId id0=some ("list_reverseiterator","__length_hint__") from by subst hid;decide +kernel]
  subst hid
  refine wpAny_bind (wpAny_isInstance (T:="list_reverseiterator") (b:=true) hit.typeIs (by rw [isSubtype_type];kernel_rfl) ?_)
  refine wpAny_ite_split (fun hab=>absurd hab (by decide)) (fun _=>?_)
  refine wpAny_ite_split (fun _=>?_) (fun hab=>absurd (by decide +kernel) hab)
  refine wpAny_ite_split (fun hab=>absurd hab (by decide +kernel)) (fun _=>?_)
  exact wpAny_pure h
end
end L2
namespace L2
open PySem PySem.Spec PyProof.Rows
section
variable {prog:Program}{w:World}{A:Around}{E:Value→Shared→Prop}{s:Shared}
theorem ZI5 {R:Result→Shared→Prop}{it l:Addr}{items:Array Value}(hh:A.handled=none)(hit:s.heap.IsRevIter it l ((items.size:Int)-1))(hl:s.heap.IsList l items)(hne:l≠it)(hn:items.size≤sizeLine)
    (S:Addr) (hSi:S≠it) (hSl:S≠l) (res:Value) (c₀:Nat) (hS:s.heap.get? S=some { cls:=.type "list",data:=.seq #[] c₀ })
    (hR:∀ h' tk acc' c',(∀ b o,b≠S→b≠it→s.heap.get? b=some o→h'.get? b=some o)→h'.get? S=some { cls:=.type "list",dict:=none,data:=.seq acc' c',slots:=#[] }→
      ItemsOf (fun i v=>items[items.size-1-i]?=some v) acc' items.size→R (.ok (.ret res)) { s with heap:=h',toks:=tk }):
    wpAny (model prog w) A.in1 (Builtin.List.listExtendWith (.ref S) (.ref it) res)
      (fun fin s'=>match fin with | .done f=>R (.ok f) s' | .again c'=>c'.quiet=true∧codeAny (model prog w) A c' R s') (fun e s'=>R (.error e) s') s:=by
  have hSf:S∉[it,l]:=fun hm=>by
    rcases List.mem_cons.mp hm with e | hm
    · exact hSi e
    · exact hSl (List.mem_singleton.mp hm)
  have W:=(Walks.listRev (prog:=prog) (w:=w) (A:=A.in1) hh it l hne items).toS
  unfold Builtin.List.listExtendWith
  refine wpAny_bind (wpAny_typeOf (T:="list_reverseiterator") hit.typeIs ?_)
  have h1:Builtin.List.listSameRef (.ref S) (.ref it)=false:=by simp [Builtin.List.listSameRef,hSi]
  have h2:(Value.type "list_reverseiterator"==Value.type "list")=false:=by decide
  have h3:(Value.type "list_reverseiterator"==Value.type "tuple")=false:=by decide
  simp only [h1,h2,h3,Bool.or_false,Bool.false_eq_true,if_false]
  refine wpAny_bind (wpAny_pyIter_revIter hit ?_)
  refine wpAny_bind (wpAny_holding (ZLU hit ?_))
  rw [if_neg (by decide +kernel)]
  have e0:(items.size:Int)-1-((0:Nat):Int)=(items.size:Int)-1:=by omega
  refine wpAny_pure ⟨plainId_quiet F.plain_extend_loop _,codeAny_extend_loopS W hn S hSf res items.size 0 s #[] c₀ rfl (Nat.zero_le _) ⟨Nat.zero_le _,by rw [e0];exact hit,hl⟩ hS (ItemsOf.nil _) fun s' acc' c' hm hS' hacc=>?_⟩
  rw [Moved.eq_with hm]
  refine hR s'.heap s'.toks acc' c' (fun b o hb hb2 e=>hm.heap b o (fun hmem=>?_) e) hS' hacc
  rcases List.mem_cons.mp hmem with e' | hmem
  · exact hb e'
  · exact hb2 (List.mem_singleton.mp hmem)
theorem ZGN {R:Result→Shared→Prop}{it l:Addr}{items:Array Value}(hh:A.handled=none)(hit:s.heap.IsRevIter it l ((items.size:Int)-1))(hl:s.heap.IsList l items)(hne:l≠it)(hn:items.size≤sizeLine)
    (S:Addr) (hSi:S≠it) (hSl:S≠l) (hS:s.heap.get? S=some { cls:=.type "list",data:=.seq #[] })
    (hR:∀ h' tk acc' c',(∀ b o,b≠S→b≠it→s.heap.get? b=some o→h'.get? b=some o)→h'.get? S=some { cls:=.type "list",dict:=none,data:=.seq acc' c',slots:=#[] }→
      ItemsOf (fun i v=>items[items.size-1-i]?=some v) acc' items.size→R (.ok (.ret .none)) { s with heap:=h',toks:=tk }):
    wpAny (model prog w) A.in1 (Builtin.«list.__init__» ⟨[.ref S,.ref it],[]⟩)
      (fun fin s'=>match fin with | .done f=>R (.ok f) s' | .again c'=>c'.quiet=true∧codeAny (model prog w) A c' R s') (fun e s'=>R (.error e) s') s:=by
  show wpAny _ _ (do let old ← Builtin.List.listItems (.ref S);Builtin.List.listUpdate (.ref S) (fun _=>#[]);letGo old.toList.reverse;Builtin.List.listExtendWith (.ref S) (.ref it) .none) _ _ s
  refine wpAny_bind ?_
  unfold Builtin.List.listItems
  refine wpAny_bind (wpAny_seqItems hS rfl (wpAny_pure ?_))
  show wpAny _ _ (updateSeq S (fun _=>#[]) >>= fun _=>letGo (#[]:Array Value).toList.reverse >>= fun _=>Builtin.List.listExtendWith (.ref S) (.ref it) .none) _ _ s
  refine wpAny_bind (wpAny_updateSeq hS rfl ?_)
  have hS₂:=Heap.get?_update_self (Obj.mapSeq (fun _=>(#[]:Array Value))) hS rfl
  have oth:∀ b o,b≠S→s.heap.get? b=some o→(s.heap.update S (Obj.mapSeq (fun _=>(#[]:Array Value)))).get? b=some o:=
    fun b o hb e=>(Heap.get?_update_other _ _ (Ne.symm hb)).trans e
  refine wpAny_bind (wpAny_letGo ?_)
  refine ZI5 hh (hit.at fun o e=>oth _ o (Ne.symm hSi) e) (hl.at fun o e=>oth _ o (Ne.symm hSl) e) hne hn S hSi hSl .none _ hS₂ fun h' tk acc' c' hk hS' hacc=>?_
  exact hR h' tk acc' c' (fun b o hb hb2 e=>hk b o hb hb2 (oth b o hb e)) hS' hacc
theorem ZGO {Q:Value→Shared→Prop}{it l:Addr}{items:Array Value}(hh:A.handled=none)(hit:s.heap.IsRevIter it l ((items.size:Int)-1))(hl:s.heap.IsList l items)(hne:l≠it)(hn:items.size≤sizeLine)
    (hQ:∀ h' tk acc' c',(∀ b o,b≠it→s.heap.get? b=some o→h'.get? b=some o)→
      h'.get? s.heap.objs.size=some { cls:=.type "list",dict:=none,data:=.seq acc' c',slots:=#[] }→ItemsOf (fun i v=>items[items.size-1-i]?=some v) acc' items.size→Q (.ref s.heap.objs.size) { s with heap:=h',toks:=tk }):
    wpAny (model prog w) A (call (.type "list") [.ref it]) Q E s:=by
  refine callType_codes (Q₁:=fun obj s₁=>obj=.ref s.heap.objs.size∧s₁={ s with heap:=s.heap.push { cls:=.type "list",data:=.seq #[] } }) F.called_list (F.typeCall_list_1 _) F.entry_list_init
    (code_list_new _ ⟨rfl,rfl⟩) fun obj s₁ h₁=>?_
  obtain ⟨rfl,rfl⟩:=h₁
  have hS:(s.heap.push { cls:=.type "list",data:=.seq #[] }).get? s.heap.objs.size=some { cls:=.type "list",data:=.seq #[] }:=Heap.get?_push_size _ rfl
  have i1:s.heap.objs.size≠it:=by obtain ⟨o,q,_⟩:=hit;exact Nat.ne_of_gt (Heap.lt_size q)
  have i2:s.heap.objs.size≠l:=by obtain ⟨o,q,_⟩:=hl;exact Nat.ne_of_gt (Heap.lt_size q)
  refine ⟨⟨_,hS,rfl⟩,F.args_list_init_2 _ _,ZGN (A:=A.in1) hh (hit.at fun o e=>Heap.get?_push_of_some _ e) (hl.at fun o e=>Heap.get?_push_of_some _ e) hne hn _ i1 i2 hS fun h' tk acc' c' hk hS' hacc=>?_⟩
  exact ⟨rfl,hQ h' tk acc' c' (fun b o hb e=>hk b o (Nat.ne_of_lt (Heap.lt_size e)) hb (Heap.get?_push_of_some _ e)) hS' hacc⟩
end
end L2
namespace L2
open PySem PySem.Spec PyProof.Rows
theorem ZJ7 {its:List Value}{acc:Array Value}(h:ItemsOf (fun i v=>its.toArray[its.toArray.size-1-i]?=some v) acc its.toArray.size):acc=its.reverse.toArray:=by
  obtain ⟨h1,h2⟩:=h
  apply Array.ext'
  rw [List.toList_toArray]
  apply List.ext_getElem?
  intro j
  have hz:acc.toList.length=its.length:=by rw [Array.length_toList,h1,List.size_toArray]
  by_cases c:j<its.length
  · have hj:acc[j]?=some (acc[j]'(by rw [h1,List.size_toArray];exact c)):=Array.getElem?_eq_getElem _
    have e:=h2 j _ hj
    rw [List.getElem?_reverse c,Array.getElem?_toList,hj,← e]
    simp
  · rw [List.getElem?_eq_none (by omega),List.getElem?_eq_none (by rw [List.length_reverse];omega)]
section
variable {X:Cx}
def ZP4 (K:PySem.W.Frag)(te:TE):TE:=fun σ H Q=>te σ H fun x H1=>∃ a xs,x=.ref a∧SqL K H1 a xs∧∀ l,H1 l=none→Q (.ref l) (upd H1 l (.lst xs.reverse))
theorem ZHq:bootBuiltins "reversed"=some (.type "reversed"):=by decide +kernel
theorem ZI6 {e:Expr}{te:TE}{p p2 pos pos2:Pos}(hc:X.calm=true)(hg:Gl X "list")(hm:X.mg "list"=none)(hv:bootBuiltins "list"=some (.type "list"))(hg2:Gl X "reversed")(hm2:X.mg "reversed"=none)(he:PE X e te)
    (hs:starEach [e] X.env=(false,eval e X.env)::starEach [] X.env:=by rfl):
    PE X (.Call (.Name "list" p) [.Call (.Name "reversed" p2) [e] [] pos2] [] pos) (ZP4 X.K te):=by
  intro pins s σ H Q I h
  refine wpAny_Call_Name_kw (ZDp I hg hm hv ?_)
  refine PyProof.Rows.callWith_type1 ?_ rfl rfl
  show wpAny _ _ (spliced ((false,eval (.Call (.Name "reversed" p2) [e] [] pos2) X.env)::backTo pos (starEach [] X.env))) _ _ s
  refine Calls.spliced_cons ?_
  refine wpAny_Call_Name_kw (ZDp I hg2 hm2 ZHq ?_)
  refine PyProof.Rows.callWith_type1 ?_ hs rfl
  rw [hs]
  show wpAny _ _ (spliced ((false,eval e X.env)::backTo pos2 (starEach [] X.env))) _ _ s
  refine Calls.spliced_cons (thn (he pins s σ H _ I h) fun u s1 ⟨x,H1,I1,r1,q1⟩=>Calls.spliced_nil ?_)
  obtain ⟨a,xs,rfl,hq,q⟩:=q1
  cases r1
  obtain ⟨its,rv,pl,hz⟩:=I1.list hq
  have hlen:=rv.length
  have hl:=pl.isList
  refine call_reversed_list hl (Calls.spliced_nil ?_)
  have la:a<s1.heap.objs.size:=by obtain ⟨o,z,_⟩:=hl;exact Heap.lt_size z
  refine ZGO (items:=its.toArray) (I.ok.hd hc) ⟨_,Heap.get?_push_size _ rfl,rfl,rfl⟩ (hl.at fun o z=>Heap.get?_push_of_some _ z) (Nat.ne_of_lt la) (by rw [List.size_toArray];omega) fun h' tk acc' c' hk hS' hacc=>?_
  have e:=ZJ7 hacc
  subst e
  have hp:s1.heap.objs.size≤(s1.heap.push (revObj a ((its.toArray.size:Int)-1))).objs.size:=by rw [Heap.size_push];exact Nat.le_succ _
  refine ⟨.ref _,_,I1.laid (t':=tk) (o:=.lst xs.reverse) (fun b o z=>hk b o (Nat.ne_of_lt (Heap.lt_size z)) (Heap.get?_push_of_some _ z)) hp ?_,rfl,q _ (I1.hok.fresh hp)⟩
  exact ⟨by rw [List.length_reverse];exact hz,its.reverse,c',ZLQ rv,hS'⟩
end
end L2
namespace L2
open PySem PySem.Spec PyProof.Rows
theorem ZGP {X:Cx}{es:List Expr}{te:TE}{t:TA}{pos:Pos}{a0:Arguments}{a1:Expr}{a2:Scope}(ha:PE X (Expr.Lambda a0 a1 a2 pos) te)(hr:PA X es t):PA X ((Expr.Lambda a0 a1 a2 pos)::es) (ZET te t):=ZCb ha hr rfl
def BM (mg:Str→Option Value)(base:Heap):Prop:=
  ∃ bm o,mg "__builtins__"=some (.ref bm)∧(bm≠builtinsNs∧bm≠mainGlobals)∧base.get? bm=some o∧o.cls=.type "module"∧o.dict=some builtinsNs∧o.data=.plain
theorem BM.keep {mg:Str→Option Value}{h h':Heap}(B:BM mg h)(k:∀ b o,h.get? b=some o→h'.get? b=some o):BM mg h':=by
  obtain ⟨bm,o,a,n,e,r⟩:=B
  exact ⟨bm,o,a,n,k _ _ e,r⟩
def ZHr (H:Hp)(q:Str)(c:Addr):Prop:=∃ o vs t,H c=some (.frz o (.own 0))∧o.data=.fields vs∧vs[1]?=some (.str q t)
def ZCI (H:Hp)(P:Addr)(q:Str):Prop:=∃ ps,H P=some (.tbl ps)∧TriplesOk ps.toList∧∀ pos cv,codeAmong pos ps.toList=some cv→∃ c,cv=.ref c∧ZHr H q c
theorem ZHr.keep {H H':Hp}{q:Str}{c:Addr}(x:ZHr H q c)(h:∀ b o,H b=some (.frz o (.own 0))→H' b=some (.frz o (.own 0))):ZHr H' q c:=by
  obtain ⟨o,vs,t,e,r⟩:=x
  exact ⟨o,vs,t,h _ _ e,r⟩
theorem ZCI.sm {H H':Hp}{P:Addr}{q:Str}(x:ZCI H P q)(h:ZAM H H'):ZCI H' P q:=by
  obtain ⟨ps,e,t,k⟩:=x
  refine ⟨ps,h _ _ e,t,fun pos cv z=>?_⟩
  obtain ⟨c,e1,e2⟩:=k pos cv z
  exact ⟨c,e1,e2.keep fun b o=>h b _⟩
theorem ZCI.nil {H:Hp}{P:Addr}{q:Str}(h:H P=some (.tbl #[])):ZCI H P q:=⟨#[],h,trivial,fun _ _ z=>by cases z⟩
theorem ZHG {a b:Int}{ta tb:Tok}{c:Value}:∀ l:List Value,TriplesOk l→TriplesOk (l++[.int a ta,.int b tb,c]):=fun l=>by
  fun_induction TriplesOk l with
  | case1=>intro _;exact trivial
  | case2 a t b u x ZEu ih=>intro h;exact ih h
  | case3=>intro h;exact h.elim
theorem ZI7 {p:Pos}{a b:Int}{ta tb:Tok}{c cv:Value}:∀ l:List Value,TriplesOk l→codeAmong p (l++[.int a ta,.int b tb,c])=some cv→codeAmong p l=some cv∨cv=c:=fun l=>by
  fun_induction TriplesOk l with
  | case1=>
    intro _ h
    simp only [List.nil_append,codeAmong] at h
    split at h
    · cases h;exact .inr rfl
    · cases h
  | case2 a t b u x ZEu ih=>
    intro ht h
    simp only [List.cons_append,codeAmong] at h ⊢
    split at h
    · rename_i hc;rw [if_pos hc];exact .inl h
    · rename_i hc;rw [if_neg hc];exact ih ht h
  | case3=>intro h;exact h.elim
def ZP5 (H:Hp)(q:Str)(f:Addr)(params:Arguments)(body:Expr)(scope:Scope)(cl:List (Str×Addr))(pm:Value):Prop:=
  ∃ c ctv,H f=some (.frz (PySem.W.kla_obj "<lambda>" q params body scope cl pm c ctv) (.own 0))∧ZHr H q c
def tLam (P:Addr)(q:Str)(params:Arguments)(body:Expr)(scope:Scope)(cl:List (Str×Addr))(pm:Value):TE:=fun _ H Q=>ZCI H P q∧
  ∀ f H',H f=none→(∀ b o,b≠P→H b=some o→H' b=some o)→ZCI H' P q→ZP5 H' q f params body scope cl pm→Q (.ref f) H'
section
variable {X:Cx}{pins:List (Addr×Obj)}{σ:St}{H:Hp}{s:Shared}
theorem ZLV {P f c:Addr}{h1:Heap}{o oc:Obj}{ps:Array Value}{i j:Int}{ta tb:Tok}{tk:Nat}(I:Inv X pins σ H s)(hP:H P=some (.tbl ps))
    (hx:Heap.ExtBut P s.heap h1) (hge:s.heap.objs.size≤c) (hlt:c<h1.objs.size) (hf:f=h1.objs.size) (hc:h1.get? c=some oc) (htb:h1.get? P=some (PySem.W.tabObj (ps++#[.int i ta,.int j tb,.ref c])))
    (hof:o.isFreed=false):
    Inv X pins σ (upd (upd (upd H P (.tbl (ps++#[.int i ta,.int j tb,.ref c]))) c (.frz oc (.own 0))) f (.frz o (.own 0))) { s with heap:=h1.push o,toks:=tk }:=by
  subst hf
  have Plt:P<s.heap.objs.size:=I.hok.lt hP
  have hcP:c≠P:=fun z=>by rw [z] at hge;exact absurd Plt (Nat.not_lt.mpr hge)
  have hfP:h1.objs.size≠P:=fun z=>by rw [← z] at Plt;exact absurd (Nat.lt_trans Plt (Nat.lt_of_le_of_lt hge hlt)) (Nat.lt_irrefl _)
  have hfc:h1.objs.size≠c:=(Nat.ne_of_lt hlt).symm
  have other:∀ b,b<s.heap.objs.size→b≠P→(upd (upd (upd H P (.tbl (ps++#[.int i ta,.int j tb,.ref c]))) c (.frz oc (.own 0))) h1.objs.size (.frz o (.own 0))) b=H b:=fun b hb hne=>by
    rw [ZAa (Nat.ne_of_lt (Nat.lt_trans (Nat.lt_of_lt_of_le hb hge) hlt)),ZAa (Nat.ne_of_lt (Nat.lt_of_lt_of_le hb hge)),ZAa hne]
  have keep:∀ b u,b≠P→s.heap.get? b=some u→(h1.push o).get? b=some u:=fun b u hb e=>Heap.get?_push_of_some _ (hx b u hb e)
  have atP:(h1.push o).get? P=some (PySem.W.tabObj (ps++#[.int i ta,.int j tb,.ref c])):=Heap.get?_push_of_some _ htb
  have hPv:(upd (upd (upd H P (.tbl (ps++#[.int i ta,.int j tb,.ref c]))) c (.frz oc (.own 0))) h1.objs.size (.frz o (.own 0))) P=some (.tbl (ps++#[.int i ta,.int j tb,.ref c])):=by
    rw [ZAa hfP.symm,ZAa hcP.symm,ZAE]
  have nP:∀ b,H b=none→b≠P:=fun b n z=>by rw [z,hP] at n;cases n
  refine I.un (t':=tk) ⟨fun b u e n _ _=>keep b u (nP b n) e,fun b u e n _ _=>⟨u.slots,keep b u (nP b n) e⟩,fun b u e n _=>?_,fun b u e _=>?_,fun b xs e=>?_,fun b u xs e=>?_,fun b qs e=>?_⟩ fun b u e=>?_
  · rw [other b (Heap.lt_size e) (nP b n)];exact n
  · by_cases hb:b=P
    · subst hb;exact ⟨_,atP⟩
    · exact ⟨u,keep b u hb e⟩
  · rw [other b (I.hok.lt e) fun z=>by rw [z,hP] at e;cases e];exact e
  · rw [other b (I.hok.lt e) fun z=>by rw [z,hP] at e;cases e];exact e
  · by_cases hb:b=P
    · subst hb
      rw [hP] at e;cases e
      exact ⟨_,hPv⟩
    · exact ⟨#[],by rw [other b (I.hok.lt e) hb,e];simp⟩
  · by_cases hbf:b=h1.objs.size
    · subst hbf
      rw [ZAE] at e;cases e
      exact ⟨Heap.get?_push_size _ hof,_,Heap.get?_push_size _ hof⟩
    · by_cases hbc:b=c
      · subst hbc
        rw [ZAa hbf,ZAE] at e;cases e
        exact ⟨Heap.get?_push_of_some _ hc,_,Heap.get?_push_of_some _ hc⟩
      · by_cases hbP:b=P
        · subst hbP
          rw [hPv] at e;cases e
          exact atP
        · rw [ZAa hbf,ZAa hbc,ZAa hbP] at e
          refine (I.hok b u e).stay (fun d v hd q=>keep d v ?_ q) (fun d z=>?_) fun d xs z=>?_
          · rcases hd with z | z
            · rw [z];exact hbP
            · intro y;rw [y,hP] at z;cases z
          · rw [other d (I.hok.lt z) fun y=>by rw [y,hP] at z;cases z];exact z
          · rw [other d (I.hok.lt z) fun y=>by rw [y,hP] at z;cases z];exact z
theorem ZJ8 {params:Arguments}{body:Expr}{scope:Scope}{pos:Pos}{c P:Addr}{clos:List (Str×Addr)}(hdef:defaultsOf params X.env=([],[]))(hcl:closureFor scope X.env=pure clos)(hcode:X.env.code=.ref c)
    (C:PySem.W.CodeHd X.base c P) (B:BM X.mg X.base):PE X (.Lambda params body scope pos) (tLam P (X.env.qual++"<lambda>") params body scope clos ((X.mg "__name__").getD .none)):=by
  intro pins s σ H Q I h
  obtain ⟨⟨ps,hP,ht,hall⟩,hq⟩:=h
  obtain ⟨bm,ob,b1,⟨b2,b3⟩,b4,b5,b6,b7⟩:=B
  have hPh:s.heap.get? P=some (PySem.W.tabObj ps):=I.hok P _ hP
  have hgs:=I.mod.glob.keeps I.bk
  have hgP:mainGlobals≠P:=fun q=>by
    obtain ⟨o,es,ep,e,hd,_⟩:=hgs
    rw [q,hPh] at e;cases e;cases hd
  have hbP:bm≠P:=fun q=>by
    have e:=I.bk _ _ b4
    rw [q,hPh] at e;cases e;cases b5
  have hb:s.heap.BuiltinsAt X.mg P:=⟨bm,ob,b1,b2,b3,hbP,I.bk _ _ b4,b5,b6,b7⟩
  refine PySem.W.kla_eval hdef ?_
  cases hf:codeAmong pos ps.toList with
  | none=>
    refine PySem.W.kla_makeFunction (mg:=X.mg) hcl I.ok.glob hgs hcode (C.keeps I.bk) hPh ht hf hgP hb fun c' ctv h' tk hx hge hlt hrec htb=>?_
    obtain ⟨c₂,oc,vs,t,e2,hoc,hd,hv⟩:=hrec
    cases e2
    have Plt:P<s.heap.objs.size:=I.hok.lt hP
    have ltf:s.heap.objs.size<h'.objs.size:=Nat.lt_of_le_of_lt hge hlt
    have fnew:H h'.objs.size=none:=I.hok.fresh (Nat.le_of_lt ltf)
    have cnew:H c'=none:=I.hok.fresh hge
    have hcP:c'≠P:=fun z=>by rw [z] at hge;exact absurd Plt (Nat.not_lt.mpr hge)
    have hfP:h'.objs.size≠P:=fun z=>by rw [← z] at Plt;exact absurd (Nat.lt_trans Plt ltf) (Nat.lt_irrefl _)
    have I2:=ZLV (tk:=tk) (o:=PySem.W.kla_obj "<lambda>" (X.env.qual++"<lambda>") params body scope clos ((X.mg "__name__").getD .none) c' ctv) I hP hx hge hlt rfl hoc htb rfl
    have hfc:c'≠h'.objs.size:=Nat.ne_of_lt hlt
    refine ⟨.ref h'.objs.size,_,I2,rfl,hq _ _ fnew (fun b o hb e=>?_) ⟨ps++#[rawInt pos.line,rawInt pos.col,.ref c'],?_,?_,fun p cv z=>?_⟩ ⟨c',ctv,ZAE,oc,vs,t,?_,hd,hv⟩⟩
    · rw [ZAa (ZAY e fnew),ZAa (ZAY e cnew),ZAa hb];exact e
    · rw [ZAa hfP.symm,ZAa hcP.symm,ZAE];rfl
    · rw [Array.toList_append];exact ZHG _ ht
    · rw [Array.toList_append] at z
      rcases ZI7 _ ht z with z | z
      · obtain ⟨d,e1,o,vs',t',e3,r⟩:=hall p cv z
        have ndP:d≠P:=fun y=>by rw [y,hP] at e3;cases e3
        exact ⟨d,e1,o,vs',t',by rw [ZAa (ZAY e3 fnew),ZAa (ZAY e3 cnew),ZAa ndP];exact e3,r⟩
      · exact ⟨c',z,oc,vs,t,by rw [ZAa hfc,ZAE],hd,hv⟩
    · rw [ZAa hfc,ZAE]
  | some cv=>
    obtain ⟨c',rfl,o,vs,t,ec,r⟩:=hall pos cv hf
    refine PySem.W.kla_makeFunctionHit (mg:=X.mg) hcl I.ok.glob hgs hcode (C.keeps I.bk) hPh ht hf hb fun ctv h' tk hk hsz=>?_
    have fnew:H h'.objs.size=none:=I.hok.fresh hsz
    have k2:∀ b u,s.heap.get? b=some u→(h'.push (PySem.W.kla_obj "<lambda>" (X.env.qual++"<lambda>") params body scope clos ((X.mg "__name__").getD .none) c' ctv)).get? b=some u:=fun b u e=>Heap.get?_push_of_some _ (hk b u e)
    have sm:ZAM H (upd H h'.objs.size (.frz (PySem.W.kla_obj "<lambda>" (X.env.qual++"<lambda>") params body scope clos ((X.mg "__name__").getD .none) c' ctv) (.own 0))):=fun b u e=>by rw [ZAa (ZAY e fnew)];exact e
    have I2:=I.laid (t':=tk) (a:=h'.objs.size) (o:=.frz (PySem.W.kla_obj "<lambda>" (X.env.qual++"<lambda>") params body scope clos ((X.mg "__name__").getD .none) c' ctv) (.own 0)) k2 hsz ⟨Heap.get?_push_size _ rfl,_,Heap.get?_push_size _ rfl⟩
    exact ⟨.ref h'.objs.size,_,I2,rfl,hq _ _ fnew (fun b o _ e=>sm b o e) (ZCI.sm ⟨ps,hP,ht,hall⟩ sm) ⟨c',ctv,ZAE,o,vs,t,sm _ _ ec,r⟩⟩
end
def ZOU (q:Str)(o:Obj):Bool:=match o.data with
  | .func fd=>fd.qualname==q
  | .fields vs=>(match (vs[1]?:Option Value) with
    | some (.str z _)=>z==q
    | _=>false)
  | _=>false
def kn (q:Str):Option HO→Option Obj
  | some (.frz o (.own 0))=>if ZOU q o=true then some o else none
  | _=>none
section
variable {q:Str}
theorem ZFI {x:Option HO}{o:Obj}(h:kn q x=some o):x=some (.frz o (.own 0)):=by
  unfold kn at h
  split at h
  · split at h
    · cases h;rfl
    · cases h
  · cases h
theorem ZOV {H:Hp}{b:Addr}{o:Obj}(h:H b=some (.frz o (.own 0)))(w:ZOU q o=true):kn q (H b)=some o:=by rw [h];unfold kn;exact if_pos w
theorem ZOW {H:Hp}{b:Addr}{o:Obj}(h:H b=some (.frz o (.own 0)))(w:ZOU q o=false):kn q (H b)=none:=by rw [h];unfold kn;exact if_neg (by rw [w];exact Bool.false_ne_true)
theorem ZIW {o:Obj}{vs:Array Value}{t:Tok}{z:Str}(d:o.data=.fields vs)(h:vs[1]?=some (.str z t)):ZOU q o=(z==q):=by
  unfold ZOU
  rw [d]
  dsimp only
  rw [h]
def del (q:Str)(H:Hp):Hp:=fun b=>if (kn q (H b)).isSome=true then none else H b
def put (q:Str)(H H':Hp):Hp:=fun b=>match kn q (H b) with
  | some o=>some (.frz o (.own 0))
  | none=>H' b
theorem ZJ9 {H:Hp}{b:Addr}{o:Obj}(h:kn q (H b)=some o):del q H b=none:=if_pos (by rw [h];rfl)
theorem ZFJ {H:Hp}{b:Addr}(h:kn q (H b)=none):del q H b=H b:=if_neg (by rw [h];exact Bool.false_ne_true)
theorem ZF7 {H:Hp}{b:Addr}{o:HO}(h:H b=some o)(n:kn q (some o)=none):del q H b=some o:=by rw [ZFJ (by rw [h];exact n),h]
theorem ZDi {H:Hp}{b:Addr}(h:H b=none):del q H b=none:=by
  unfold del
  split
  · rfl
  · exact h
theorem ZLW {H:Hp}{b:Addr}{o:HO}(h:del q H b=some o):H b=some o∧kn q (H b)=none:=by
  unfold del at h
  split at h
  · cases h
  · rename_i n
    refine ⟨h,?_⟩
    cases w:kn q (H b) with
    | none=>rfl
    | some u=>exact absurd (by rw [w];rfl) n
theorem ZIX {H H':Hp}{b:Addr}{o:Obj}(h:kn q (H b)=some o):put q H H' b=some (.frz o (.own 0)):=by
  unfold put
  rw [h]
theorem ZCJ {H H':Hp}{b:Addr}(h:kn q (H b)=none):put q H H' b=H' b:=by
  unfold put
  rw [h]
end
structure ZI8 (X:Cx)(σ:St)(q:Str)(H:Hp)(base':Heap):Prop where
  sub:∀ b o,X.base.get? b=some o→base'.get? b=some o
  sz:X.base.objs.size≤base'.objs.size
  mod:Mod X.K X.mg base'
  old:Mod X.K X.mg X.base
  new:∀ b o,kn q (H b)=some o→base'.get? b=some o
  cel:∀ x c,X.env.cells.lookup x=some c→∃ v,base'.IsCell c v
  val:∀ (i:Nat) (x:Str) (v:V) (c:Addr),X.N[i]?=some x→σ[i]?=some (some v)→X.env.scope.names.lookup x=some .cell→X.env.cells.lookup x=some c→∃ u,ZBC v u∧base'.IsCell c (some u)
  inj:∀ x y c,X.env.cells.lookup x=some c→X.env.cells.lookup y=some c→x=y
theorem ZIY {h base base':Heap}(sub:∀ b o,base.get? b=some o→base'.get? b=some o):∀ {l:List Env},h.FunFrames base' l→h.FunFrames base l
  | [],_=>trivial
  | _::_,⟨a,⟨L,o,f,n,e,d⟩,r⟩=>⟨a,⟨L,o,f,(by
      cases q:base.get? L with
      | none=>rfl
      | some u=>rw [sub L u q] at n;cases n),e,d⟩,ZIY sub r⟩
section
variable {P:Program}{w:World}{K:PySem.W.Frag}{mg:Str→Option Value}{base base':Heap}{k:Nat}{f:Addr}{fd:FuncData}{ps:List Str}{sp:Sp}
theorem ZBS.wide (F:ZBS P w K mg base CX0 k f fd ps sp)(M:Mod K mg base)(sub:∀ b o,base.get? b=some o→base'.get? b=some o)(sz:base.objs.size≤base'.objs.size):ZBS P w K mg base' CX0 k f fd ps sp:=
  ⟨F.len,fun A outer s H args us vs Q E hr e hb hv hs=>F.run A outer s H args us vs Q E hr ⟨e.frames,M,fun b o z=>e.bs b o (sub b o z),Nat.le_trans sz e.bsz,ZIY sub e.funs,e.frf,e.hok,e.bare⟩ hb hv hs⟩
def FV (P:Program)(w:World)(K:PySem.W.Frag)(mg:Str→Option Value)(base:Heap)(k:Nat)(f:Addr)(sp:Sp):Prop:=
  ∃ fd ps oc od sl,base.get? f=some ⟨oc,od,.func fd,sl⟩∧(∀ (s:Shared) (us:List Value),K.In s.heap→us.length=ps.length→BindsTo s fd ⟨us,[]⟩ (ps.zip us))∧ZBS P w K mg base CX0 k f fd ps sp
theorem FV.wide (G:FV P w K mg base k f sp)(M:Mod K mg base)(sub:∀ b o,base.get? b=some o→base'.get? b=some o)(sz:base.objs.size≤base'.objs.size):FV P w K mg base' k f sp:=by
  obtain ⟨fd,ps,oc,od,sl,e,b,F⟩:=G
  exact ⟨fd,ps,oc,od,sl,sub _ _ e,b,F.wide M sub sz⟩
end
theorem ZI8.fv {X:Cx}{σ:St}{q:Str}{H:Hp}{base':Heap}{k:Nat}{f:Addr}{sp:Sp}(W:ZI8 X σ q H base')(G:FV X.prog X.w X.K X.mg X.base k f sp):FV X.prog X.w X.K X.mg base' k f sp:=G.wide W.old W.sub W.sz
section
variable {X:Cx}
def ZMG (X:Cx)(k:Nat)(tf:TE)(t:TA):TE:=fun σ H Q=>tf σ H fun x H1=>∃ f sp,x=.ref f∧FV X.prog X.w X.K X.mg X.base k f sp∧t σ H1 fun vs H2=>sp vs H2 Q E0
theorem ZLX {M:Model}{f:Addr}{fd:FuncData}{oc:Value}{od:Option Addr}{sl:Array (Option Value)}(h:Heap)(e:h.get? f=some ⟨oc,od,.func fd,sl⟩):
    ∃ k,(k=Keeper.frame∨k=Keeper.machine∨k=Keeper.boundFrame)∧PySem.W.Looks M h (keeperOf (.ref f)) k:=
  ⟨.frame,.inl rfl,(PySem.W.Looks.ld (part:=none) e).andThen .now⟩
theorem ZGQ {k:Nat}{fe e:Expr}{es:List Expr}{tf:TE}{t:TA}{pos:Pos}(hf:PE X fe tf)(hr:ZES k X.A)(ha:PA X (e::es) t)
    (hc:eval (.Call fe (e::es) [] pos) X.env=(do callWith pos (← eval fe X.env) [] (backTo pos (starEach (e::es) X.env)) (backToKw pos (keywordEach [] X.env))):=by rfl)
    (he:starEach (e::es) X.env=(false,eval e X.env)::starEach es X.env:=by rfl) (hpl:(backTo pos (starEach es X.env)).any (·.1)=false:=by rfl):PE X (.Call fe (e::es) [] pos) (ZMG X k tf t):=by
  intro pins s σ H Q I h
  refine Call_ (thn (hf pins s σ H _ I h) fun v s1 zq=>?_) hc
  obtain ⟨x,H1,I1,rx,f,sp,ex,G,q⟩:=zq
  subst ex
  cases rx
  obtain ⟨fd,ps,oc,od,sl,eo,hb,F⟩:=G
  have hA:=ha pos pins s1 σ H1 _ I1 q
  rw [he] at hA ⊢
  refine PySem.W.callWith_of (P:=fun h=>h.get? f=some ⟨oc,od,.func fd,sl⟩) (by show ((false||(backTo pos (starEach es X.env)).any (·.1))||false)=false;rw [hpl];rfl) ZLX
    (PySem.Calls.evalArgs_plain (thn hA fun us s2 ⟨vs,H2,I2,r,q2⟩=>⟨I2.bk _ _ eo,?_⟩))
  have hl:us.length=ps.length:=by rw [← r.length];exact F.len _ _ _ _ q2
  refine wpAny_call (codeAny_mono (F.run X.A X.stack s2 H2 ⟨us,[]⟩ us vs Q E0 hr I2.env0 (hb s2 us I2.kIn hl) r q2) fun r s' hq=>?_)
  cases r with
  | error e=>exact False.elim hq
  | ok fl=>
    cases fl with
    | ret u=>exact I2.after hq
    | next=>exact False.elim hq
    | brk=>exact False.elim hq
    | cont=>exact False.elim hq
end
theorem ZHH {h base base':Heap}:∀ {l:List Env},h.FunFrames base l→(∀ b∈frs l,base'.get? b=none)→h.FunFrames base' l
  | [],_,_=>trivial
  | _::_,⟨a,⟨L,o,f,n,e,d⟩,r⟩,hn=>⟨a,⟨L,o,f,hn L (by unfold frs;rw [List.filterMap_cons,f];exact List.mem_cons_self),e,d⟩,ZHH r fun b hb=>hn b (by unfold frs;rw [List.filterMap_cons,f];exact List.mem_cons_of_mem _ hb)⟩
theorem ZM6 {q:Str}{P:Program}{w:World}{H:Hp}{h:Heap}(x:HOk P w H h):HOk P w (del q H) h:=fun b o e=>by
  obtain ⟨e1,_⟩:=ZLW e
  exact (x b o e1).stay (fun _ _ _ e=>e) (fun c e=>ZF7 e rfl) fun c xs e=>ZF7 e rfl
section
variable {X:Cx}{pins:List (Addr×Obj)}{σ:St}{H:Hp}{s:Shared}{q:Str}
def wid (X:Cx)(q:Str)(H:Hp)(s:Shared):Heap:=PySem.W.hideAll (ZJQ s.heap (del q H)) (frs X.stack)
theorem ZKA {b:Addr}{o:Obj}(e:s.heap.get? b=some o)(n:del q H b=none)(hb:b∉frs X.stack):(wid X q H s).get? b=some o:=PySem.W.hideAll_get _ (ZIG e n) hb
theorem ZOX {b:Addr}{o:Obj}(e:(wid X q H s).get? b=some o):s.heap.get? b=some o∧del q H b=none:=ZJW (PySem.W.of_hideAll _ e)
theorem ZIZ:(wid X q H s).objs.size=s.heap.objs.size:=(PySem.W.hideAll_size _ _).trans (ZGv _ _)
theorem Inv.wider (I:Inv X pins σ H s)(hfn:∀ x,X.fn x=true):ZI8 X σ q H (wid X q H s):=by
  have nst:∀ b,b≠X.env.locals→b∉X.fs→b∉frs X.stack:=fun b h1 h2 z=>(List.mem_cons.mp (I.stkSub b z)).elim h1 h2
  have sub:∀ b o,X.base.get? b=some o→(wid X q H s).get? b=some o:=fun b o e=>by
    obtain ⟨e1,n⟩:=I.bs b o e
    refine ZKA e1 (ZDi n) (nst b (fun z=>?_) (I.ok.nofr e))
    have h1:=Heap.lt_size e
    rw [z] at h1
    exact absurd (Nat.lt_of_lt_of_le h1 (Nat.le_trans I.ok.bsz I.ok.above)) (Nat.lt_irrefl _)
  have cst:∀ x c,X.env.cells.lookup x=some c→c∉frs X.stack:=fun x c e=>nst c (I.cne x c e) fun z=>by
    obtain ⟨_,o,ho,_⟩:=I.ok.funs.mem z
    exact absurd (Nat.lt_of_lt_of_le (Heap.lt_size ho) (I.ok.cab x c (hfn x) e)) (Nat.lt_irrefl _)
  have cin:∀ x c v,X.env.cells.lookup x=some c→s.heap.IsCell c v→(wid X q H s).IsCell c v:=fun x c v e ⟨o,ho,hd⟩=>⟨o,ZKA ho (ZDi (I.freeC x c e)) (cst x c e),hd⟩
  refine ⟨sub,?_,⟨I.ok.mod.kin.keeps sub,I.ok.mod.glob.keeps sub,?_,I.ok.mod.nolimit.keeps sub⟩,I.ok.mod,fun b o e=>?_,fun x c e=>?_,fun i x v c e1 e2 e3 e4=>?_,I.ok.inj⟩
  · rw [ZIZ];exact Nat.le_trans I.ok.bsz I.sz
  · obtain ⟨mb,h1,h2⟩:=I.ok.mod.blt
    exact ⟨mb,h1.keeps sub,h2⟩
  · have e1:=ZFI e
    refine ZKA (I.hok _ _ e1).1 (ZJ9 e) fun z=>?_
    rw [I.stkFree b z] at e1;cases e1
  · obtain ⟨v,hv⟩:=I.cell x c e
    exact ⟨v,cin x c v e hv⟩
  · obtain ⟨m,hn,hl⟩:=I.loc
    obtain ⟨u,r,l⟩:=hl i x v e1 e2 (.inr (.inl e3))
    refine ⟨u,r,?_⟩
    rcases l with ⟨k,_⟩ | ⟨_,c',ec,z⟩
    · have k':X.env.scope.names.lookup x=some .local:=k
      rw [e3] at k';cases k'
    · rw [e4] at ec;cases ec
      exact cin x c _ e4 z
theorem Inv.envL (I:Inv X pins σ H s)(hfn:∀ x,X.fn x=true):ZN3 X.prog X.w X.K X.mg (wid X q H s) X.A X.stack s (del q H):=
  ⟨I.ok.frames,(I.wider (q:=q) hfn).mod,fun _ _ e=>ZOX e,Nat.le_of_eq ZIZ,ZHH I.stack fun _ hb=>PySem.W.hideAll_none _ hb,fun b hb=>ZDi (I.stkFree b hb),ZM6 I.hok,I.bare⟩
theorem Inv.afterL {Q:VK}{u:Value}{s':Shared}(I:Inv X pins σ H s)(h:CE X.stack X.prog X.w (del q H) s (fun v H2=>(∀ b o,kn q (H b)=some o→H2 b=none)→Q v (put q H H2)) u s'):EP X pins σ Q u s':=by
  obtain ⟨v,H',os,bare,un,hok,r,qq⟩:=h
  have nkn:∀ b o,H b=some o→kn q (some o)=none→kn q (H b)=none:=fun b o e n=>by rw [e];exact n
  have kfree:∀ b o,kn q (H b)=some o→s.heap.get? b=some o∧H' b=none∧s'.heap.get? b=some o:=fun b o e=>by
    have e1:=ZFI e
    have e2:=(I.hok _ _ e1).1
    refine ⟨e2,un.free b o e2 (ZJ9 e) (by simp),un.keep b o e2 (ZJ9 e) (fun z=>?_) (by simp)⟩
    rw [I.stkFree b z] at e1;cases e1
  refine I.after ⟨v,put q H H',os,bare,⟨fun b o e n=>un.keep b o e (ZDi n),fun b o e n=>un.slot b o e (ZDi n),fun b o e n hx=>?_,un.there,fun b xs e=>?_,fun b o w e=>?_,fun b ps e=>?_⟩,fun b o e=>?_,r,qq fun b o e=>(kfree b o e).2.1⟩
  · rw [ZCJ (by rw [n];rfl)];exact un.free b o e (ZDi n) hx
  · rw [ZCJ (nkn b _ e rfl)];exact un.tups b xs (ZF7 e rfl)
  · cases z:kn q (H b) with
    | none=>rw [ZCJ z];exact un.frzs b o w (by rw [ZFJ z];exact e)
    | some u=>
      rw [ZIX z]
      rw [ZFI z] at e
      exact e
  · rw [ZCJ (nkn b _ e rfl)];exact un.tbls b ps (ZF7 e rfl)
  · cases z:kn q (H b) with
    | none=>
      rw [ZCJ z] at e
      have np:∀ c u,H' c=some u→kn q (H c)=none:=fun c u ec=>by
        cases y:kn q (H c) with
        | none=>rfl
        | some w=>rw [(kfree c w y).2.1] at ec;cases ec
      exact (hok b o e).stay (fun _ _ _ e=>e) (fun c e=>by rw [ZCJ (np c _ e)];exact e) fun c xs e=>by rw [ZCJ (np c _ e)];exact e
    | some u=>
      rw [ZIX z] at e;cases e
      exact ⟨(kfree b u z).2.2,_,(kfree b u z).2.2⟩
def ZOY (X:Cx)(k:Nat)(f:Addr)(fd:FuncData)(ps:List Str)(t:TA):TE:=fun σ H Q=>t σ H fun vs H1=>∃ (q:Str) (sp:Sp),(∀ base',ZI8 X σ q H1 base'→ZBS X.prog X.w X.K X.mg base' CX0 k f fd ps sp)∧sp vs (del q H1) (fun v H2=>(∀ b o,kn q (H1 b)=some o→H2 b=none)→Q v (put q H1 H2)) E0
theorem ZIa {k:Nat}{f:Addr}{fd:FuncData}{ps:List Str}{x:Str}{p pos:Pos}{e:Expr}{es:List Expr}{t:TA}(hr:ZES k X.A)(hg:Gl X x)(hm:X.mg x=some (.ref f))(hk:PySem.W.keepIn X.K (.ref f)=true)(hb:ZHl X.K fd ps [])
    (ha:PA X (e::es) t) (hfn:∀ y,X.fn y=true:=by intro _;rfl) (hdb:(x==("__debug__":Str))=false:=by decide) (he:starEach (e::es) X.env=(false,eval e X.env)::starEach es X.env:=by rfl) (hpl:(backTo pos (starEach es X.env)).any (·.1)=false:=by rfl):
    PE X (.Call (.Name x p) (e::es) [] pos) (ZOY X k f fd ps t):=by
  intro pins s σ H Q I h
  refine wpAny_Call_Name_kw (ZE5 I hg hm ?_ hdb)
  refine PySem.W.callWith_K (h₀:=X.base) I.ok.mod.kin hk (thn (ha pos pins s σ H _ I h) fun us s1 ⟨vs,H1,I1,r,qq,sp,F,q⟩=>⟨I1.kIn,?_⟩) he hpl
  have W:=I1.wider (q:=qq) hfn
  have hl:us.length=ps.length:=by rw [← r.length];exact (F _ W).len _ _ _ _ q
  have hB:=hb s1 us I1.kIn (by simpa using hl)
  rw [List.append_nil] at hB
  refine wpAny_call (codeAny_mono ((F _ W).run X.A X.stack s1 (del qq H1) ⟨us,[]⟩ us vs _ E0 hr (I1.envL (q:=qq) hfn) hB r q) fun r s' hq=>?_)
  cases r with
  | error e=>exact False.elim hq
  | ok fl=>
    cases fl with
    | ret u=>exact I1.afterL (q:=qq) hq
    | next=>exact False.elim hq
    | brk=>exact False.elim hq
    | cont=>exact False.elim hq
end
def ZM7 (P:Program)(w:World)(K:PySem.W.Frag)(mg:Str→Option Value)(base:Heap)(N:List Str)(q:Str)(scope:Scope)(f:Addr)(cd:Value)(cl:List (Str×Addr))(A:Around)(outer:List Env)(s:Shared)(H:Hp):Cx where
  prog:=P
  w:=w
  K:=K
  mg:=mg
  base:=base
  A:=A.deeper (PySem.W.envX q scope s.heap.objs.size f cd cl)
  N:=N
  s₀:=s
  H₀:=H
  env:=PySem.W.envX q scope s.heap.objs.size f cd cl
  outer:=outer
  stack:=PySem.W.envX q scope s.heap.objs.size f cd cl::outer
  ex:=[]
  calm:=true
  fn:=fun _=>false
  pn:=[]
  xe:=fun _ _=>False
structure ZLY (X:Cx)(scope:Scope)(cl:List (Str×Addr))(ps fv:List Str)(js:List Nat):Prop where
  kind:scope.kind=.function
  co:scope.isCoroutine=false
  gen:scope.isGenerator=false
  nc:∀ y∈scope.names,y.2≠.cell
  par:∀ y∈ps,scope.names.lookup y=some .local
  fr:∀ y∈scope.names,y.2=.free→y.1∈fv
  nd:(ps++fv).Nodup
  vis:∀ y∈fv,scope.names.lookup y=some .free∧X.env.scope.names.lookup y=some .cell∧(cl.lookup y).isSome=true
  cls:∀ p∈cl,X.env.cells.lookup p.1=some p.2
  sl:Paired (fun y j=>X.N[j]?=some y) fv js
theorem ZFK:∀ (ps:List Str) (us:List Value),List.Sublist ((ps.zip us).map (·.1)) ps
  | [],_=>.slnil
  | _::_,[]=>List.nil_sublist _
  | p::ps,u::us=>.cons₂ p (ZFK ps us)
theorem ZHs {x:Str}{u:Value}:∀ {ps:List Str} {us:List Value} {i:Nat},ps.Nodup→ps[i]?=some x→us[i]?=some u→(ps.zip us).reverse.lookup x=some u:=fun {ps us i} nd h1 h2=>by
  have hm:(x,u)∈ps.zip us:=by
    refine List.mem_of_getElem? (i:=i) ?_
    rw [List.getElem?_zip_eq_some]
    exact ⟨h1,h2⟩
  have nd2:((ps.zip us).reverse.map (·.1)).Nodup:=by
    rw [List.map_reverse]
    refine List.nodup_iff_pairwise_ne.mpr (List.pairwise_reverse.mpr (List.Pairwise.imp (fun h=>Ne.symm h) (List.nodup_iff_pairwise_ne.mp ?_)))
    exact List.Nodup.sublist (ZFK ps us) nd
  have go:∀ l:List (Str×Value),(l.map (·.1)).Nodup→(x,u)∈l→l.lookup x=some u:=by
    intro l
    induction l with
    | nil=>intro _ h;cases h
    | cons p r ih=>
      intro hn h
      obtain ⟨y,v⟩:=p
      rw [List.map_cons,List.nodup_cons] at hn
      rcases List.mem_cons.mp h with e | e
      · cases e;simp [List.lookup_cons]
      · have ne:(x==y)=false:=by
          cases q:x==y with
          | false=>rfl
          | true=>exact absurd (eq_of_beq q▸List.mem_map_of_mem (f:=(·.1)) e) hn.1
        simp only [List.lookup_cons,ne]
        exact ih hn.2 e
  exact go _ nd2 (List.mem_reverse.mpr hm)
theorem ZI8.lam {X:Cx}{σ:St}{Hk:Hp}{base':Heap}{k:Nat}{f c:Addr}{q:Str}{params:Arguments}{body:Expr}{scope:Scope}{cl:List (Str×Addr)}{pm ctv:Value}{ps fv:List Str}{js:List Nat}{sp:Sp}(W:ZI8 X σ q Hk base')
    (hf:Hk f=some (.frz (PySem.W.kla_obj "<lambda>" q params body scope cl pm c ctv) (.own 0))) (hc:ZHr Hk q c) (S:ZLY X scope cl ps fv js)
    (hbind:∀ us:List Value,us.length=ps.length→bindArgs (PySem.W.kla_fn "<lambda>" q params body scope cl pm (.ref c) ctv) ⟨us,[]⟩=pure (ps.zip us)) (len:∀ vs H Q E,sp vs H Q E→vs.length=ps.length)
    (hbody:∀ (A:Around) (outer:List Env) (s:Shared) (H:Hp) (vs:List V) (Q:VK) (E:XK),ZES k (A.deeper (PySem.W.envX q scope s.heap.objs.size f (.ref c) cl))→sp vs H Q E→
      ∃ te,PE (ZM7 X.prog X.w X.K X.mg base' (ps++fv) q scope f (.ref c) cl A outer s H) body te∧te (vs.map some++frv js σ) H Q):FV X.prog X.w X.K X.mg base' (k+1) f sp:=by
  obtain ⟨oc,vc,tc,ec,dc,qc⟩:=hc
  have bf:=W.new f _ (ZOV hf (show (q==q)=true from beq_self_eq_true q))
  have bc:=W.new c _ (ZOV ec ((ZIW dc qc).trans (beq_self_eq_true q)))
  refine ⟨_,ps,_,_,_,bf,fun s us _ hl=>.of_eq (hbind us hl),len,fun A outer s H args us vs Q E hr e0 hb r hsp=>?_⟩
  have hl:=len _ _ _ _ hsp
  have lim:s.heap.NoLimit:=e0.mod.nolimit.keeps fun b o e=>(e0.bs b o e).1
  have hps:us.length=ps.length:=by rw [← r.length];exact hl
  refine PySem.W.kla_callFunE hr.depth (e0.bs _ _ bf).1 rfl S.co S.gen rfl ⟨c,oc,vc,tc,rfl,(e0.bs _ _ bc).1,dc,qc⟩ (hb _ _ _ _ ?_)
  refine wpAny_newFunctionEnv S.nc (fun y hy=>S.par y.1 (List.of_mem_zip hy).1) (fun h₁ hns hsb=>⟨lim.fresh _ hsb,?_⟩) S.kind
  have hk₁:∀ b o,s.heap.get? b=some o→h₁.get? b=some o:=fun b o e=>hsb.extBut b o (Nat.ne_of_lt (Heap.lt_size e)) (Heap.get?_push_of_some _ e)
  obtain ⟨te,hte,hq⟩:=hbody A outer s H vs Q E (hr.deeper _) hsp
  have cellOf:∀ y cc,cl.lookup y=some cc→X.env.cells.lookup y=some cc:=fun y cc e=>S.cls (y,cc) (PySem.mem_of_lookup e)
  have noA:∀ b:Addr,b∉(ZM7 X.prog X.w X.K X.mg base' (ps++fv) q scope f (.ref c) cl A outer s H).ex:=fun b z=>absurd (show b∈([]:List Addr) from z) (by simp)
  have I:Inv (ZM7 X.prog X.w X.K X.mg base' (ps++fv) q scope f (.ref c) cl A outer s H) [] (vs.map some++frv js σ) H { s with heap:=h₁,toks:=s.toks+(ps.zip us).length }:=by
    refine ⟨⟨e0.mod,S.kind,rfl,rfl,Nat.le_refl _,fun y z d h1 h2=>W.inj y z d (cellOf y d h1) (cellOf z d h2),fun y hy=>?_,fun y d h=>absurd (show false=true from h) Bool.false_ne_true,fun _=>hr.hd,Around.frames_deeper e0.frames,.inr ⟨rfl,rfl⟩,fun b z=>absurd z (noA b),e0.bs,e0.bsz,
      fun b _ _=>noA b,fun b z=>absurd z (noA b),e0.funs,e0.frf⟩,rfl,e0.bare,Un.kept hk₁,⟨_,hns,fun i y v h1 h2 h3=>?_⟩,fun y d h=>?_,e0.hok.fresh (Nat.le_refl _),fun y d h=>?_,fun p hp=>absurd (show p∈([]:List (Addr×Obj)) from hp) (by simp),e0.hok.kept hk₁,?_⟩
    · have hy':scope.names.lookup y=some .cell∨scope.names.lookup y=some .free:=hy
      rcases hy' with z | z
      · exact absurd rfl (S.nc _ (PySem.mem_of_lookup z))
      · exact Option.isSome_iff_exists.mp (S.vis y (S.fr _ (PySem.mem_of_lookup z) rfl)).2.2
    · have h1':(ps++fv)[i]?=some y:=h1
      by_cases hi:i<ps.length
      · rw [List.getElem?_append_left hi] at h1'
        rw [List.getElem?_append_left (by rw [List.length_map,hl];exact hi),List.getElem?_map] at h2
        have h2':vs[i]?=some v:=by
          cases z:vs[i]? with
          | none=>rw [z] at h2;cases h2
          | some a=>rw [z] at h2;cases h2;rfl
        obtain ⟨u,hu,rv⟩:=r.get h2'
        have nd:ps.Nodup:=(List.nodup_append.mp S.nd).1
        exact ⟨u,rv,.inl ⟨S.par y (List.mem_of_getElem? h1'),ZHs nd h1' hu⟩⟩
      · have hi':ps.length≤i:=Nat.not_lt.mp hi
        rw [List.getElem?_append_right hi'] at h1'
        rw [List.getElem?_append_right (by rw [List.length_map,hl];exact hi'),List.length_map,hl] at h2
        obtain ⟨j,hj,hN⟩:=ZEX S.sl h1'
        have hv:σ[j]?=some (some v):=by
          unfold frv at h2
          rw [List.getElem?_map,hj] at h2
          have z':(σ[j]?).getD none=some v:=Option.some.inj h2
          cases z:σ[j]? with
          | none=>rw [z] at z';cases z'
          | some o=>rw [z] at z';exact congrArg some z'
        obtain ⟨hfree,hcell,hsome⟩:=S.vis y (List.mem_of_getElem? h1')
        obtain ⟨d,hd⟩:=Option.isSome_iff_exists.mp hsome
        obtain ⟨u,ru,o,ho,hdt⟩:=W.val j y v d hN hv hcell (cellOf y d hd)
        exact ⟨u,ru,.inr ⟨.inr hfree,d,hd,o,hk₁ _ _ (e0.bs _ _ ho).1,hdt⟩⟩
    · obtain ⟨v,o,ho,hd⟩:=W.cel y d (cellOf y d h)
      exact ⟨v,o,hk₁ _ _ (e0.bs _ _ ho).1,hd⟩
    · obtain ⟨v,o,ho,hd⟩:=W.cel y d (cellOf y d h)
      exact (e0.bs _ _ ho).2
    · show (vs.map some++frv js σ).length=(ps++fv).length
      have:fv.length=js.length:=Paired.length S.sl
      simp [frv,this,hl]
  refine PySem.W.kla_codeExpr (wpAny_mono (hte [] _ _ H Q I hq) (fun v s' hs=>?_) fun e s' hs=>False.elim hs)
  obtain ⟨x,H',J,rv,qv⟩:=hs
  exact ⟨x,H',J.os,J.bare,J.base,J.hok,rv,qv⟩
end L2
namespace L2
open PySem PySem.Spec PyProof.Rows
def ZRv (m:Int)(n:Nat):It:=⟨fun i _=>i<n,fun i H x H'=>H'=H∧x=.int (i*m),fun i _=>n≤i⟩
theorem ZKB {P:Program}{w:World}{K:PySem.W.Frag}{tg:Expr}(it:Addr)(m:Int)(n:Nat):ZLC P w K tg (ZRv m n) [it] it (fun i h=>IsRangeIter h it (0+(i:Nat)*m) ((n:Int)-(i:Nat)) m) where
  mem:=by simp
  obj:=fun i h st b hb=>by
    obtain rfl:b=it:=by simpa using hb
    exact ⟨_,st,fun v z=>by
      have z':Data.fields _=Data.cell v:=z
      cases z'⟩
  keep:=fun i h h' st k=>k it (by simp) _ st
  item:=by
    intro X hP hw hK hc i pins s σ H E I hf st hg
    subst hP hw hK
    obtain ⟨f0,f1,f2,f3,f4,f5⟩:=hf it (by simp)
    have W:=Walks.range (prog:=X.prog) (w:=X.w) (I.ok.hd hc) it 0 m n
    refine W.item i s _ _ hg st fun v h' tk hv st' kk=>?_
    obtain ⟨t,rfl⟩:=hv
    have I1:Inv X pins σ H { s with heap:=h',toks:=tk }:=I.turned (fun b o hb e=>kk b o (by simpa using hb) e) f0 f1 f3 f4 f5
    refine ⟨_,rfl,ZIu (s:={ s with heap:=h',toks:=tk }) (n:="range_iterator") st' rfl rfl (by decide) ⟨.int (i*m),H,I1,⟨t,?_⟩,⟨rfl,rfl⟩,st',fun b hb=>(hf b hb).1⟩⟩
    rw [Int.zero_add]
  done:=by
    intro X hP hw hK hc i pins s σ H E I hf st hg
    subst hP hw hK
    obtain ⟨f0,f1,f2,f3,f4,f5⟩:=hf it (by simp)
    exact wpAny_pyNext_range_end (I.ok.hd hc) st (by have:n≤i:=hg;omega) fun h' eb=>⟨rfl,I.turned (t':=s.toks) (fun b o hb e=>eb b o hb e) f0 f1 f3 f4 f5⟩
  self:=fun _ _ _ _ _ st h=>wpAny_pyIter_rangeiter st h
def ZEo (j m:Int):Nat:=(if 0<j then (j-1) / m+1 else 0).toNat
theorem ZHI {j m:Int}(hm:1≤m):Builtin.Range.rangeSize 0 j m=((ZEo j m:Nat):Int):=by
  unfold Builtin.Range.rangeSize ZEo
  rw [if_pos (show m>0 by omega)]
  by_cases h:0<j
  · have h2:0≤(j-1) / m:=Int.ediv_nonneg (by omega) (by omega)
    rw [if_pos h,if_pos h,Int.sub_zero]
    omega
  · rw [if_neg h,if_neg h];rfl
theorem ZM8 {j m:Int}(h0:0≤j)(hm:1≤m):((ZEo j m:Nat):Int)≤j:=by
  unfold ZEo
  by_cases h:0<j
  · have h2:0≤(j-1) / m:=Int.ediv_nonneg (by omega) (by omega)
    have h3:(j-1) / m≤j-1:=Int.ediv_le_self _ (by omega)
    rw [if_pos h]
    omega
  · rw [if_neg h];simpa using h0
theorem ZI9 {j m:Int}(h0:0≤j)(h1:j≤1000000)(hm:1≤m)(hm2:m≤1000000):Builtin.Range.small 0 j m=true:=by
  have hs:=ZM8 h0 hm
  have h2:(0:Int)≤((ZEo j m:Nat):Int):=Int.natCast_nonneg _
  unfold Builtin.Range.small
  rw [ZHI hm,if_pos (show m>0 by omega)]
  generalize ((ZEo j m:Nat):Int)=z at hs h2
  simp only [Builtin.Range.rangeFitsLong,Bool.and_eq_true,Bool.or_eq_true,decide_eq_true_eq,beq_iff_eq]
  omega
section
variable {X:Cx}{tg:Expr}
def ZP6 (ta:TA):TI:=fun σ H R=>ta σ H fun vs H1=>∃ j m:Int,vs=[.int 0,.int j,.int m]∧(0≤j∧j≤1000000∧1≤m∧m≤1000000)∧R (ZRv m (ZEo j m)) H1
theorem ZKC {a b c:Expr}{ta:TA}{p pos:Pos}(hg:Gl X "range")(hm:X.mg "range"=none)(ha:PA X [a,b,c] ta)
    (hs:starEach [a,b,c] X.env=[(false,eval a X.env),(false,eval b X.env),(false,eval c X.env)]:=by rfl) (hs2:starEach [b,c] X.env=[(false,eval b X.env),(false,eval c X.env)]:=by rfl):
    PI X tg (.Call (.Name "range" p) [a,b,c] [] pos) (ZP6 ta):=by
  intro pins s σ H R I h
  refine Call_ (ZDp I hg hm boot_range (PyProof.Rows.callWith_type1 (thn (ha pos pins s σ H _ I h) fun us s1 zq=>?_) (by rw [hs,hs2]) (by rw [hs2];rfl)))
  obtain ⟨vs,H1,I1,r1,q1⟩:=zq
  obtain ⟨j,m,e,⟨q1,q2,q3,q4⟩,q⟩:=q1
  subst e
  cases r1 with
  | cons r rr=>
    cases rr with
    | cons r' rr=>
      cases rr with
      | cons r2 rr=>
        cases rr
        obtain ⟨t,rfl⟩:=r
        obtain ⟨t',rfl⟩:=r'
        obtain ⟨t2,rfl⟩:=r2
        refine call_range_3 (by omega) ?_ (Or.inl (PyProof.noPylong_small (by omega)))
        refine wpAny_pyIter_range (IsRange.new ..) (ZI9 q1 q2 q3 q4) ?_
        have I2:Inv X pins σ H1 { s1 with heap:=s1.heap.push { cls:=.type "range",data:=.fields #[.int 0 t,.int j t',.int m t2] },toks:=s1.toks }:=I1.kept fun b o e=>Heap.get?_push_of_some _ e
        refine ⟨(s1.heap.push { cls:=.type "range",data:=.fields #[.int 0 t,.int j t',.int m t2] }).objs.size,[(s1.heap.push { cls:=.type "range",data:=.fields #[.int 0 t,.int j t',.int m t2] }).objs.size],_,_,H1,rfl,
          I2.kept (t':=s1.toks) fun b o e=>Heap.get?_push_of_some _ e,ZKB _ m (ZEo j m),?_,fun b hb=>?_,q⟩
        · show IsRangeIter _ _ (0+((0:Nat):Int)*m) (((ZEo j m:Nat):Int)-((0:Nat):Int)) m
          have e1:0+((0:Nat):Int)*m=0:=by simp
          have e2:((ZEo j m:Nat):Int)-((0:Nat):Int)=Builtin.Range.rangeSize 0 j m:=by rw [ZHI q3];simp
          rw [e1,e2]
          exact Heap.get?_push_size _ rfl
        · obtain rfl:b=(s1.heap.push { cls:=.type "range",data:=.fields #[.int 0 t,.int j t',.int m t2] }).objs.size:=by simpa using hb
          exact I2.fpOk (Nat.le_refl _) (I2.hok.fresh (Nat.le_refl _))
end
section
variable {P:Program}{w:World}{K:PySem.W.Frag}{mg:Str→Option Value}{base:Heap}
theorem Fun.okC {x qual:Str}{st:Stmt}{f:Addr}{fd:FuncData}{N ps:List Str}{k:Nat}{sp:Sp}(F:Fun K x qual st f fd)(S:ZAS N ps (ZAF st))(len:∀ vs H Q E,sp vs H Q E→vs.length=ps.length)
    (hbody:∀ (cdv:Value) (A:Around) (outer:List Env) (s:Shared) (H:Hp) (vs:List V) (Q:VK) (E:XK),fd.code=cdv→ZES k (A.deeper (envOfC qual (ZAF st) s.heap.objs.size f cdv))→sp vs H Q E→
      ∃ t,PSs (ZMr CX0 P w K mg base N qual (ZAF st) f cdv A outer s H E).nox (ZAQ st) t∧t { nx:=fun _ H'=>Q .non H',rt:=Q } (ZGD N vs) H):ZBS P w K mg base CX0 (k+1) f fd ps sp:=by
  obtain ⟨oc,od,kV,doc,pm,an,cdv,ct,osl,rfl,lk,hcd⟩:=F.ex
  refine ZN6 lk hcd S len fun A outer s H vs Q E hr hsp=>?_
  obtain ⟨t,h,q⟩:=hbody cdv A outer s H vs Q E rfl hr hsp
  exact ⟨t,h.nox,q⟩
theorem ZKD {x qual:Str}{st:Stmt}{f c T:Addr}{fd:FuncData}(F:Fun K x qual st f fd)(hn:PySem.W.nsIn K mainGlobals x=some (some (.ref f)))(ht:PySem.W.tabIn K x=some (c,T)):fd.code=.ref c:=by
  obtain ⟨oc,od,kV,doc,pm,an,cdv,ct,osl,rfl,lk,hcd⟩:=F.ex
  unfold PySem.W.tabIn at ht
  rw [hn] at ht
  dsimp only at ht
  rw [lk] at ht
  dsimp only at ht
  split at ht
  · rename_i c' e
    split at ht
    · split at ht
      · cases ht
        rfl
      · cases ht
    · cases ht
  · cases ht
end
end L2
namespace L2
open PySem PySem.Spec PyProof.Rows
theorem ZMH {p:Program}{x:Str}(h:(recsOf p).any (fun e=>e.name==x)=true):∃ d,(recsOf p).find? (fun e=>e.name==x)=some d:=by
  obtain ⟨d,hd,e⟩:=List.any_eq_true.mp h
  cases q:(recsOf p).find? (fun e=>e.name==x) with
  | some u=>exact ⟨u,rfl⟩
  | none=>exact absurd e (by simpa using List.find?_eq_none.mp q d hd)
end L2
namespace L2
open PySem PySem.Spec PyProof.Rows
section
variable {X:Cx}{scope:Scope}{cl:List (Str×Addr)}{C:Addr}{N:List Str}{s₀:Shared}{H₀:Hp}{ex:List Addr}{pn:List (Addr×Obj)}
theorem ZLZ:SlR (ZAr X scope cl C N s₀ H₀ ex pn) (ZRf X.K):=ZGH
theorem ZFl:ZD9 (ZAr X scope cl C N s₀ H₀ ex pn) (.type "tuple") (fun xs H Q=>∃ p ys,xs=[.ref p]∧((SqL X.K H p ys∧∀ l,H l=none→Q (.ref l) (upd H l (.tup ys)))∨(SqT X.K H p ys∧Q (.ref p) H))):=ZEC
theorem ZKE {k:Nat}{fe e:Expr}{es:List Expr}{tf:TE}{t:TA}{pos:Pos}(hf:PE (ZAr X scope cl C N s₀ H₀ ex pn) fe tf)(hr:ZES k X.A)(ha:PA (ZAr X scope cl C N s₀ H₀ ex pn) (e::es) t)
    (hc:eval (.Call fe (e::es) [] pos) (ZAr X scope cl C N s₀ H₀ ex pn).env=(do callWith pos (← eval fe (ZAr X scope cl C N s₀ H₀ ex pn).env) [] (backTo pos (starEach (e::es) (ZAr X scope cl C N s₀ H₀ ex pn).env)) (backToKw pos (keywordEach [] (ZAr X scope cl C N s₀ H₀ ex pn).env))):=by rfl)
    (he:starEach (e::es) (ZAr X scope cl C N s₀ H₀ ex pn).env=(false,eval e (ZAr X scope cl C N s₀ H₀ ex pn).env)::starEach es (ZAr X scope cl C N s₀ H₀ ex pn).env:=by rfl) (hpl:(backTo pos (starEach es (ZAr X scope cl C N s₀ H₀ ex pn).env)).any (·.1)=false:=by rfl):
    PE (ZAr X scope cl C N s₀ H₀ ex pn) (.Call fe (e::es) [] pos) (ZMG X k tf t):=ZGQ (X:=ZAr X scope cl C N s₀ H₀ ex pn) hf hr ha hc he hpl
end
end L2
namespace L2
open PySem PySem.Spec PyProof.Rows
theorem ZKF {P:Program}{w:World}{K:PySem.W.Frag}{mg mb:Str→Option Value}{CX:CXT}{k:Nat}{fa a:Addr}{fd:FuncData}{x:Str}{sp:Sp}{s₁:Shared}{vs:List Value}{ns:List Int}{tabs:List (Addr×Addr)}
    (KX:K.In s₁.heap) (hns:s₁.heap.Ns mainGlobals mg) (hb:s₁.heap.Ns builtinsNs mb) (hbb:∀ x:Str,x≠"__name__"→mb x=bootBuiltins x) (hlim:s₁.heap.NoLimit) (hg:s₁.gens=#[])
    (ha:s₁.heap.get? a=some { cls:=.type "list",data:=.seq vs.toArray }) (hi:IntsAre vs ns) (hl:ns.length≤sizeLine) (hr:ZES k callerA)
    (hBM:BM mg s₁.heap) (F:∀ base:Heap,K.In base→base.Ns mainGlobals mg→(∀ q∈tabs,PySem.W.CodeHd base q.1 q.2)→BM mg base→ZBS P w K mg base CX k fa fd [x] sp) (hbind:∀ (s:Shared) (u:Value),BindsTo s fd ⟨[u],[]⟩ [(x,u)])
    (hT:PySem.W.TabsAt tabs s₁.heap) (hKT:PySem.W.noTabs K=true)
    (hsp:∀ H:Hp,(∀ q∈tabs,H q.2=some (.tbl #[]))→SqL K H a (ns.map V.int)→sp [.ref a] H (fun v _=>v=.bl true) fun _ _ _=>False)
    (hCX:∀ H e s',CX [] H s₁ (fun _ _ _=>False) e s'→False):
    codeAny (model P w) callerA (.call (.ref fa) ⟨[.ref a],[]⟩) (fun r s'=>r=.ok (.ret (.bool true))∧OldK s₁.heap s'.heap∧s'.os=s₁.os∧AllBare s'.gens) s₁:=by
  have rv:=ZG9 hi
  have lenV:=hi.length
  have noKT:∀ b,b∈tabs.map (·.2)→K.lookup b=none:=fun b hb=>by
    obtain ⟨q,hq,rfl⟩:=List.mem_map.mp hb
    cases e:K.lookup q.2 with
    | none=>rfl
    | some o=>
      have h1:=KX _ _ e
      rw [(hT q hq).2] at h1
      cases h1
      have h2:=List.all_eq_true.mp hKT _ (PySem.W.mem_of_lookupK e)
      cases h2
  have core:∀ H:Hp,(∀ q∈tabs,H q.2=some (.tbl #[]))→(∀ b,b∉tabs.map (·.2)→H b=none∨∃ o xs,H b=some (.frz o (.lst xs)))→SqL K H a (ns.map V.int)→HOk P w H s₁.heap→(∀ b,H b≠none→b=a∨b∈tabs.map (·.2))→(H a≠none→K.lookup a=none)→
      codeAny (model P w) callerA (.call (.ref fa) ⟨[.ref a],[]⟩) (fun r s'=>r=.ok (.ret (.bool true))∧OldK s₁.heap s'.heap∧s'.os=s₁.os∧AllBare s'.gens) s₁:=by
    intro H hTb hO hS hok hA hK
    have base_of:∀ {b:Addr} {o:Obj},s₁.heap.get? b=some o→H b=none→(ZJQ s₁.heap H).get? b=some o:=fun e n=>ZIG e n
    have noA:∀ {b:Addr} {o:Obj} {es:Array DictEntry} {ep:Nat},s₁.heap.get? b=some o→o.data=.dict es ep→H b=none:=fun {b o es ep} e d=>by
      cases q:H b with
      | none=>rfl
      | some u=>
        rcases hA b (by rw [q];simp) with e' | e'
        · subst e'
          rw [ha] at e;cases e
          have d':Data.seq vs.toArray _=Data.dict es ep:=d
          cases d'
        · obtain ⟨r,hr',rfl⟩:=List.mem_map.mp e'
          rw [(hT r hr').2] at e
          cases e
          cases d
    have nsK:∀ {b:Addr} {m:Str→Option Value},s₁.heap.Ns b m→(ZJQ s₁.heap H).Ns b m:=fun {b m} ⟨o,es,ep,e,d,r⟩=>⟨o,es,ep,base_of e (noA e d),d,r⟩
    have hKb:K.In (ZJQ s₁.heap H):=fun b o e=>base_of (KX b o e) (by
      cases q:H b with
      | none=>rfl
      | some u=>
        rcases hA b (by rw [q];simp) with e' | e'
        · subst e'
          rw [hK (by rw [q];simp)] at e;cases e
        · rw [noKT b e'] at e;cases e)
    have hM:Mod K mg (ZJQ s₁.heap H):=⟨hKb,nsK hns,⟨mb,nsK hb,hbb⟩,let ⟨mc,h1,h2⟩:=hlim;⟨mc,nsK h1,h2⟩⟩
    have e0:ZN3 P w K mg (ZJQ s₁.heap H) callerA [] s₁ H:=⟨rfl,hM,fun b o e=>ZJW e,Nat.le_of_eq (ZGv _ _),trivial,fun b hb=>absurd (show b∈([]:List Addr) from hb) (by simp),hok,.of_eq hg⟩
    have noB:∀ {b:Addr} {o:Obj} {n:String},s₁.heap.get? b=some o→o.cls=.type n→n≠"list"→H b=none:=fun {b o n} e d dn=>by
      cases q:H b with
      | none=>rfl
      | some u=>
        rcases hA b (by rw [q];simp) with e' | e'
        · subst e'
          rw [ha] at e;cases e
          have d':Value.type "list"=Value.type n:=d
          cases d'
          exact absurd rfl dn
        · obtain ⟨r,hr',rfl⟩:=List.mem_map.mp e'
          rw [(hT r hr').2] at e
          cases e
          cases d
    have hCd:∀ q∈tabs,PySem.W.CodeHd (ZJQ s₁.heap H) q.1 q.2:=fun q hq=>by
      obtain ⟨o,vs,file,tf,flags,tg,inF,text,tt,e,ec,r⟩:=(hT q hq).1
      exact ⟨o,vs,file,tf,flags,tg,inF,text,tt,base_of e (noB e ec (by decide)),ec,r⟩
    have hBd:BM mg (ZJQ s₁.heap H):=by
      obtain ⟨bm,o,b1,b2,b3,b4,b5⟩:=hBM
      exact ⟨bm,o,b1,b2,base_of b3 (noB b3 b4 (by decide)),b4,b5⟩
    refine codeAny_mono ((F _ hKb (nsK hns) hCd hBd).run callerA [] s₁ H ⟨[.ref a],[]⟩ [.ref a] [.ref a] _ _ hr e0 (hbind s₁ (.ref a)) (.cons rfl .nil) (hsp H hTb hS)) fun r s' h=>?_
    cases r with
    | error e=>exact (hCX H e s' h).elim
    | ok fl=>
      cases fl with
      | next=>exact False.elim h
      | brk=>exact False.elim h
      | cont=>exact False.elim h
      | ret u=>
        obtain ⟨v,H',os,bare,un,hok',r',q⟩:=h
        have q':v=.bl true:=q
        subst q'
        obtain rfl:u=Value.bool true:=r'
        refine ⟨rfl,⟨fun b o e=>?_,fun b o e=>un.there b o e (by simp)⟩,os,bare⟩
        by_cases hb:b∈tabs.map (·.2)
        · obtain ⟨q,hq,rfl⟩:=List.mem_map.mp hb
          obtain ⟨more,e2⟩:=un.tbls _ _ (hTb q hq)
          have e3:s'.heap.get? q.2=some { cls:=.none,data:=.fields (#[]++more) }:=hok' _ _ e2
          rw [(hT q hq).2] at e
          cases e
          obtain ⟨oc,vc,file,tf,flags,tg,inF,text,tt,g1,g2,g3,g4,_⟩:=(hT q hq).1
          exact .inr (.inl ⟨⟨_,_,_,g1,g2,g3,g4⟩,rfl,_,_,rfl,e3⟩)
        · refine .inl ?_
          rcases hO b hb with q | ⟨ob,xs,z⟩
          · exact un.keep b o e q (fun z=>absurd (show b∈([]:List Addr) from z) (by simp)) (by simp)
          · obtain ⟨e1,_⟩:=hok b _ z
            obtain ⟨e2,_⟩:=hok' b _ (un.frzs b ob _ z)
            rw [e] at e1;cases e1
            exact e2
  have nTa:a∉tabs.map (·.2):=fun hm=>by
    obtain ⟨q,hq,e⟩:=List.mem_map.mp hm
    have h1:=(hT q hq).2
    rw [e,ha] at h1
    cases h1
  have tok:∀ q∈tabs,s₁.heap.get? q.2=some { cls:=.none,data:=.fields #[] }:=fun q hq=>(hT q hq).2
  cases hk:K.lookup a with
  | some o=>
    have e:=KX a o hk
    rw [ha] at e
    cases e
    refine core (fun b=>if b∈tabs.map (·.2) then some (.tbl #[]) else none) (fun q hq=>if_pos (List.mem_map_of_mem hq)) (fun b hb=>.inl (if_neg hb)) (.inr ⟨_,vs.toArray,_,hk,rfl,rfl,rfl,by rw [List.size_toArray,lenV];exact hl,by simpa using rv⟩) (fun b u z=>?_) (fun b z=>?_) (fun z=>absurd (if_neg nTa) z)
    · by_cases hb:b∈tabs.map (·.2)
      · have z':=(if_pos hb).symm.trans z
        cases z'
        obtain ⟨q,hq,rfl⟩:=List.mem_map.mp hb
        exact tok q hq
      · have z':=(if_neg hb).symm.trans z
        cases z'
    · by_cases hb:b∈tabs.map (·.2)
      · exact .inr hb
      · exact absurd (if_neg hb) z
  | none=>
    refine core (fun b=>if b∈tabs.map (·.2) then some (.tbl #[]) else if b=a then some (.frz { cls:=.type "list",data:=.seq vs.toArray } (.lst (ns.map V.int))) else none) (fun q hq=>if_pos (List.mem_map_of_mem hq)) (fun b hb=>?_) (.inl (.inr ⟨{ cls:=.type "list",data:=.seq vs.toArray },(if_neg nTa).trans (if_pos rfl)⟩)) (fun b u z=>?_) (fun b z=>?_) (fun _=>hk)
    · by_cases hba:b=a
      · exact .inr ⟨_,_,(if_neg hb).trans (if_pos hba)⟩
      · exact .inl ((if_neg hb).trans (if_neg hba))
    · by_cases hb:b∈tabs.map (·.2)
      · have z':=(if_pos hb).symm.trans z
        cases z'
        obtain ⟨q,hq,rfl⟩:=List.mem_map.mp hb
        exact tok q hq
      · by_cases hba:b=a
        · have z':=((if_neg hb).trans (if_pos hba)).symm.trans z
          cases z'
          subst hba
          exact ⟨ha,by rw [List.length_map];exact hl,vs,_,rv,ha⟩
        · have z':=((if_neg hb).trans (if_neg hba)).symm.trans z
          cases z'
    · by_cases hb:b∈tabs.map (·.2)
      · exact .inr hb
      · by_cases hba:b=a
        · exact .inl hba
        · exact absurd ((if_neg hb).trans (if_neg hba)) z
theorem ZP7 {p:Program}{loose:List Str}{mean:ExcName→Option Value}{mg mb:Str→Option Value}{h:Heap}(T:Top p loose mean mg mb h):BM mg h:=by
  obtain ⟨bm,ob,b1,b2,b3,b4,b5,b6⟩:=T.bmain
  refine ⟨bm,ob,b1,⟨b2,fun q=>?_⟩,b3,b4,b5,b6⟩
  obtain ⟨o,es,ep,e,hd,_⟩:=T.g
  rw [q,e] at b3
  cases b3
  rw [hd] at b6
  cases b6
theorem ZLa {l:PySem.W.OpenLaw}{n k:Nat}{q:Program}{loose:List Str}{XP:(Str→Option Value)→Heap→Prop}{YP:World→Heap→Prop}{d:DefRec}{K:Params→PySem.W.Frag}{x:Str}
    (hn:l.most=some n) (hn2:n≤sizeLine) (hdf:d.params.defaults=[]) (hr:ZES k callerA) (hY:∀ (w:World) (h:Heap),YP w h→(K w.params).In h) (hKT:∀ w:World,PySem.W.noTabs (K w.params)=true)
    (F:∀ (w:World) (mean:ExcName→Option Value) (mg mb:Str→Option Value) (fa:Addr) (h:Heap),(K w.params).In h→Top q (PySem.W.looseW q loose) mean mg mb h→mg d.name=some (.ref fa)→
      ∃ (fd:FuncData) (tabs:List (Addr×Addr)) (sp:Sp),(∀ (s:Shared) (u:Value),BindsTo s fd ⟨[u],[]⟩ [(x,u)])∧PySem.W.TabsAt tabs h∧
        (∀ (H:Hp) (a:Addr) (ns:List Int),ns.length≤n→(∀ q∈tabs,H q.2=some (.tbl #[]))→SqL (K w.params) H a (ns.map V.int)→sp [.ref a] H (fun v _=>v=.bl true) E0)∧
        ∀ base:Heap,(K w.params).In base→base.Ns mainGlobals mg→(∀ q∈tabs,PySem.W.CodeHd base q.1 q.2)→BM mg base→ZBS l.prog w (K w.params) mg base CX0 k fa fd [x] sp):
    PySem.W.WalkO q loose XP YP l.row.toRowW d [] (fun f vs=>PySem.call f vs):=by
  refine Att.ZHn hn hdf fun w s₀ s₁ mg mb fa o pm cd doc a vs ns G Y ho hd hcd hmg hobj hints hlen hg=>?_
  have KX:=hY w _ Y
  obtain ⟨fd,tabs,sp,hb,hT,hS,hF⟩:=F w _ mg mb fa _ KX G.T hmg
  exact ZKF KX G.T.g G.T.b G.T.builtins G.T.nolimit hg hobj hints (Nat.le_trans hlen hn2) hr (ZP7 G.T) hF hb hT (hKT w) (fun H hO hS'=>hS H a ns hlen hO hS') fun H e s' h=>h.elim
end L2
namespace L2
open PySem PySem.Spec PyProof.Rows
def ZRw (K:PySem.W.Frag)(t l:Addr):It:=
  ⟨fun i H=>∃ xs ys x y,SqL K H t xs∧SqL K H l ys∧xs[i]?=some x∧ys[i]?=some y,
   fun i H v H'=>∃ x y b,(∀ xs,SqL K H t xs→xs[i]?=some x)∧(∀ ys,SqL K H l ys→ys[i]?=some y)∧H b=none∧v=.ref b∧H'=upd H b (.tup [x,y]),
   fun i H=>∃ xs ys,SqL K H t xs∧SqL K H l ys∧(xs.length≤i∨ys.length≤i)⟩
theorem ZKG {P:Program}{w:World}{K:PySem.W.Frag}{els:List Expr}{x1}{pt:Pos}(t l z TI TO i1 i2:Addr)(D:ZipApart z TI TO i1 i2 t l):
    ZLC P w K (.Tuple els x1 pt) (ZRw K t l) [z,TI,TO,i1,i2] z (fun i h=>IsZip h z TI TO .none∧IsPair h TI (.ref i1) (.ref i2)∧(∃ a b,IsPair h TO a b)∧h.IsListIter i1 t i∧h.IsListIter i2 l i) where
  mem:=by simp
  obj:=fun i h st b hb=>by
    obtain ⟨h1,h2,⟨_,_,h3⟩,⟨o4,h4,_,d4⟩,⟨o5,h5,_,d5⟩⟩:=st
    have hb':b=z∨b=TI∨b=TO∨b=i1∨b=i2:=by simpa using hb
    rcases hb' with rfl | rfl | rfl | rfl | rfl
    · exact ⟨_,h1,fun v z=>by cases z⟩
    · exact ⟨_,h2,fun v z=>by cases z⟩
    · exact ⟨_,h3,fun v z=>by cases z⟩
    · exact ⟨_,h4,fun v z=>by rw [d4] at z;cases z⟩
    · exact ⟨_,h5,fun v z=>by rw [d5] at z;cases z⟩
  keep:=fun i h h' st k=>by
    obtain ⟨h1,h2,⟨a,b,h3⟩,h4,h5⟩:=st
    exact ⟨k z (by simp) _ h1,k TI (by simp) _ h2,⟨a,b,k TO (by simp) _ h3⟩,h4.at fun o q=>k i1 (by simp) o q,h5.at fun o q=>k i2 (by simp) o q⟩
  item:=by
    intro X hP hw hK hc i pins s σ H E I hf st hg
    subst hP hw hK
    obtain ⟨xs,ys,x,y,hqx,hqy,hx,hy⟩:=hg
    obtain ⟨hz,hTI,⟨a,b,hTO⟩,h1,h2⟩:=st
    obtain ⟨its,rv,p,_⟩:=I.list hqx
    obtain ⟨its2,rv2,p2,_⟩:=I.list hqy
    obtain ⟨u,hu,ru⟩:=rv.get hx
    obtain ⟨v,hv,rv'⟩:=rv2.get hy
    refine wpAny_pyNext_zip_item D hz hTI hTO h1 h2 p.isList p2.isList (x:=u) (y:=v) (by simpa using hu) (by simpa using hv) fun h1' hz1 hTO1 hi1 hi2 hT1 hsz1 hk1=>⟨_,rfl,?_⟩
    refine wpAny_letOwnedTupleGo_zip (s:={ s with heap:=h1' }) hz1 fun h2' hz2 hs2=>?_
    replace hs2:Heap.SameBut z h1' h2':=hs2
    have zH:z<s.heap.objs.size:=Heap.lt_size hz
    have TOH:TO<s.heap.objs.size:=Heap.lt_size hTO
    have TIH:TI<s.heap.objs.size:=Heap.lt_size hTI
    have i1H:i1<s.heap.objs.size:=by obtain ⟨_,q,_⟩:=id h1;exact Heap.lt_size q
    have i2H:i2<s.heap.objs.size:=by obtain ⟨_,q,_⟩:=id h2;exact Heap.lt_size q
    have hTI2:IsPair h2' TI (.ref i1) (.ref i2):=hs2.extBut _ _ D.TIz (hk1 _ _ D.TIz D.TITO D.TIi1 D.TIi2 hTI)
    have hTO2:IsPair h2' TO u v:=hs2.extBut _ _ D.TOz hTO1
    have hi12:h2'.IsListIter i1 t (i+1):=hi1.extBut hs2.extBut D.i1z
    have hi22:h2'.IsListIter i2 l (i+1):=hi2.extBut hs2.extBut D.i2z
    have hT2:IsPair h2' s.heap.objs.size u v:=hs2.extBut _ _ (Nat.ne_of_gt zH) hT1
    obtain ⟨o1,ho1,_,hd1⟩:=id hi12
    obtain ⟨o2,ho2,_,hd2⟩:=id hi22
    obtain ⟨mid,hm1,hm2,hm3⟩:=ZRu (h:=s.heap) (h2:=h2') [z,TI,TO,i1,i2] (fun b hb=>by
      have hb':b=z∨b=TI∨b=TO∨b=i1∨b=i2:=by simpa using hb
      rcases hb' with rfl | rfl | rfl | rfl | rfl
      · exact ⟨_,hz⟩
      · exact ⟨_,hTI⟩
      · exact ⟨_,hTO⟩
      · obtain ⟨o,q,_⟩:=id h1;exact ⟨o,q⟩
      · obtain ⟨o,q,_⟩:=id h2;exact ⟨o,q⟩) (fun b hb=>by
      have hb':b=z∨b=TI∨b=TO∨b=i1∨b=i2:=by simpa using hb
      rcases hb' with rfl | rfl | rfl | rfl | rfl
      · exact ⟨_,hz2,rfl⟩
      · exact ⟨_,hTI2,rfl⟩
      · exact ⟨_,hTO2,rfl⟩
      · exact ⟨_,ho1,Obj.isFreed_of_fields hd1⟩
      · exact ⟨_,ho2,Obj.isFreed_of_fields hd2⟩)
    have I1:Inv X pins σ H { s with heap:=mid }:=I.turnedL (t':=s.toks) (fs:=[z,TI,TO,i1,i2]) (fun b o hb q=>(hm3 b hb).trans q) hf
    have k2:∀ b o,mid.get? b=some o→h2'.get? b=some o:=fun b o q=>by
      by_cases c:b∈[z,TI,TO,i1,i2]
      · exact (hm2 b c).symm.trans q
      · rw [hm3 b c] at q
        have c':b≠z∧b≠TI∧b≠TO∧b≠i1∧b≠i2:=by simpa using c
        exact hs2.extBut _ _ c'.1 (hk1 _ _ c'.1 c'.2.2.1 c'.2.2.2.1 c'.2.2.2.2 q)
    have fz:mid.objs.size≤s.heap.objs.size:=by rw [hm1];exact Nat.le_refl _
    have I3:Inv X pins σ (upd H s.heap.objs.size (.tup [x,y])) { s with heap:=h2' }:=
      I1.laid (t':=s.toks) k2 fz (show ZBx X.prog X.w _ h2' _ (.tup [x,y]) from ⟨by show 2≤sizeLine;rw [sizeLine_eq];decide,[u,v],.cons ru (.cons rv' .nil),⟨_,hT2,rfl,_,rfl⟩⟩)
    refine ⟨.ref s.heap.objs.size,_,I3,rfl,⟨x,y,s.heap.objs.size,(fun zs hz=>by rw [I.list_inj hz hqx];exact hx),(fun zs hz=>by rw [I.list_inj hz hqy];exact hy),I.hok.fresh (Nat.le_refl _),rfl,rfl⟩,⟨hz2,hTI2,⟨_,_,hTO2⟩,hi12,hi22⟩,fun b hb=>?_⟩
    have lt:b<s.heap.objs.size:=by
      have hb':b=z∨b=TI∨b=TO∨b=i1∨b=i2:=by simpa using hb
      rcases hb' with rfl | rfl | rfl | rfl | rfl <;> assumption
    rw [ZAa (Nat.ne_of_lt lt)]
    exact (hf b hb).1
  done:=by
    intro X hP hw hK hc i pins s σ H E I hf st hg
    subst hP hw hK
    obtain ⟨xs,ys,hqx,hqy,hx⟩:=hg
    obtain ⟨hz,hTI,⟨a,b,hTO⟩,h1,h2⟩:=st
    obtain ⟨its,rv,p,_⟩:=I.list hqx
    obtain ⟨its2,rv2,p2,_⟩:=I.list hqy
    have l1:=rv.length
    have l2:=rv2.length
    refine wpAny_pyNext_zip_end (I.ok.hd hc) D hz hTI hTO h1 h2 p.isList p2.isList (hx.imp (fun q=>by simp;omega) (fun q=>by simp;omega)) fun h' hk=>⟨rfl,?_⟩
    refine I.turnedL (t':=s.toks) (fs:=[z,TI,TO,i1,i2]) (fun b o hb q=>?_) hf
    have c':b≠z∧b≠TI∧b≠TO∧b≠i1∧b≠i2:=by simpa using hb
    exact hk _ _ c'.1 c'.2.2.1 c'.2.2.2.1 c'.2.2.2.2 q
  self:=fun _ _ _ _ _ st h=>wpAny_pyIter_zip st.1 h
section
variable {X:Cx}
def ZP8 (K:PySem.W.Frag)(ta:TA):TI:=fun σ H R=>ta σ H fun vs H1=>∃ t l,vs=[V.ref t,V.ref l]∧(∃ xs,SqL K H1 t xs)∧(∃ ys,SqL K H1 l ys)∧R (ZRw K t l) H1
theorem ZM9 {a c:Expr}{ta:TA}{p pos pt:Pos}{els:List Expr}{x1}(hg:Gl X "zip")(hm:X.mg "zip"=none)(hv:bootBuiltins "zip"=some (.type "zip"))(ha:PA X [a,c] ta)(hs:starEach [a,c] X.env=(false,eval a X.env)::starEach [c] X.env:=by rfl)(hs2:(backTo pos (starEach [c] X.env)).any (·.1)=false:=by rfl):
    PI X (.Tuple els x1 pt) (.Call (.Name "zip" p) [a,c] [] pos) (ZP8 X.K ta):=by
  intro pins s σ H R I h
  refine Call_ (ZDp I hg hm hv (PyProof.Rows.callWith_type1 (thn (ha pos pins s σ H _ I h) fun us s1 zq=>?_) hs hs2))
  obtain ⟨vs,H1,I1,r1,q1⟩:=zq
  obtain ⟨t,l,e,⟨xs,hqx⟩,⟨ys,hqy⟩,q⟩:=q1
  subst e
  obtain ⟨u,v,rfl,ru,rv⟩:=ZBJ.two r1
  cases ru
  cases rv
  obtain ⟨its,rv,pt',_⟩:=I1.list hqx
  obtain ⟨its2,rv2,pl,_⟩:=I1.list hqy
  have tl:t<s1.heap.objs.size:=by obtain ⟨o,q,_⟩:=pt'.isList;exact Heap.lt_size q
  have ll:l<s1.heap.objs.size:=by obtain ⟨o,q,_⟩:=pl.isList;exact Heap.lt_size q
  refine call_zip_2 pt'.isList pl.isList fun h' hz hTI hTO hi1 hi2 hsz kp=>wpAny_pyIter_zip (s:={ s1 with heap:=h' }) hz ?_
  have I2:Inv X pins σ H1 { s1 with heap:=h' }:=I1.kept (t':=s1.toks) kp
  generalize hn:s1.heap.objs.size=n at *
  have ge:∀ b∈[n+4,n+2,n+3,n,n+1],n≤b:=fun b hb=>by
    have hb':b=n+4∨b=n+2∨b=n+3∨b=n∨b=n+1:=by simpa using hb
    rcases hb' with rfl | rfl | rfl | rfl | rfl
    · exact Nat.le_add_right _ _
    · exact Nat.le_add_right _ _
    · exact Nat.le_add_right _ _
    · exact Nat.le_refl _
    · exact Nat.le_add_right _ _
  have D:ZipApart (n+4) (n+2) (n+3) n (n+1) t l:=by
    have a1:t<n+4:=Nat.lt_of_lt_of_le tl (Nat.le_add_right _ _)
    have a2:l<n+4:=Nat.lt_of_lt_of_le ll (Nat.le_add_right _ _)
    have b1:t<n+3:=Nat.lt_of_lt_of_le tl (Nat.le_add_right _ _)
    have b2:l<n+3:=Nat.lt_of_lt_of_le ll (Nat.le_add_right _ _)
    have c1:t<n+1:=Nat.lt_of_lt_of_le tl (Nat.le_add_right _ _)
    have c2:l<n+1:=Nat.lt_of_lt_of_le ll (Nat.le_add_right _ _)
    have nn:∀ {i j:Nat},i≠j→(n+i:Nat)≠n+j:=fun h z=>h (Nat.add_left_cancel z)
    exact ⟨nn (by decide),nn (by decide),nn (i:=0) (by decide),nn (by decide),nn (by decide),nn (j:=0) (by decide),nn (by decide),nn (j:=0) (by decide),nn (by decide),nn (i:=0) (by decide),
      Nat.ne_of_lt a1,Nat.ne_of_lt b1,Nat.ne_of_lt tl,Nat.ne_of_lt c1,Nat.ne_of_lt a2,Nat.ne_of_lt b2,Nat.ne_of_lt ll,Nat.ne_of_lt c2⟩
  exact ⟨n+4,_,_,_,H1,rfl,I2,ZKG t l _ _ _ _ _ D,⟨hz,hTI,⟨_,_,hTO⟩,hi1,hi2⟩,fun b hb=>I1.fpOk (by rw [hn];exact ge b hb) (I1.hok.fresh (by rw [hn];exact ge b hb)),q⟩
end
end L2
namespace L2
open PySem PySem.Spec PyProof.Rows
section
variable {X:Cx}
theorem ZLb (l:Addr)(u:Value)(n:Nat)(t:Tok)(dd:Option Addr)(sl:Array (Option Value)):
    Meets (Builtin.«tuple.__mul__» ⟨[.ref l,.int 1 t],[]⟩) (fun _ R s=>s.heap.get? l=some ⟨.type "tuple",dd,.seq #[u] n,sl⟩∧R (.ok (.ret (.ref l))) s):=
  .of_wp fun prog w A R s h=>by
    obtain ⟨hp,g,d,tk,os⟩:=s
    obtain ⟨hl,h⟩:=h
    wp_walk
    exact ⟨_,rfl,h⟩
theorem ZIb {α:Type}(u:α):∀ (k:Nat) (acc:Array α),(List.replicate k #[u]).foldl (·++·) acc=acc++(List.replicate k u).toArray
  | 0,acc=>by simp
  | k+1,acc=>by
    rw [List.replicate_succ,List.foldl_cons,ZIb u k]
    apply Array.ext'
    simp [List.replicate_succ]
theorem ZLc (k:Nat)(hk:2≤k)(hk2:k≤1000)(l:Addr)(u:Value)(n:Nat)(t:Tok)(dd:Option Addr)(sl:Array (Option Value)):
    Meets (Builtin.«tuple.__mul__» ⟨[.ref l,.int (k:Int) t],[]⟩) (fun _ R s=>s.heap.get? l=some ⟨.type "tuple",dd,.seq #[u] n,sl⟩∧R (.ok (.ret (.ref s.heap.objs.size))) { s with heap:=s.heap.push { cls:=.type "tuple",data:=.seq (List.replicate k u).toArray } }):=
  .of_wp fun prog w A R s h=>by
    obtain ⟨hp,g,d,tk,os⟩:=s
    obtain ⟨hl,h⟩:=h
    have h1:¬ (decide ((k:Int) < -(2 ^ 63))||decide ((k:Int)≥2 ^ 63))=true:=by simp;omega
    have h2:¬ ((#[u]:Array Value).isEmpty||(k:Int)==1)=true:=by simp;omega
    have h3:¬ (decide ((k:Int)≤0)||(#[u]:Array Value).isEmpty)=true:=by simp;omega
    have h4:¬ (((#[u]:Array Value).size:Int)*(k:Int)>(2 ^ 63-1) / 8):=by simp;omega
    have h5:¬ Builtin.Tuple.tupleTooMany (((#[u]:Array Value).size:Int)*(k:Int))=true:=by
      unfold Builtin.Tuple.tupleTooMany
      rw [decide_eq_true_eq]
      have:(1000:Nat)≤sizeLine:=by decide
      simp
      omega
    wp_walk
    rw [if_neg h1]
    wp_walk
    rw [if_neg h2]
    wp_walk
    rw [if_neg h3]
    wp_walk
    rw [if_neg h4]
    wp_walk
    rw [if_neg h5]
    have ef:List.foldl (fun (x1 x2:Array Value)=>x1++x2) #[] (List.replicate ((k:Int)).toNat #[u])=(List.replicate k u).toArray:=by
      rw [Int.toNat_natCast,ZIb];simp
    have hs:¬ ((List.replicate k u).toArray.size>sizeLine):=by
      have:(1000:Nat)≤sizeLine:=by decide
      simp
      omega
    rw [ef]
    wp_walk
    rw [if_neg hs]
    wp_walk
    exact ⟨_,rfl,h⟩
def ZP9:R2:=fun x y H Q=>∃ t v n,x=.ref t∧y=.int ((n:Nat):Int)∧H t=some (.tup [v])∧1≤n∧n≤1000∧∀ p H',H' p=some (.tup (List.replicate n v))→ZAM H H'→Q (.ref p) H'
theorem ZKH:OpR X (binaryOp .Mult) ZP9:=by
  intro pins s σ H x y v u Q I rx ry h
  obtain ⟨t,v0,k,rfl,rfl,ht,h1,h2,q⟩:=h
  cases rx
  obtain ⟨t',rfl⟩:=ry
  obtain ⟨z,its,r,o,e,c,n,d⟩:=I.hok t _ ht
  obtain ⟨oc,od,oda,osl⟩:=o
  dsimp only at c d
  subst c d
  cases r with | cons r0 rr=>cases rr with | nil=>
  rename_i u0
  by_cases hk:k=1
  · subst hk
    refine wpAny_binaryOp_repeat_ref (T:="tuple") (U:="int") (by decide) ⟨_,e,rfl⟩ (fun s'=>typeIs_int s' 1 t') ZF4 F.fills_int_mul F.slot_int_rmul ZF5 F.slot_int_index.lookup
      (call_meets F.slot_int_rmul (typeIs_int s 1 t') F.entry_int_rmul (F.args_int_rmul_2 _ _) (ZIR 1 t' t _ n od osl)
        ⟨e,rfl,⟨_,e,rfl⟩,call_meets F.slot_tuple_mul ⟨_,e,rfl⟩ F.entry_tuple_mul (F.args_tuple_mul_2 _ _) (ZLb t u0 n t' od osl) ⟨e,?_⟩⟩)
    exact ⟨.ref t,H,I,rfl,q t H ht (ZAM.refl _)⟩
  · refine wpAny_binaryOp_repeat_ref (T:="tuple") (U:="int") (by decide) ⟨_,e,rfl⟩ (fun s'=>typeIs_int s' k t') ZF4 F.fills_int_mul F.slot_int_rmul ZF5 F.slot_int_index.lookup
      (call_meets F.slot_int_rmul (typeIs_int s k t') F.entry_int_rmul (F.args_int_rmul_2 _ _) (ZIR k t' t _ n od osl)
        ⟨e,rfl,⟨_,e,rfl⟩,call_meets F.slot_tuple_mul ⟨_,e,rfl⟩ F.entry_tuple_mul (F.args_tuple_mul_2 _ _) (ZLc k (by omega) h2 t u0 n t' od osl) ⟨e,?_⟩⟩)
    have rp:∀ j:Nat,ZBJ (List.replicate j v0) (List.replicate j u0):=fun j=>by
      induction j with
      | zero=>exact .nil
      | succ j ih=>exact .cons r0 ih
    exact ⟨.ref s.heap.objs.size,_,I.laid (t':=s.toks) (o:=.tup (List.replicate k v0)) (fun b ob q=>Heap.get?_push_of_some _ q) (Nat.le_refl _) ⟨by rw [List.length_replicate];exact Nat.le_trans h2 (by decide),_,rp k,IsTup.new _ _⟩,rfl,q _ _ ZAE (fun b o e=>by rw [ZAa (ZAY e (I.hok.fresh (Nat.le_refl _)))];exact e)⟩
theorem ZNA (l:Addr)(its:Array Value)(n:Nat)(b:Addr)(its2:Array Value)(n2:Nat)(dd:Option Addr)(sl:Array (Option Value))(hs0:¬(!its.isEmpty&&Builtin.List.listTooLong (its.size+its2.size))=true)(hs1:its.size≤sizeLine)(hs2:its.size+its2.size≤sizeLine+1):
    Meets (Builtin.«list.extend» ⟨[.ref l,.ref b],[]⟩) (fun _ R s=>s.heap.get? l=some { cls:=.type "list",dict:=none,data:=.seq its n,slots:=#[] }∧s.heap.get? b=some ⟨.type "tuple",dd,.seq its2 n2,sl⟩∧R (.ok (.ret Value.none)) { s with heap:=s.heap.update l (Obj.mapSeq fun x=>x++its2),toks:=s.toks }):=
  .of_wp fun prog w A R s h=>by
    obtain ⟨hp,g,d,tk,os⟩:=s
    obtain ⟨hl,hb,h⟩:=h
    have f1:=PySem.AutoSeq1.idx_int
    have f2:=PySem.AutoSeq1.sub_tuple_tuple
    have f3:=PySem.AutoSeq1.sub_list_list
    have f4:=PySem.AutoSeq1.sub_tuple_list
    have f5:=PySem.AutoSeq1.sub_list_tuple
    have hz':(its++its2).size≤sizeLine+1:=by rw [Array.size_append];exact hs2
    wp_walk using (wpAny_updateSeq hl rfl (hz:=hs1) (_hz':=hz')),wpAny_loadPart' hl,wpAny_loadPart' hb
    exact ⟨_,rfl,h⟩
def ZQA:V→List V→Hp→VK→Prop:=fun x vs H Q=>∃ l b xs zs,x=.ref l∧vs=[.ref b]∧H l=some (.lst xs)∧H b=some (.tup zs)∧xs.length+zs.length≤sizeLine∧Q .non (upd H l (.lst (xs++zs)))
theorem ZJA:MtM X "list.extend" ZQA:=by
  intro pins s σ H x vs v us Q I rx rv h
  obtain ⟨l,b,xs,zs,rfl,rfl,hH,hB,hz,q⟩:=h
  cases rx
  obtain ⟨u,rfl,ru⟩:=rv.one
  cases ru
  obtain ⟨z,its,n,r,hl,e⟩:=I.lstM hH
  obtain ⟨z2,its2,r2,o2,e2,c2,n2,d2⟩:=I.hok b _ hB
  obtain ⟨oc,od,oda,osl⟩:=o2
  dsimp only at c2 d2
  subst c2 d2
  have hsz:its.toArray.size+its2.toArray.size≤sizeLine:=by rw [List.size_toArray,List.size_toArray,← r2.length];omega
  have hlong:¬ (!its.toArray.isEmpty&&Builtin.List.listTooLong (its.toArray.size+its2.toArray.size))=true:=by
    rw [ZIO hsz,Bool.and_false]
    exact Bool.false_ne_true
  refine call_meets F.slot_list_extend ⟨_,e,rfl⟩ F.entry_list_extend (F.args_list_extend_2 _ _)
    (ZNA l its.toArray n b its2.toArray n2 od osl hlong (by rw [List.size_toArray];omega) (by omega)) ⟨e,e2,?_⟩
  refine ⟨.non,_,I.lset (its':=its++its2) hH e (by simp) (r.append r2) ?_,rfl,q⟩
  rw [List.length_append]
  omega
end
end L2
namespace L2
open PySem PySem.Spec PyProof.Rows
structure ZNl (X:Cx)(scope:Scope)(cl:List (Str×Addr))(x:Str)(fv:List Str)(js:List Nat):Prop where
  kind:scope.kind=.function
  nc:∀ y∈scope.names,y.2=.cell→y.1=x
  nm:∀ y∈scope.names,y.2=.local→scope.names.lookup y.1=some .local
  hx:scope.names.lookup x=some .cell
  fr:∀ y∈scope.names,y.2=.free→y.1∈fv
  nd:(x::fv).Nodup
  vis:∀ y∈fv,scope.names.lookup y=some .free∧X.env.scope.names.lookup y=some .cell∧(cl.lookup y).isSome=true
  cls:∀ p∈cl,X.env.cells.lookup p.1=some p.2
  sl:Paired (fun y j=>X.N[j]?=some y) fv js
  cf:∀ n l,cellsFrom n scope.names l=(x,n)::l
  pc:∀ h:Heap,pushCells h scope.names=h.push { cls:=.type "cell",data:=.cell none }
section
variable {M:Model}{A:Around}{E:Value→Shared→Prop}{s:Shared}
end
section
variable {X:Cx}{scope:Scope}{cl:List (Str×Addr)}{x:Str}{fv:List Str}{js:List Nat}
end
end L2
namespace L2
open PySem PySem.Spec PyProof.Rows
theorem ZIc {P:Program}{w:World}{κ:Type}[DecidableEq κ]{knd:KeyKind P w κ}:∀ {es:List DictEntry} {kvs:List (κ×Value)} {i:Nat} {kv:κ×Value},Pairs knd es kvs→kvs[i]?=some kv→∃ e,es[i]?=some e∧knd.is kv.1 e.key=true
  | _,_,_,_,.nil,h=>by simp at h
  | _,_,0,_,.cons a _ _,h=>by simp at h;subst h;exact ⟨_,rfl,a⟩
  | _,_,i+1,kv,.cons _ _ t,h=>by
    obtain ⟨e,h1,h2⟩:=ZIc (i:=i) (kv:=kv) t (by simpa using h)
    exact ⟨e,by simpa using h1,h2⟩
theorem ZOZ {P:Program}{w:World}{k:Key}{u:Value}(h:(ZBH P w).is k u=true):ZBC (kV k) u:=by
  rcases ZBG h with ⟨i,t,rfl,rfl⟩ | ⟨x,t,rfl,rfl⟩
  · exact ⟨t,rfl⟩
  · exact ⟨t,rfl⟩
section
variable {X:Cx}{tg:Expr}{pins:List (Addr×Obj)}{σ:St}{H:Hp}{s:Shared}
theorem Inv.freezeK {a:Addr}{kvs:List (Key×V)}{o:Obj}(I:Inv X pins σ H s)(e:H a=some (.dK kvs))(ho:s.heap.get? a=some o):Inv X pins σ (upd H a (.frz o (.dK kvs))) s:=by
  have ne:∀ {b:Addr} {u:HO},H b=some u→(∀ k,u≠.dK k)→b≠a:=fun h n z=>by
    subst z
    rw [e] at h
    exact n _ (Option.some.inj h).symm
  have tup:∀ b xs,H b=some (.tup xs)→upd H a (.frz o (.dK kvs)) b=some (.tup xs):=fun b xs q=>by rw [ZAa (ne q fun k z=>nomatch z)];exact q
  refine I.un (t':=s.toks) (h':=s.heap) ⟨fun b u q _ _ _=>q,fun b u q _ _ _=>⟨u.slots,q⟩,fun b u q n _=>?_,fun b u q _=>⟨u,q⟩,tup,fun b u v q=>?_,fun b ps q=>⟨#[],?_⟩⟩ fun b u q=>?_
  · rw [ZAa fun z=>by rw [z,e] at n;cases n];exact n
  · rw [ZAa (ne q fun k z=>nomatch z)];exact q
  · rw [ZAa (ne q fun k z=>nomatch z),q];simp
  · by_cases hb:b=a
    · subst hb
      rw [ZAE] at q
      cases q
      exact ⟨ho,(I.hok b _ e).stay (fun _ _ _ z=>z) (fun c z=>by rw [ZAa (ne z fun k z=>nomatch z)];exact z) tup⟩
    · rw [ZAa hb] at q
      exact (I.hok b u q).stay (fun _ _ _ z=>z) (fun c z=>by rw [ZAa (ne z fun k z=>nomatch z)];exact z) tup
def Itk (a:Addr)(o:Obj):It:=
  ⟨fun i H=>∃ kvs,H a=some (.frz o (.dK kvs))∧i<kvs.length,
   fun i H x H'=>H'=H∧∀ kvs,H a=some (.frz o (.dK kvs))→∃ k v,kvs[i]?=some (k,v)∧x=kV k,
   fun i H=>∃ kvs,H a=some (.frz o (.dK kvs))∧kvs.length≤i⟩
theorem ZNB {P:Program}{w:World}{K:PySem.W.Frag}{tg:Expr}(a it:Addr){o:Obj}{es:Array DictEntry}{ep:Nat}(hx:o.ExactDict)(hd:o.data=.dict es ep):
    ZLC P w K tg (Itk a o) [it] it (fun i h=>h.IsKeyIter it a i es.size ep) where
  mem:=by simp
  obj:=fun i h st b hb=>by
    have e:b=it:=by simpa using hb
    subst e
    obtain ⟨o,e,c,d⟩:=st
    exact ⟨o,e,fun v z=>by rw [d] at z;cases z⟩
  keep:=fun i h h' st k=>st.at fun o e=>k it (by simp) o e
  item:=by
    intro X hP hw hK hc i pins s σ H E I hf st hg
    subst hP hw hK
    obtain ⟨kvs,hq,hi⟩:=hg
    obtain ⟨ho,z,y,xs,r,o',es',ep',h1,h2,h3,h4,h5,h6⟩:=(show ZBx X.prog X.w H s.heap a (.frz o (.dK kvs)) from I.hok a _ hq)
    rw [ho] at h1
    cases h1
    rw [hd] at h3
    cases h3
    obtain ⟨f0,f1,f2,f3,f4,f5⟩:=hf it (by simp)
    have e1:kvs[i]?=some (kvs[i]'hi):=List.getElem?_eq_getElem _
    obtain ⟨q,hq2,rel⟩:=ZBA r e1
    obtain ⟨en,hen,hkey⟩:=ZIc h5 hq2
    have he:es[i]?=some en:=by rw [← Array.getElem?_toList];exact hen
    have hrel:ZBC (kV kvs[i].1) en.key:=by rw [rel.1];exact ZOZ hkey
    refine ZLO st ⟨ho,hx,hd⟩ he fun h' st' sb=>?_
    have I1:Inv X pins σ H { s with heap:=h' }:=I.turned (t':=s.toks) (fun b o hb e=>(sb.2 b hb).trans e) f0 f1 f3 f4 f5
    obtain ⟨oo,e,c,dd⟩:=id st'
    refine ⟨_,rfl,ZIu (s:={ s with heap:=h' }) e c dd (by decide) ⟨kV kvs[i].1,H,I1,hrel,⟨rfl,fun kvs' hk=>?_⟩,st',fun b hb=>(hf b hb).1⟩⟩
    rw [hq] at hk
    cases hk
    exact ⟨_,_,e1,rfl⟩
  done:=by
    intro X hP hw hK hc i pins s σ H E I hf st hg
    subst hP hw hK
    obtain ⟨kvs,hq,hi⟩:=hg
    obtain ⟨ho,z,y,xs,r,o',es',ep',h1,h2,h3,h4,h5,h6⟩:=(show ZBx X.prog X.w H s.heap a (.frz o (.dK kvs)) from I.hok a _ hq)
    rw [ho] at h1
    cases h1
    rw [hd] at h3
    cases h3
    obtain ⟨f0,f1,f2,f3,f4,f5⟩:=hf it (by simp)
    have hl:es.size=kvs.length:=by rw [KV.length r,← Array.length_toList,h5.length]
    exact ZM2 (I.ok.hd hc) st ⟨ho,hx,hd⟩ (by omega) fun h' eb=>⟨rfl,I.turned (t':=s.toks) (fun b o hb e=>eb b o hb e) f0 f1 f3 f4 f5⟩
  self:=fun _ _ _ _ _ st h=>wpAny_pyIter_keyiter st h
def iDK (tl:TE):TI:=fun σ H R=>tl σ H fun x H1=>∃ a kvs,x=.ref a∧H1 a=some (.dK kvs)∧∀ o,R (Itk a o) (upd H1 a (.frz o (.dK kvs)))
theorem ZQB {l:Expr}{tl:TE}(hl:PE X l tl):PI X tg l (iDK tl):=by
  intro pins s σ H R I h
  refine thn (hl pins s σ H _ I h) fun v s1 zq=>?_
  obtain ⟨x,H1,I1,r1,q1⟩:=zq
  obtain ⟨a,kvs,e,hq,q⟩:=q1
  subst e
  cases r1
  obtain ⟨z,y,xs,r,o,es,ep,h1,h2,h3,h4,h5,h6⟩:=(show ZBx X.prog X.w H1 s1.heap a (.dK kvs) from I1.hok a _ hq)
  have I2:=I1.freezeK hq h1
  refine ZLN ⟨h1,h2,h3⟩ y ?_
  refine ⟨s1.heap.objs.size,[s1.heap.objs.size],_,_,_,rfl,I2.kept (t':=s1.toks) fun b o e=>Heap.get?_push_of_some _ e,ZNB a _ h2 h3,⟨_,Heap.get?_push_size _ rfl,rfl,rfl⟩,fun b hb=>?_,q o⟩
  have e:b=s1.heap.objs.size:=by simpa using hb
  subst e
  exact I2.fpOk (Nat.le_refl _) (I2.hok.fresh (Nat.le_refl _))
end
theorem ZOa {a:Addr}{o:Obj}{kvs:List (Key×V)}{g:TG}{tb:TS}{D:ZHd}{σ:St}{H:Hp}(Pv:Nat→St→Hp→Prop)(h0:Pv 0 σ H)(hl:∀ i σ H,i≤kvs.length→Pv i σ H→H a=some (.frz o (.dK kvs)))
    (hs:∀ i k v σ H,kvs[i]?=some (k,v)→Pv i σ H→g (kV k) σ H fun σ2 H2=>tb { D with nx:=Pv (i+1),ct:=Pv (i+1),bk:=D.nx } σ2 H2) (hd:∀ σ H,Pv kvs.length σ H→D.nx σ H):
    ∃ W:Nat→Nat→St→Hp→Prop,(∃ m,W 0 m σ H)∧∀ i m σ H,W i m σ H→
      ((Itk a o).stop i H∧D.nx σ H)∨((Itk a o).go i H∧∃ N:St→Hp→Prop,(∀ σ' H',N σ' H'→∃ m',m'<m∧W (i+1) m' σ' H')∧∀ x H',(Itk a o).yld i H x H'→g x σ H' fun σ2 H2=>tb { D with nx:=N,ct:=N,bk:=D.nx } σ2 H2):=by
  refine ⟨fun i m σ H=>m=kvs.length-i∧i≤kvs.length∧Pv i σ H,⟨kvs.length,by simp,Nat.zero_le _,h0⟩,?_⟩
  rintro i m σ H ⟨rfl,hi,p⟩
  have q:=hl i σ H hi p
  by_cases hlt:i<kvs.length
  · refine .inr ⟨⟨kvs,q,hlt⟩,Pv (i+1),fun σ' H' p'=>⟨kvs.length-(i+1),by omega,rfl,hlt,p'⟩,fun x H' y=>?_⟩
    obtain ⟨e,y⟩:=y
    subst e
    obtain ⟨k,v,h1,rfl⟩:=y kvs q
    exact hs i k v σ _ h1 p
  · have e:i=kvs.length:=by omega
    subst e
    exact .inl ⟨⟨kvs,q,Nat.le_refl _⟩,hd σ H p⟩
def itO (H:Hp):V→Itm
  | .ref q=>match H q with
    | some (.tup xs)=>.tp xs
    | _=>.fl (.ref q)
  | v=>.fl v
theorem ZOb {H:Hp}{v:V}{i:Itm}(h:ZFf H v i):itO H v=i:=by
  cases i with
  | fl y=>
    obtain ⟨rfl,f⟩:=h
    cases v <;> first | rfl | exact absurd (show false=true from f) Bool.false_ne_true
  | tp xs=>
    obtain ⟨q,rfl,hq,_⟩:=h
    show (match H q with | some (.tup xs)=>Itm.tp xs | _=>.fl (.ref q))=_
    rw [hq]
theorem ZId {H:Hp}:∀ {xs:List V} {is:List Itm},Paired (ZFf H) xs is→xs.map (itO H)=is:=by
  intro A B h
  induction h with
  | nil=>rfl
  | cons h t ih=>rw [List.map_cons,ZOb h,ih]
theorem ZIe {a:V}(f:ZCX a=true):eqV a a=true:=by
  cases a <;> first | rfl | exact absurd (show false=true from f) Bool.false_ne_true | simp [eqV]
theorem ZHJ:∀ {l:List V},l.all ZCX=true→ZEx l l=true
  | [],_=>rfl
  | a::r,f=>by
    rw [List.all_cons,Bool.and_eq_true] at f
    show (eqV a a&&ZEx r r)=true
    rw [ZIe f.1,ZHJ f.2];rfl
theorem ZGR {H:Hp}:∀ {xs:List V} {is:List Itm},Paired (ZFf H) xs is→eqL ZCt is is=true
  | _,_,.nil=>rfl
  | _,_,@Paired.cons _ _ _ v i vs is h t=>by
    show (ZCt i i&&eqL ZCt is is)=true
    rw [ZGR t]
    cases i with
    | fl y=>rw [show ZCt (.fl y) (.fl y)=eqV y y from rfl,ZIe h.2];rfl
    | tp ys=>obtain ⟨_,_,_,f⟩:=h;rw [show ZCt (.tp ys) (.tp ys)=ZEx ys ys from rfl,ZHJ f];rfl
def ZNC (H:Hp)(is:List Itm):V→Bool
  | .ref q=>match H q with
    | some (.tup ys)=>eqL ZCt (ys.map (itO H)) is
    | _=>false
  | _=>false
def ZNm (H:Hp)(is:List Itm):Value→Bool
  | .ref q=>match H q with
    | some (.tup ys)=>eqL ZCt (ys.map (itO H)) is
    | _=>false
  | _=>false
theorem ZKI {H:Hp}{is js:List Itm}{q:Addr}{ys:List V}(h:H q=some (.tup ys))(p:Paired (ZFf H) ys js):ZNC H is (.ref q)=eqL ZCt js is:=by
  show (match H q with | some (.tup ys)=>eqL ZCt (ys.map (itO H)) is | _=>false)=_
  rw [h,← ZId p]
section
variable {X:Cx}{pins:List (Addr×Obj)}{σ:St}{H:Hp}{s:Shared}
theorem ZJB (A':Around)(I:Inv X pins σ H s)(hu1:A'.units<cLine){x y:V}{u v:Value}{i j:Itm}(rx:ZBC x u)(ry:ZBC y v)(hx:ZFf H x i)(hy:ZFf H y j):SeqAt.EqAt A' s u v (ZCt i j):=by
  cases i with
  | fl a=>
    obtain ⟨rfl,fa⟩:=hx
    cases j with
    | fl b=>
      obtain ⟨rfl,fb⟩:=hy
      exact ZJp rx ry fa fb
    | tp ys=>
      obtain ⟨q,rfl,hq,_⟩:=hy
      cases ry
      obtain ⟨its,_,p,_⟩:=I.tuple (SqT.of hq)
      cases x with
      | non=>cases rx;exact SeqAt.EqAt.none_tuple p hu1
      | bl b=>cases rx;exact SeqAt.EqAt.bool_tuple b p hu1
      | int b=>obtain ⟨t,rfl⟩:=rx;exact SeqAt.EqAt.int_tuple b t p hu1
      | str b=>obtain ⟨t,rfl⟩:=rx;exact SeqAt.EqAt.str_tuple b t p hu1
      | _=>exact absurd (show false=true from fa) Bool.false_ne_true
  | tp xs=>
    obtain ⟨q,rfl,hq,fx⟩:=hx
    cases rx
    obtain ⟨its,r1,p,_⟩:=I.tuple (SqT.of hq)
    cases j with
    | fl b=>
      obtain ⟨rfl,fb⟩:=hy
      cases y with
      | non=>cases ry;exact SeqAt.EqAt.tuple_none p hu1
      | bl b=>cases ry;exact SeqAt.EqAt.tuple_bool b p hu1
      | int b=>obtain ⟨t,rfl⟩:=ry;exact SeqAt.EqAt.tuple_int b t p hu1
      | str b=>obtain ⟨t,rfl⟩:=ry;exact SeqAt.EqAt.tuple_str b t p hu1
      | _=>exact absurd (show false=true from fb) Bool.false_ne_true
    | tp ys=>
      obtain ⟨q2,rfl,hq2,fy⟩:=hy
      cases ry
      obtain ⟨its2,r2,p2,_⟩:=I.tuple (SqT.of hq2)
      by_cases e:q=q2
      · subst e
        rw [hq] at hq2
        cases hq2
        have hs:ZEx xs xs=true:=by
          have:∀ l:List V,l.all ZCX=true→ZEx l l=true:=by
            intro l
            induction l with
            | nil=>intro _;rfl
            | cons a r ih=>
              intro f
              rw [List.all_cons,Bool.and_eq_true] at f
              have ea:eqV a a=true:=by
                cases a <;> first | rfl | exact absurd (show false=true from f.1) Bool.false_ne_true | simp [eqV]
              show (eqV a a&&ZEx r r)=true
              rw [ea,ih f.2];rfl
          exact this xs fx
        show SeqAt.EqAt _ _ _ _ (ZEx xs xs)
        rw [hs]
        exact SeqAt.EqAt.same _
      · have rc:=SeqAt.RcAt.tuples (A:=A') (s:=s) (e:=ZEW xs ys) (show s.heap.IsTuple q its.toArray from p) (show s.heap.IsTuple q2 its2.toArray from p2) hu1 (ZEy (pins:=pins) (σ:=σ) (H:=H) r1 r2 fx fy)
        rw [List.size_toArray,List.size_toArray,← r1.length,← r2.length,ZDE] at rc
        exact SeqAt.EqAt.of_refs e rc
theorem ZKJ (A':Around)(I:Inv X pins σ H s)(hu:A'.units<cLine){xs ys:List V}{is js:List Itm}{us vs:List Value}(r1:ZBJ xs us)(r2:ZBJ ys vs)(hx:Paired (ZFf H) xs is)(hy:Paired (ZFf H) ys js):
    ∀ j (h1:j<us.toArray.size) (h2:j<vs.toArray.size),SeqAt.EqAt A' s us.toArray[j] vs.toArray[j] (ZEE ZCt is js j):=by
  intro j h1 h2
  have l1:=r1.length
  have l2:=r2.length
  rw [List.size_toArray] at h1 h2
  have ex:xs[j]?=some (xs[j]'(by omega)):=List.getElem?_eq_getElem _
  have ey:ys[j]?=some (ys[j]'(by omega)):=List.getElem?_eq_getElem _
  obtain ⟨u,hu',ru⟩:=r1.get ex
  obtain ⟨v,hv',rv⟩:=r2.get ey
  obtain ⟨i,hi,ai⟩:=ZBA hx ex
  obtain ⟨k,hk,ak⟩:=ZBA hy ey
  have eu:us.toArray[j]'(by simpa using h1)=u:=by
    rw [List.getElem?_eq_getElem h1] at hu'
    simpa using Option.some.inj hu'
  have ev:vs.toArray[j]'(by simpa using h2)=v:=by
    rw [List.getElem?_eq_getElem h2] at hv'
    simpa using Option.some.inj hv'
  rw [eu,ev]
  have e:ZEE ZCt is js j=ZCt i k:=by unfold ZEE;rw [hi,hk]
  rw [e]
  exact ZJB A' I hu ru rv ai ak
theorem ZND (A':Around)(I:Inv X pins σ H s)(hu:A'.units+1<cLine){a b:Addr}{xs ys:List V}{is js:List Itm}(ha:H a=some (.tup xs))(hb:H b=some (.tup ys))(hx:Paired (ZFf H) xs is)(hy:Paired (ZFf H) ys js):SeqAt.EqAt A' s (.ref a) (.ref b) (eqL ZCt is js):=by
  obtain ⟨its,r1,p1,_⟩:=I.tuple (SqT.of ha)
  obtain ⟨its2,r2,p2,_⟩:=I.tuple (SqT.of hb)
  by_cases e:a=b
  · subst e
    rw [ha] at hb
    cases hb
    rw [← ZId hx,← ZId hy,ZId hx,ZGR hx]
    exact SeqAt.EqAt.same _
  · have rc:=SeqAt.RcAt.tuples (A:=A') (s:=s) (e:=ZEE ZCt is js) (show s.heap.IsTuple a its.toArray from p1) (show s.heap.IsTuple b its2.toArray from p2) (Nat.lt_of_succ_lt hu) (ZKJ A'.in1 I hu r1 r2 hx hy)
    rw [List.size_toArray,List.size_toArray,← r1.length,← r2.length,Paired.length hx,Paired.length hy,ZFH] at rc
    exact SeqAt.EqAt.of_refs e rc
def ZLd (H:Hp)(us:List V):Prop:=∀ u∈us,∃ q ys js,u=.ref q∧H q=some (.tup ys)∧Paired (ZFf H) ys js
def rInT (neg:Bool):R2:=fun x y H Q=>∃ a p us xs is,x=.ref a∧y=.ref p∧H p=some (.lst us)∧H a=some (.tup xs)∧Paired (ZFf H) xs is∧ZLd H us∧Q (.bl (if neg then !us.any (ZNC H is) else us.any (ZNC H is))) H
theorem ZKK {is:List Itm}:∀ {us:List V} {ws:List Value},ZBJ us ws→ZLd H us→ws.any (ZNm H is)=us.any (ZNC H is)
  | _,_,.nil,_=>rfl
  | _,_,.cons r t,h=>by
    obtain ⟨q,ys,js,rfl,_,_⟩:=h _ List.mem_cons_self
    cases r
    rw [List.any_cons,List.any_cons,ZKK t fun u hu=>h u (List.mem_cons_of_mem _ hu)]
    rfl
theorem ZNE (I:Inv X pins σ H s)(hu:X.A.units+2<cLine){a:Addr}{xs:List V}{is:List Itm}(ha:H a=some (.tup xs))(hx:Paired (ZFf H) xs is){us:List V}{ws:List Value}(r:ZBJ us ws)(h:ZLd H us):∀ w∈ws,SeqAt.EqAt X.A.in1 s w (.ref a) (ZNm H is w):=fun w hw=>by
  obtain ⟨u,hu',ru⟩:=ZLG r w hw
  obtain ⟨q,ys,js,rfl,hq,py⟩:=h u hu'
  cases ru
  rw [show ZNm H is (.ref q)=ZNC H is (.ref q) from rfl,ZKI hq py]
  exact ZND X.A.in1 I hu hq ha py hx
end
theorem ZNF {X:Cx}(hu:X.A.units+2<cLine):OpR X (compareOp .NotIn) (rInT true):=by
  intro pins s σ H x y v u Q I rx ry h
  obtain ⟨a,p,us,xs,is,rfl,rfl,hp,ha,hx,ht,q⟩:=h
  cases rx
  cases ry
  obtain ⟨its,r,pl,hz⟩:=I.list (SqL.of hp)
  refine SeqAt.notIn_listAt (ZNm H is) pl.isList (fun w hw=>ZNE I hu ha hx r ht w (by simpa using hw)) ⟨.bl _,H,I,rfl,?_⟩
  rw [show its.toArray.any (ZNm H is)=its.any (ZNm H is) by simp,ZKK r ht]
  exact q
end L2
namespace Mx
def dv (t b:Int):Int:=if b<0 then -(Nat.gcd t.natAbs b.natAbs:Int) else (Nat.gcd t.natAbs b.natAbs:Int)
def ZDA (t b:Int):Int:=t.fdiv (dv t b)
def ZCz (t b:Int):Int:=b.fdiv (dv t b)
theorem ZHt {t b:Int}(h:b≠0):0<Nat.gcd t.natAbs b.natAbs:=Nat.gcd_pos_of_pos_right _ (by omega)
theorem ZJC {t b:Int}(h:b≠0):dv t b≠0:=by
  have:=ZHt (t:=t) h
  unfold dv;split <;> omega
theorem ZLe (t b:Int):dv t b ∣ t:=by
  have h:((Nat.gcd t.natAbs b.natAbs:Nat):Int) ∣ t:=Int.natAbs_dvd_natAbs.mp (by simpa using Nat.gcd_dvd_left t.natAbs b.natAbs)
  unfold dv;split
  · exact Int.neg_dvd.mpr h
  · exact h
theorem ZLf (t b:Int):dv t b ∣ b:=by
  have h:((Nat.gcd t.natAbs b.natAbs:Nat):Int) ∣ b:=Int.natAbs_dvd_natAbs.mp (by simpa using Nat.gcd_dvd_right t.natAbs b.natAbs)
  unfold dv;split
  · exact Int.neg_dvd.mpr h
  · exact h
theorem ZIf {t d:Int}(h:d ∣ t):t.fdiv d*d=t:=by
  obtain ⟨c,rfl⟩:=h
  by_cases hd:d=0
  · subst hd;simp
  · rw [Int.mul_comm d c,Int.mul_fdiv_cancel _ hd]
theorem ZKL (t b:Int):ZDA t b*dv t b=t:=ZIf (ZLe t b)
theorem ZJD (t b:Int):ZCz t b*dv t b=b:=ZIf (ZLf t b)
theorem ZFL (t b:Int):(dv t b).natAbs=Nat.gcd t.natAbs b.natAbs:=by
  unfold dv;split <;> omega
theorem ZLg {t b:Int}(h:b≠0):0<ZCz t b:=by
  have e:=ZJD t b
  have g:=ZHt (t:=t) h
  have hd:dv t b=if b<0 then -(Nat.gcd t.natAbs b.natAbs:Int) else (Nat.gcd t.natAbs b.natAbs:Int):=rfl
  rcases Int.lt_trichotomy (ZCz t b) 0 with q | q | q
  · exfalso
    split at hd
    · have:0<ZCz t b*dv t b:=Int.mul_pos_of_neg_of_neg q (by omega)
      omega
    · have:ZCz t b*dv t b<0:=Int.mul_neg_of_neg_of_pos q (by omega)
      omega
  · rw [q] at e;omega
  · exact q
theorem ZNG {t b:Int}(h:b≠0):Nat.gcd (ZDA t b).natAbs (ZCz t b).natAbs=1:=by
  have g:=ZHt (t:=t) h
  have e1:t.natAbs=(ZDA t b).natAbs*Nat.gcd t.natAbs b.natAbs:=by rw [← ZFL,← Int.natAbs_mul,ZKL]
  have e2:b.natAbs=(ZCz t b).natAbs*Nat.gcd t.natAbs b.natAbs:=by rw [← ZFL,← Int.natAbs_mul,ZJD]
  have e3:Nat.gcd t.natAbs b.natAbs=Nat.gcd (ZDA t b).natAbs (ZCz t b).natAbs*Nat.gcd t.natAbs b.natAbs:=by
    have q:=Nat.gcd_mul_right (ZDA t b).natAbs (Nat.gcd t.natAbs b.natAbs) (ZCz t b).natAbs
    rw [← e1,← e2] at q
    exact q
  have:1*Nat.gcd t.natAbs b.natAbs=Nat.gcd (ZDA t b).natAbs (ZCz t b).natAbs*Nat.gcd t.natAbs b.natAbs:=by omega
  exact (Nat.eq_of_mul_eq_mul_right g this).symm
structure Low (x y:Int):Prop where
  pos:0<y
  cop:Nat.gcd x.natAbs y.natAbs=1
theorem ZC5 {t b:Int}(h:b≠0):Low (ZDA t b) (ZCz t b):=⟨ZLg h,ZNG h⟩
theorem Low.dv {x y:Int}(h:Low x y):Mx.dv x y=1:=by
  have h1:=h.pos;have h2:=h.cop
  unfold Mx.dv;rw [if_neg (by omega),h2];rfl
theorem Low.t {x y:Int}(h:Low x y):ZDA x y=x:=by have e:=ZKL x y;rw [h.dv] at e;omega
theorem Low.b {x y:Int}(h:Low x y):ZCz x y=y:=by have e:=ZJD x y;rw [h.dv] at e;omega
theorem Low.uniq {x y u v:Int}(h:Low x y)(g:Low u v)(e:x*v=u*y):x=u∧y=v:=by
  have hp:=h.pos;have gp:=g.pos
  have e':x.natAbs*v.natAbs=u.natAbs*y.natAbs:=by rw [← Int.natAbs_mul,← Int.natAbs_mul,e]
  have d1:y.natAbs ∣ v.natAbs:=by
    have:y.natAbs ∣ x.natAbs*v.natAbs:=by rw [e'];exact Nat.dvd_mul_left _ _
    exact Nat.Coprime.dvd_of_dvd_mul_left (Nat.coprime_comm.mp h.cop) this
  have d2:v.natAbs ∣ y.natAbs:=by
    have:v.natAbs ∣ u.natAbs*y.natAbs:=by rw [← e'];exact Nat.dvd_mul_left _ _
    exact Nat.Coprime.dvd_of_dvd_mul_left (Nat.coprime_comm.mp g.cop) this
  have e2:y=v:=by have:=Nat.dvd_antisymm d1 d2;omega
  subst e2
  exact ⟨Int.eq_of_mul_eq_mul_right (by omega) e,rfl⟩
theorem ZOc {t b t' b':Int}(h:b≠0)(h':b'≠0)(e:t*b'=t'*b):ZDA t b=ZDA t' b'∧ZCz t b=ZCz t' b':=by
  refine (ZC5 h).uniq (ZC5 h') ?_
  have d1:=ZJC (t:=t) h
  have d2:=ZJC (t:=t') h'
  have e1:=ZKL t b;have e2:=ZJD t b;have e3:=ZKL t' b';have e4:=ZJD t' b'
  have e5:(ZDA t b*ZCz t' b')*(dv t b*dv t' b')=(ZDA t' b'*ZCz t b)*(dv t b*dv t' b'):=by grind
  exact Int.eq_of_mul_eq_mul_right (Int.mul_ne_zero d1 d2) e5
theorem ZF8 (t b:Int)(h:b≠0):(ZDA t b).natAbs≤t.natAbs:=by
  have e:t.natAbs=(ZDA t b).natAbs*(dv t b).natAbs:=by rw [← Int.natAbs_mul,ZKL]
  have:0<(dv t b).natAbs:=by have:=ZJC (t:=t) h;omega
  rw [e];exact Nat.le_mul_of_pos_right _ this
theorem ZF9 (t b:Int)(h:b≠0):(ZCz t b).natAbs≤b.natAbs:=by
  have e:b.natAbs=(ZCz t b).natAbs*(dv t b).natAbs:=by rw [← Int.natAbs_mul,ZJD]
  have:0<(dv t b).natAbs:=by have:=ZJC (t:=t) h;omega
  conv=>rhs;rw [e]
  exact Nat.le_mul_of_pos_right _ this
theorem ZIg {m n:Nat}:Nat.gcd n (m%n)=Nat.gcd m n:=by
  rw [Nat.gcd_comm m n,Nat.gcd_rec n m,Nat.gcd_comm]
end Mx
namespace Mx
theorem ne2 {a b:Int}(h:a≠0)(g:b≠0):a*b≠0:=Int.mul_ne_zero h g
section
variable {a b c d e f:Int}
end
end Mx
namespace Fs
open PySem L2 Mx
structure Df (K:PySem.W.Frag)(mg:Str→Option Value)(x:Str)(st:Stmt)(ps:List Str)(f:Addr)(fd:FuncData):Prop where
  fn:Fun K x x st f fd
  gl:mg x=some (.ref f)
  b:ZHl K fd ps []
theorem ZAW {X:Cx}{k:Nat}{f:Addr}{fd:FuncData}{ps:List Str}{sp:Sp}{x:Str}{st:Stmt}{e:Expr}{es:List Expr}{t:TA}{p pos:Pos}(D:Df X.K X.mg x st ps f fd)(F:ZBS X.prog X.w X.K X.mg X.base CX0 k f fd ps sp)(hr:ZES k X.A)
    (ha:PA X (e::es) t) (hg:Gl X x:=by rfl) (hdb:(x==("__debug__":Str))=false:=by decide) (he:starEach (e::es) X.env=(false,eval e X.env)::starEach es X.env:=by rfl) (hpl:(backTo pos (starEach es X.env)).any (·.1)=false:=by rfl):
    PE X (.Call (.Name x p) (e::es) [] pos) (ZN4 sp [] E0 t):=ZMq F hr hg D.gl D.fn.kp D.b .nil ZPs ha hdb he hpl
theorem ZDj:bootBuiltins "abs"=some (.builtin "abs"):=by decide +kernel
def ZAl (p:Addr)(H H':Hp):Prop:=∀ b o,b≠p→H b=some o→H' b=some o
theorem ZAl.refl (p:Addr)(H:Hp):ZAl p H H:=fun _ _ _ e=>e
theorem ZAl.trans {p:Addr}{H H1 H2:Hp}(a:ZAl p H H1)(b:ZAl p H1 H2):ZAl p H H2:=fun c o hc e=>b c o hc (a c o hc e)
theorem ZAl.upd {p:Addr}{H:Hp}{o:HO}:ZAl p H (upd H p o):=fun b u hb e=>by rw [ZAa hb];exact e
theorem ZAM.keep {p:Addr}{H H':Hp}(h:ZAM H H'):ZAl p H H':=fun b o _ e=>h b o e
theorem ZAM.new {H:Hp}{p:Addr}{o:HO}(h:H p=none):ZAM H (upd H p o):=fun b u e=>by rw [ZAa (ZAY e h)];exact e
def ZDa (H:Hp)(p:Addr)(k:Nat):Prop:=∃ a b c:Int,H p=some (.lst [.int a,.int b,.int c])∧0≤c∧c≤k
def ZOd:St→Nat
  | [_,_,_,some (V.int n)]=>n.toNat
  | [_,_,_,some (V.int n),_]=>n.toNat
  | _=>0
theorem ZIh (i:Int):(if i<0 then -i else i)=(i.natAbs:Int):=by split <;> omega
theorem sz64 {x:Int}(h1:-18446744073709551616<x)(h2:x<18446744073709551616):Sz 64 x:=by unfold Sz;omega
theorem ZBI {x:Int}(h1:-18446744073709551616<x)(h2:x<18446744073709551616):Sz 4000 x:=(sz64 h1 h2).mono (by decide)
theorem ZOe {t b:Int}{n:Nat}(hb:b≠0)(h:Sz n b):Sz n (dv t b):=by
  unfold Sz at *
  rw [ZFL]
  exact Nat.lt_of_le_of_lt (Nat.gcd_le_right _ (by omega)) h
theorem ZGS {t b:Int}{n:Nat}(hb:b≠0)(h:Sz n t):Sz n (ZDA t b):=h.of_le (ZF8 t b hb)
theorem ZGT {t b:Int}{n:Nat}(hb:b≠0)(h:Sz n b):Sz n (ZCz t b):=h.of_le (ZF9 t b hb)
theorem ZAn:2≤sizeLine:=by decide
theorem ZAk:3≤sizeLine:=by decide
structure ZFM (H:Hp)(p:Addr)(x y:Int)(n:Nat):Prop where
  ob:H p=some (.tup [.int x,.int y])
  low:Low x y
  sx:Sz n x
  sy:Sz n y
theorem ZFM.ne0 {H:Hp}{p:Addr}{x y:Int}{n:Nat}(h:ZFM H p x y n):y≠0:=by have:=h.low.pos;omega
def spGd:Sp:=fun vs H Q _=>∃ a b:Int,vs=[.int a,.int b]∧Q (.int (Nat.gcd a.natAbs b.natAbs:Nat)) H
def ZQC:Sp:=fun vs H Q _=>∃ t b:Int,vs=[.int t,.int b]∧b≠0∧Sz 4000 b∧∀ p,H p=none→Q (.ref p) (upd H p (.tup [.int (ZDA t b),.int (ZCz t b)]))
def ZRx:Sp:=fun vs H Q _=>∃ (p:Addr) (m:Int) (k:Nat),vs=[.ref p,.int m]∧0<m∧Sz 4000 m∧ZDa H p k∧k≤100000∧∀ (r:Int) (H':Hp),0≤r→r<m→ZDa H' p (k+1)→ZAl p H H'→Q (.int r) H'
def spPen (K:PySem.W.Frag):Sp:=fun vs H Q _=>∃ (a:Addr) (ns:List Int) (k:Int),vs=[.ref a,.int k]∧SqL K H a (ns.map V.int)∧0≤k∧k≤1000∧∀ (p:Addr) (H':Hp),H p=none→ZDa H' p 0→ZAM H H'→Q (.ref p) H'
def sp2 (f g:Int→Int→Int→Int→Int)(e:Nat→Nat→Nat)(C:Int→Int→Int→Int→Prop):Sp:=fun vs H Q _=>∃ (p q:Addr) (a b c d:Int) (m n:Nat),vs=[.ref p,.ref q]∧ZFM H p a b m∧ZFM H q c d n∧m+n≤3000∧C a b c d∧
  ∀ (r:Addr) (H':Hp),ZAM H H'→ZFM H' r (ZDA (f a b c d) (g a b c d)) (ZCz (f a b c d) (g a b c d)) (e m n)→Q (.ref r) H'
abbrev eMN (m n:Nat):Nat:=m+n+1
abbrev ZQD:Sp:=sp2 (fun a b c d=>a*d+c*b) (fun _ b _ d=>b*d) eMN (fun _ _ _ _=>True)
abbrev ZQE:Sp:=sp2 (fun a b c d=>a*d-c*b) (fun _ b _ d=>b*d) eMN (fun _ _ _ _=>True)
abbrev ZQF:Sp:=sp2 (fun a _ c _=>a*c) (fun _ b _ d=>b*d) eMN (fun _ _ _ _=>True)
abbrev ZQG:Sp:=sp2 (fun a _ _ d=>a*d) (fun _ b c _=>b*c) eMN (fun _ _ c _=>c≠0)
def ZOf:Sp:=fun vs H Q _=>∃ (p q:Addr) (a b c d:Int) (m n:Nat),vs=[.ref p,.ref q]∧ZFM H p a b m∧ZFM H q c d n∧m+n≤3000∧Q (.bl (decide (a*d<c*b))) H
def ZQH (K:PySem.W.Frag)(C:Addr):Sp:=fun vs H Q _=>∃ a:Addr,vs=[.ref a]∧H a=some (ZPv a (.ref C))∧∀ H',ZAM H H'→Q (.bl true) H'
def ZNH:Sp:=fun vs H Q _=>∃ i:Int,vs=[.int i]∧Q (.bl true) H
def ZQI:Sp:=fun vs H Q _=>∃ (p:Addr) (x y:Int) (n:Nat),vs=[.ref p]∧ZFM H p x y n∧n≤4000∧∀ H',ZAM H H'→Q (.bl true) H'
def spFar:Sp:=fun vs H Q _=>∃ (p:Addr) (k:Nat),vs=[.ref p]∧ZDa H p k∧k≤90000∧∀ (r:Int) (H':Hp),Sz 250 r→ZDa H' p (k+5)→ZAl p H H'→Q (.int r) H'
def spLaw (K:PySem.W.Frag):Sp:=fun vs H Q _=>∃ (a:Addr) (ns:List Int),vs=[.ref a]∧SqL K H a (ns.map V.int)∧ns.length≤63∧∀ H',Q (.bl true) H'
theorem eqI {x y:Int}(h:x=y):V.bl (decide (V.int x=V.int y))=V.bl true:=by subst h;simp
theorem rtv {Q:VK}{v w:V}{H:Hp}(e:v=w)(q:Q w H):Q v H:=by rw [e];exact q
theorem ZAV:bootBuiltins "isinstance"=some (.builtin "isinstance"):=by decide +kernel
theorem ZLh:bootBuiltins "max"=some (.builtin "max"):=by decide +kernel
theorem ZCh:bootBuiltins "int"=some (.type "int"):=by decide +kernel
theorem ZCD:bootBuiltins "bool"=some (.type "bool"):=by decide +kernel
theorem ZDk:bootBuiltins "str"=some (.type "str"):=by decide +kernel
theorem ZHK:bootBuiltins "list"=some (.type "list"):=by decide +kernel
theorem ZCl:bootBuiltins "tuple"=some (.type "tuple"):=by decide +kernel
theorem ZBz {X:Cx}{x:Str}{T:String}{pos:Pos}(hm:X.mg x=none)(hv:bootBuiltins x=some (.type T))(hg:Gl X x:=by rfl)(hn:x≠"__name__":=by decide)(hd:(x==("__debug__":Str))=false:=by decide):PE X (.Name x pos) (tC (.ty T)):=ZMn hg hm hv rfl hn hd
theorem ZLi {n:Nat}{x:Int}(h:decide (x.natAbs<2 ^ n)=true):Sz n x:=(of_decide_eq_true h:x.natAbs<2 ^ n)
theorem ZCe (K:PySem.W.Frag)(t:Value):PySem.W.kitOne K t t=some true:=by unfold PySem.W.kitOne;simp
def ZQJ (mg:Str→Option Value)(x z:Str):Prop:=∃ u,mg x=some u∧ZBC (.str z) u
def ZQK (mg:Str→Option Value)(x:Str)(i:Int):Prop:=∃ u,mg x=some u∧ZBC (.int i) u
theorem ZKM {X:Cx}{x z:Str}{pos:Pos}(hm:ZQJ X.mg x z)(hg:Gl X x:=by rfl)(hd:(x==("__debug__":Str))=false:=by decide):PE X (.Name x pos) (tC (.str z)):=by
  obtain ⟨u,h,r⟩:=hm
  exact ZJX hg h r hd
theorem ZKN {X:Cx}{x:Str}{i:Int}{pos:Pos}(hm:ZQK X.mg x i)(hg:Gl X x:=by rfl)(hd:(x==("__debug__":Str))=false:=by decide):PE X (.Name x pos) (tC (.int i)):=by
  obtain ⟨u,h,r⟩:=hm
  exact ZJX hg h r hd
def ZRy:R2:=fun x y H Q=>∃ i j,x=.str i∧y=.str j∧Q (.bl (!(Builtin.Str.occurrences j i 0 j.length 1).isEmpty)) H
theorem ZOg {X:Cx}:OpR X (compareOp .In) ZRy:=ZJg
theorem ZHL (a b:Str):(a++b).cps.toList=a.cps.toList++b.cps.toList:=by
  show (a.cps++b.cps).toList=_
  exact Array.toList_append
theorem ZKO {a b:Str}(h:a.cps.toList=b.cps.toList):a=b:=by
  obtain ⟨⟨a⟩⟩:=a
  obtain ⟨⟨b⟩⟩:=b
  simp only at h
  rw [h]
theorem ZHM (a:Str):Str.empty++a=a:=ZKO (by rw [ZHL];rfl)
theorem ZKP (a:Str):a.length=a.cps.toList.length:=by simp [Str.length]
theorem ZAs (a b:Str):(a++b).length=a.length+b.length:=strLen_append a b
theorem ZDM {n:Nat}(h:n≤1000):n<sizeLine:=ZHB h
theorem ZC0 {n:Nat}(h:n≤1000):n≤sizeLine:=Nat.le_of_lt (ZHB h)
theorem ZJE {z:Str}(L:Str){H:Hp}{D:Addr}(hz:z.length≤1000)(hD:H D=none):
    ∃ W:Nat→Nat→Hp→Prop,(∃ m,W 0 m (upd H D (.lst [])))∧∀ i m H',W i m H'→
      ((Its z).stop i H'∧H'=upd H D (.lst ((z.cps.toList.map fun c=>decide (c∈L.cps.toList)).map V.bl)))∨((Its z).go i H'∧∀ (js:List Nat) (σ:St) (x:V) (H2:Hp),(Its z).yld i H' x H2→ZPt (some x::frv js σ) H2 fun b H3=>
        if b=true then tOp ZRy (ZPW 0) (tC (.str L)) (some x::frv js σ) H3 fun v H4=>∃ xs,H4 D=some (.lst xs)∧xs.length<sizeLine∧∃ m',m'<m∧W (i+1) m' (upd H4 D (.lst (xs++[v])))
        else ∃ m',m'<m∧W (i+1) m' H3):=by
  have hs:z.cps.toList.length=z.cps.size:=by simp
  have hl:z.length=z.cps.size:=rfl
  refine ⟨fun i m H'=>m=z.cps.size-i∧i≤z.cps.size∧H'=upd H D (.lst (((z.cps.toList.take i).map fun c=>decide (c∈L.cps.toList)).map V.bl)),⟨z.cps.size,by simp,Nat.zero_le _,by simp⟩,?_⟩
  rintro i m H' ⟨rfl,hi,rfl⟩
  by_cases hlt:i<z.cps.size
  · refine .inr ⟨hlt,fun js σ x H2 y=>?_⟩
    obtain ⟨e,c,hc,e2⟩:=y
    subst e e2
    unfold ZPt
    dsimp only
    rw [if_pos rfl]
    refine ⟨_,rfl,_,_,rfl,rfl,_,ZAE,?_,_,?_,rfl,hlt,?_⟩
    · rw [List.length_map,List.length_map,List.length_take];exact ZDM (by omega)
    · show z.cps.size-(i+1)<z.cps.size-i
      omega
    · rw [ZHj]
      congr 2
      have ht:z.cps.toList.take (i+1)=z.cps.toList.take i++[c]:=by
        rw [List.take_succ,show z.cps.toList[i]?=some c by simpa using hc]
        rfl
      rw [ht,List.map_append,List.map_append,StrLaws.found_one]
      rfl
  · have e:i=z.cps.size:=by omega
    subst e
    refine .inl ⟨rfl,?_⟩
    have ht:z.cps.toList.take z.cps.size=z.cps.toList:=List.take_of_length_le (by omega)
    rw [ht]
structure Nm (z:Str):Prop where
  lo:1≤z.length
  hi:z.length≤6
  az:∀ c∈z.cps.toList,97≤c∧c≤122
def ZOh (c:Int):Str:=⟨#[64+c.toNat]⟩
def num (r:Int):Str:=Str.ofString (toString r)
def ZEg (z:Str)(r c:Int):Str:=((z++Str.ofString "!")++ZOh c)++num r
structure Dg (z:Str)(n:Int):Prop where
  lo:1≤z.length
  hi:z.length≤640
  fig:∀ c∈z.cps.toList,c∈(Str.ofString "0123456789").cps.toList
  rd:PySem.intText? z=some n
  c0:∃ c,z.cps.toList[0]?=some c∧(c≠48∨z=Str.ofString "0")
theorem ZQL:Str.ofString "!"=⟨#[33]⟩:=by decide +kernel
theorem ZOi:∀ i,i<16→1≤(num ((i+1:Nat):Int)).length∧(num ((i+1:Nat):Int)).length≤2∧(∀ c∈(num ((i+1:Nat):Int)).cps.toList,c∈(Str.ofString "0123456789").cps.toList)∧
    PySem.intText? (num ((i+1:Nat):Int))=some ((i+1:Nat):Int)∧((num ((i+1:Nat):Int)).cps.toList[0]?.getD 48)≠48:=by decide +kernel
theorem ZOj:∀ j,j<8→atI (Str.ofString "ABCDEFGHIJKLMNOPQRSTUVWXYZ").cps.toList (((j+1:Nat):Int)-1)=some (64+(j+1))∧atI (Str.ofString "ABCDEFGH").cps.toList (((j+1:Nat):Int)-1)=some (64+(j+1))∧
    Txt.find (Str.ofString "ABCDEFGHIJKLMNOPQRSTUVWXYZ") ⟨#[64+(j+1)]⟩=(j:Int):=by decide +kernel
theorem ZOk {r:Int}{n:Nat}(h0:1≤r)(h1:r≤n):∃ i:Nat,i<n∧r=((i+1:Nat):Int):=⟨(r-1).toNat,by omega,by omega⟩
theorem ZMI {r:Int}(h0:1≤r)(h1:r≤16):Dg (num r) r∧(num r).length≤2:=by
  obtain ⟨i,hi,rfl⟩:=ZOk (n:=16) h0 h1
  obtain ⟨a,b,c,d,e⟩:=ZOi i hi
  refine ⟨⟨a,by omega,c,d,?_⟩,b⟩
  cases q:(num ((i+1:Nat):Int)).cps.toList[0]? with
  | none=>rw [q] at e;exact absurd rfl e
  | some x=>rw [q] at e;exact ⟨x,rfl,.inl e⟩
theorem ZOl {c:Int}(h0:1≤c)(h1:c≤8):atI (Str.ofString "ABCDEFGHIJKLMNOPQRSTUVWXYZ").cps.toList (c-1)=some (64+c.toNat)∧atI (Str.ofString "ABCDEFGH").cps.toList (c-1)=some (64+c.toNat)∧
    Txt.find (Str.ofString "ABCDEFGHIJKLMNOPQRSTUVWXYZ") ⟨#[64+c.toNat]⟩+1=c:=by
  obtain ⟨j,hj,rfl⟩:=ZOk (n:=8) h0 h1
  obtain ⟨a,b,d⟩:=ZOj j hj
  exact ⟨a,b,by rw [show ((j+1:Nat):Int).toNat=j+1 from rfl,d];omega⟩
theorem ZIi {z:Str}{r c:Int}(h:Nm z)(h0:1≤r)(h1:r≤16):(ZEg z r c).length≤10:=by
  unfold ZEg
  rw [ZAs,ZAs,ZAs,ZQL]
  have:=h.hi
  have:=(ZMI h0 h1).2
  have e1:(⟨#[33]⟩:Str).length=1:=rfl
  have e2:(ZOh c).length=1:=rfl
  omega
structure ZPR (H:Hp)(p:Addr)(z:Str)(r c:Int):Prop where
  ob:H p=some (.tup [.str z,.int r,.int c])
  nm:Nm z
  r0:1≤r
  r1:r≤16
  c0:1≤c
  c1:c≤8
structure ZMJ (H:Hp)(p:Addr)(z:Str)(r c r2 c2:Int):Prop where
  ob:H p=some (.tup [.str z,.int r,.int c,.int r2,.int c2])
  nm:Nm z
  r0:1≤r
  r1:r≤r2
  r16:r2≤16
  c0:1≤c
  c1:c≤c2
  c8:c2≤8
theorem ZMJ.same {H H':Hp}{p:Addr}{z:Str}{r c r2 c2:Int}(h:ZMJ H p z r c r2 c2)(s:ZAM H H'):ZMJ H' p z r c r2 c2:=⟨s _ _ h.ob,h.nm,h.r0,h.r1,h.r16,h.c0,h.c1,h.c8⟩
def ZNn (H:Hp)(l:Addr)(z:Str)(r c:Int)(w n:Nat):Prop:=∃ vs:List V,H l=some (.lst vs)∧vs.length=n∧∀ (k:Nat) (v:V),vs[k]?=some v→∃ a:Addr,v=.ref a∧H a=some (.tup [.str z,.int (r+((k / w:Nat):Int)),.int (c+((k%w:Nat):Int))])
def spRdW:Sp:=fun vs H Q _=>∃ (z:Str) (m n:Int),vs=[.str z,.int m]∧Dg z n∧(z.length:Int)≤m∧∀ H',ZAM H H'→Q (.int n) H'
def spShN:Sp:=fun vs H Q _=>∃ z:Str,vs=[.str z]∧Nm z∧∀ H',ZAM H H'→Q (.bl true) H'
def ZRz:Sp:=fun vs H Q _=>∃ i l:Int,vs=[.int i,.int l]∧1≤i∧i≤l∧Q (.bl true) H
def spIsC:Sp:=fun vs H Q _=>∃ (p:Addr) (z:Str) (r c:Int),vs=[.ref p]∧ZPR H p z r c∧∀ H',ZAM H H'→Q (.bl true) H'
def spIsB:Sp:=fun vs H Q _=>∃ (p:Addr) (z:Str) (r c r2 c2:Int),vs=[.ref p]∧ZMJ H p z r c r2 c2∧∀ H',ZAM H H'→Q (.bl true) H'
def spCT:Sp:=fun vs H Q _=>∃ (p:Addr) (z:Str) (r c:Int),vs=[.ref p]∧ZPR H p z r c∧Q (.str (ZEg z r c)) H
def spRC:Sp:=fun vs H Q _=>∃ (z:Str) (r c:Int),vs=[.str (ZEg z r c)]∧Nm z∧1≤r∧r≤16∧1≤c∧c≤8∧∀ (p:Addr) (H':Hp),ZAM H H'→ZPR H' p z r c→Q (.ref p) H'
def spCs:Sp:=fun vs H Q _=>∃ (p:Addr) (z:Str) (r c r2 c2:Int),vs=[.ref p]∧ZMJ H p z r c r2 c2∧∀ (l:Addr) (H':Hp),H l=none→ZAM H H'→ZNn H' l z r c (c2-c+1).toNat ((r2-r+1).toNat*(c2-c+1).toNat)→Q (.ref l) H'
def ZQM:Sp:=fun vs H Q _=>∃ (p:Addr) (k:Nat),vs=[.ref p]∧ZDa H p k∧k≤90000∧∀ (z:Str) (H':Hp),Nm z→ZDa H' p (k+8)→ZAl p H H'→Q (.str z) H'
def ZQN:Sp:=fun vs H Q _=>∃ (p:Addr) (k:Nat),vs=[.ref p]∧ZDa H p k∧k≤80000∧∀ (q:Addr) (z:Str) (r c:Int) (H':Hp),ZPR H' q z r c→ZDa H' p (k+10)→ZAl p H H'→Q (.ref q) H'
def ZQO:Sp:=fun vs H Q _=>∃ (p:Addr) (k:Nat),vs=[.ref p]∧ZDa H p k∧k≤70000∧∀ (q:Addr) (z:Str) (r c r2 c2:Int) (H':Hp),ZMJ H' q z r c r2 c2→ZDa H' p (k+12)→ZAl p H H'→Q (.ref q) H'
def spIsP:Sp:=fun vs H Q _=>∃ (p q:Addr) (z:Str) (r c:Int),vs=[.ref p,.ref q]∧H p=some (.tup [.str z,.int r,.int c])∧H q=some (.tup [.str z,.int r,.int c])∧Q (.bl true) H
def spBkR:Sp:=fun vs H Q _=>∃ (p:Addr) (z:Str) (r c r2 c2:Int),vs=[.ref p]∧ZMJ H p z r c r2 c2∧∀ H',ZAM H H'→Q (.bl true) H'
theorem ZNn.push {H:Hp}{l q:Addr}{z:Str}{r c r' c':Int}{w n:Nat}{vs:List V}(h1:H l=some (.lst vs))(h2:vs.length=n)
    (h3:∀ (k:Nat) (v:V),vs[k]?=some v→∃ a:Addr,v=.ref a∧H a=some (.tup [.str z,.int (r+((k / w:Nat):Int)),.int (c+((k%w:Nat):Int))]))
    (hq:H q=none) (er:r'=r+((n / w:Nat):Int)) (ec:c'=c+((n%w:Nat):Int)):ZNn (upd (upd H q (.tup [.str z,.int r',.int c'])) l (.lst (vs++[.ref q]))) l z r c w (n+1):=by
  have nql:q≠l:=fun e=>by subst e;rw [hq] at h1;cases h1
  refine ⟨_,ZAE,by rw [List.length_append,h2];rfl,fun k v e=>?_⟩
  by_cases hk:k<n
  · rw [List.getElem?_append_left (by omega)] at e
    obtain ⟨a,ea,ha⟩:=h3 k v e
    have n1:a≠l:=ZCH ha h1 (by intro z;cases z)
    have n2:a≠q:=ZAY ha hq
    exact ⟨a,ea,by rw [ZAa n1,ZAa n2];exact ha⟩
  · rw [List.getElem?_append_right (by omega)] at e
    have hk2:k-vs.length=0:=by
      obtain ⟨hlt,_⟩:=List.getElem?_eq_some_iff.mp e
      simp at hlt
      omega
    rw [hk2] at e
    have e':V.ref q=v:=by simpa using e
    have hkn:k=n:=by omega
    subst hkn
    exact ⟨q,e'.symm,by rw [ZAa nql,ZAE,er,ec]⟩
theorem ZAM.step {H H3:Hp}{l q:Addr}{o o':HO}(s:ZAM H H3)(hl:H l=none)(hq:H3 q=none):ZAM H (upd (upd H3 q o) l o'):=fun b u e=>by
  rw [ZAa (ZAY e hl),ZAa (ZAY (s _ _ e) hq)]
  exact s _ _ e
theorem ZMK {z:Str}(h:(decide (1≤z.length)&&decide (z.length≤6)&&z.cps.toList.all fun c=>decide (97≤c)&&decide (c≤122))=true):Nm z:=by
  simp only [Bool.and_eq_true,decide_eq_true_eq,List.all_eq_true] at h
  exact ⟨h.1.1,h.1.2,fun c hc=>h.2 c hc⟩
theorem ZKQ (m:Nat):(num (m:Int)).cps.toList=(Nat.toDigits 10 m).map Char.toNat:=PySem.W.KIN.signs_num m
theorem ZNI {n:Int}(h:n<0):num n=(⟨#[45]⟩:Str)++num (-n):=by
  obtain ⟨m,rfl⟩:∃ m:Nat,n=Int.negSucc m:=⟨(-n-1).toNat,by omega⟩
  have e2:(num (Int.negSucc m)).cps.toList=45::(Nat.toDigits 10 (m+1)).map Char.toNat:=by
    unfold num
    rw [Str.ofString_eq_toList]
    show (("-"++Nat.repr (m+1)).toList.map Char.toNat).toArray.toList=_
    rw [String.toList_append,List.map_append,Nat.toList_repr]
    rfl
  refine ZKO ?_
  rw [ZHL,e2,show -(Int.negSucc m)=((m+1:Nat):Int) from rfl,ZKQ]
  rfl
theorem ZKR {n:Int}(h:0≤n)(hn:n<10 ^ 30):(num n).length≤30:=by
  obtain ⟨m,rfl⟩:=Int.eq_ofNat_of_zero_le h
  rw [ZKP,ZKQ,List.length_map]
  exact (Nat.length_toDigits_le_iff (by decide) (by decide)).mpr (by omega)
inductive Vl where
  | none | num (t b:Int) | txt (z:Str) | tru (b:Bool) | flt (w z:Str) (r c:Int)
  deriving DecidableEq
def ZDS:List Str:=[Str.ofString "kind",Str.ofString "nought",Str.ofString "gone",Str.ofString "name",Str.ofString "shape",Str.ofString "blocked",Str.ofString "miss",Str.ofString "ring",Str.ofString "great"]
def ZBi:Vl→Prop
  | .num t b=>Low t b∧t.natAbs<10 ^ 30∧b.natAbs<10 ^ 30
  | .txt z=>z.length≤20∧∀ c∈z.cps.toList,c∈(Str.ofString "abcdefghijklmnopqrstuvwxyz0123456789 ").cps.toList
  | .flt w z r c=>w∈ZDS∧Nm z∧1≤r∧r≤16∧1≤c∧c≤8
  | _=>True
def ZHu (t b:Int):Str:=if b=1 then num t else num t++Str.ofString "/"++num b
def ZKS:Vl→Str
  | .none=>Str.ofString ""
  | .num t b=>ZHu t b
  | .txt z=>Str.ofString "'"++z
  | .tru b=>if b=true then Str.ofString "yes" else Str.ofString "no"
  | .flt w z r c=>((Str.ofString "!"++w)++Str.ofString " ")++ZEg z r c
theorem ZKT:Str.ofString "/"=⟨#[47]⟩:=by decide +kernel
theorem ZQP:Str.ofString "'"=⟨#[39]⟩:=by decide +kernel
theorem ZQQ:Str.ofString " "=⟨#[32]⟩:=by decide +kernel
theorem ZDl {n:Int}(h:n.natAbs<10 ^ 30):(num n).length≤31:=by
  by_cases hn:n<0
  · rw [ZNI hn,ZAs]
    have:=ZKR (n:=-n) (by omega) (by omega)
    show 1+_≤_
    omega
  · exact Nat.le_trans (ZKR (by omega) (by omega)) (by decide)
theorem ZKU {t b:Int}(h1:t.natAbs<10 ^ 30)(h2:b.natAbs<10 ^ 30):(ZHu t b).length≤63:=by
  have a:=ZDl h1
  have c:=ZDl h2
  unfold ZHu
  split
  · omega
  · rw [ZAs,ZAs,ZKT]
    show _+1+_≤_
    omega
theorem ZFN {v:Vl}(h:ZBi v):(ZKS v).length≤64:=by
  cases v with
  | none=>exact Nat.zero_le _
  | num t b=>exact Nat.le_trans (ZKU h.2.1 h.2.2) (by decide)
  | txt z=>
    show (Str.ofString "'"++z).length≤_
    rw [ZAs,ZQP]
    have:=h.1
    show 1+_≤_
    omega
  | tru b=>cases b <;> decide +kernel
  | flt w z r c=>
    obtain ⟨hw,nm,r0,r1,c0,c1⟩:=h
    show (((Str.ofString "!"++w)++Str.ofString " ")++ZEg z r c).length≤_
    rw [ZAs,ZAs,ZAs,ZQL,ZQQ]
    have:=ZIi (c:=c) nm r0 r1
    have tab:∀ w∈ZDS,w.length≤7:=by decide +kernel
    have:=tab w hw
    show 1+_+1+_≤_
    omega
def ZQR (K:PySem.W.Frag)(mg:Str→Option Value)(x:Str)(xs:List V):Prop:=∃ (a:Addr) (o:Obj),mg x=some (.ref a)∧K.lookup a=some o∧o.cls=.type "tuple"∧∃ its n,o.data=.seq its n∧its.size≤sizeLine∧ZBJ xs its.toList
def tGT (K:PySem.W.Frag)(xs:List V):TE:=fun _ H Q=>∀ a,(∀ H',SqT K H' a xs)→Q (.ref a) H
theorem ZHv {X:Cx}{x:Str}{xs:List V}{pos:Pos}(hm:ZQR X.K X.mg x xs)(hg:Gl X x:=by rfl)(hd:(x==("__debug__":Str))=false:=by decide):PE X (.Name x pos) (tGT X.K xs):=by
  obtain ⟨a,o,h,hl,hc,its,n,h1,h2,h3⟩:=hm
  intro pins s σ H Q I q
  exact ZE5 I hg h ⟨.ref a,H,I,rfl,q a fun H'=>.inr ⟨o,its,n,hl,hc,h1,h2,h3⟩⟩ hd
def ZFg (H:Hp)(p:Addr):Vl→Prop
  | .none=>H p=some (.tup [.str (Str.ofString "none")])
  | .num t b=>H p=some (.tup [.str (Str.ofString "number"),.int t,.int b])
  | .txt z=>H p=some (.tup [.str (Str.ofString "text"),.str z])
  | .tru b=>H p=some (.tup [.str (Str.ofString "truth"),.bl b])
  | .flt w z r c=>∃ q,H p=some (.tup [.str (Str.ofString "fault"),.str w,.ref q])∧H q=some (.tup [.str z,.int r,.int c])
def ZQS:Sp:=fun vs H Q _=>∃ t b:Int,vs=[.int t,.int b]∧Low t b∧Q (.bl true) H
def spFew:Sp:=fun vs H Q _=>∃ i:Int,vs=[.int i]∧i.natAbs<10 ^ 30∧Q (.bl true) H
def ZQT:Sp:=fun vs H Q _=>∃ t b:Int,vs=[.int t,.int b]∧Low t b∧t.natAbs<10 ^ 30∧b.natAbs<10 ^ 30∧Q (.bl true) H
def spIsT:Sp:=fun vs H Q _=>∃ z:Str,vs=[.str z]∧ZBi (.txt z)∧∀ H',ZAM H H'→Q (.bl true) H'
def spFW:Sp:=fun vs H Q _=>∃ w:Str,vs=[.str w]∧w∈ZDS∧Q (.bl true) H
def spIsV:Sp:=fun vs H Q _=>∃ (p:Addr) (v:Vl),vs=[.ref p]∧ZBi v∧ZFg H p v∧∀ H',ZAM H H'→Q (.bl true) H'
def spNT:Sp:=fun vs H Q _=>∃ t b:Int,vs=[.int t,.int b]∧t.natAbs<10 ^ 30∧b.natAbs<10 ^ 30∧Q (.str (ZHu t b)) H
def spVT:Sp:=fun vs H Q _=>∃ (p:Addr) (v:Vl),vs=[.ref p]∧ZBi v∧ZFg H p v∧∀ H',ZAM H H'→Q (.str (ZKS v)) H'
def spNM:Sp:=fun vs H Q _=>∃ t b:Int,vs=[.str (ZHu t b)]∧Low t b∧t.natAbs<10 ^ 30∧b.natAbs<10 ^ 30∧∀ (p:Addr) (H':Hp),ZAM H H'→ZFg H' p (.num t b)→Q (.ref p) H'
def spFM:Sp:=fun vs H Q _=>∃ (w z:Str) (r c:Int),vs=[.str ((w++Str.ofString " ")++ZEg z r c)]∧ZBi (.flt w z r c)∧∀ (p:Addr) (H':Hp),ZAM H H'→ZFg H' p (.flt w z r c)→Q (.ref p) H'
def spTM:Sp:=fun vs H Q _=>∃ v:Vl,vs=[.str (ZKS v)]∧ZBi v∧∀ (p:Addr) (H':Hp),ZAM H H'→ZFg H' p v→Q (.ref p) H'
def ZR0:Sp:=fun vs H Q _=>∃ (p:Addr) (k:Nat),vs=[.ref p]∧ZDa H p k∧k≤90000∧∀ (r:Int) (H':Hp),r.natAbs<10 ^ 30-3→ZDa H' p (k+5)→ZAl p H H'→Q (.int r) H'
def ZR1:Sp:=fun vs H Q _=>∃ (p:Addr) (k:Nat),vs=[.ref p]∧ZDa H p k∧k≤80000∧∀ (q:Addr) (x y:Int) (H':Hp),H' q=some (.tup [.int x,.int y])→Low x y→x.natAbs<10 ^ 30→y.natAbs<10 ^ 30→ZDa H' p (k+12)→ZAl p H H'→Q (.ref q) H'
def spVal:Sp:=fun vs H Q _=>∃ (p:Addr) (k:Nat),vs=[.ref p]∧ZDa H p k∧k≤60000∧∀ (q:Addr) (v:Vl) (H':Hp),ZBi v→ZFg H' q v→ZDa H' p (k+40)→ZAl p H H'→Q (.ref q) H'
def ZR2:Sp:=fun vs H Q _=>∃ (p q:Addr) (v:Vl),vs=[.ref p,.ref q]∧ZFg H p v∧ZFg H q v∧∀ H',ZAM H H'→Q (.bl true) H'
theorem ZLj {n:Nat}(h:n<10 ^ 30):n.log2<1920:=by
  rcases Nat.eq_zero_or_pos n with e | e
  · subst e;decide
  · exact Nat.lt_trans ((Nat.log2_lt (by omega)).mpr (Nat.lt_trans h (show 10 ^ 30<2 ^ 100 by decide))) (by decide)
def rNeV:R2:=fun x y H Q=>∃ a b v,x=.ref a∧y=.ref b∧ZFg H a v∧ZFg H b v∧Q (.bl false) H
theorem kid1 {α:Type}{us:List α}(h:us.length=1):∃ a,us=[a]:=match us,h with | [a],_=>⟨a,rfl⟩
theorem ZR3 {α:Type}{us:List α}(h:us.length=2):∃ a b,us=[a,b]:=match us,h with | [a,b],_=>⟨a,b,rfl⟩
abbrev kS (z:String):Key:=.inr (Str.ofString z)
def penK (a:Addr)(t r m u:Int):List (Key×V):=[(kS "cells",.ref a),(kS "at",.int t),(kS "rest",.int r),(kS "mode",.int m),(kS "used",.int u)]
section
variable {H:Hp}{p a:Addr}{t r m u:Int}
end
def ZGU (K:PySem.W.Frag)(S:Addr×List Int)(H:Hp)(p:Addr)(k:Nat):Prop:=∃ t r m u:Int,H p=some (.dK (penK S.1 t r m u))∧SqL K H S.1 (S.2.map V.int)∧0≤t∧0≤u∧u≤k∧(m=0∨(m=1∧0<S.2.length))∧S.2.length≤63
section
variable {K:PySem.W.Frag}{S:Addr×List Int}{H H':Hp}{p D:Addr}{k n:Nat}
end
def ZR4 (K:PySem.W.Frag):Sp:=fun vs H Q _=>∃ (a:Addr) (ns:List Int),vs=[.ref a]∧SqL K H a (ns.map V.int)∧ns.length≤63∧∀ (p:Addr) (H':Hp),H p=none→ZGU K (a,ns) H' p 0→ZAM H H'→Q (.ref p) H'
def ZR5 (K:PySem.W.Frag):Sp:=fun vs H Q _=>∃ (p:Addr) (m:Int) (k:Nat) (S:Addr×List Int),vs=[.ref p,.int m]∧0<m∧Sz 4000 m∧ZGU K S H p k∧k≤10000000∧∀ (r:Int) (H':Hp),0≤r→r<m→ZGU K S H' p (k+1)→ZAl p H H'→Q (.int r) H'
theorem ZLk {ns:List Int}{r:Int}(h0:0≤r)(h1:r<(ns.length:Int)):∃ v,atI (ns.map V.int) r=some (V.int v):=by
  obtain ⟨j,rfl⟩:∃ j:Nat,r=(j:Int):=⟨r.toNat,by omega⟩
  have hj:j<ns.length:=by omega
  exact ⟨ns[j],ZDY (by rw [List.getElem?_map,List.getElem?_eq_getElem hj];rfl)⟩
abbrev vS (z:String):V:=.str (Str.ofString z)
def KN14:List V:=[vS "sum",vS "yes",vS "if",vS "grid",vS "outer",vS "no",vS "su",vS "sums",vS "iff",vS "yess",vS "neg",vS "own",vS "abcdef",vS "z"]
def RS1:List V:=[vS "yes",vS "no",vS "if",vS "sum",vS "count",vS "least",vS "most",vS "sumif",vS "find",vS "turn",vS "stack"]
def RS2:List V:=[vS "grid",vS "outer"]
def rsv (z:Str):Bool:=inV (.str z) RS1||inV (.str z) RS2
def knB (j:Nat):Bool:=match KN14[j]? with
  | some (.str z)=>(decide (1≤z.length)&&decide (z.length≤6)&&z.cps.toList.all fun c=>decide (97≤c)&&decide (c≤122))&&(decide (j<6)||!rsv z)
  | _=>false
def spLet (K:PySem.W.Frag):Sp:=fun vs H Q _=>∃ (p:Addr) (fr:Bool) (n:Nat) (S:Addr×List Int),vs=[.ref p,.bl fr]∧ZGU K S H p n∧n≤9500000∧∀ (z:Str) (H':Hp),Nm z→(fr=true→rsv z=false)→ZGU K S H' p (n+8)→ZAl p H H'→Q (.str z) H'
def shV:Option Str→V
  | none=>.non
  | some z=>.str z
def ZQU:Option Str→Prop
  | none=>True
  | some z=>Nm z
def spShD (K:PySem.W.Frag):Sp:=fun vs H Q _=>∃ (p:Addr) (n:Nat) (S:Addr×List Int),vs=[.ref p]∧ZGU K S H p n∧n≤9000000∧∀ (s:Option Str) (H':Hp),ZQU s→ZGU K S H' p (n+9)→ZAl p H H'→Q (shV s) H'
def Kp (H H':Hp):Prop:=∀ a xs,H a=some (.tup xs)→H' a=some (.tup xs)
theorem Kp.same {H H':Hp}(s:ZAM H H'):Kp H H':=fun a xs e=>s _ _ e
theorem Kp.lst {H H':Hp}{p:Addr}{ys:List V}(hp:H p=some (.lst ys))(s:ZAl p H H'):Kp H H':=fun a xs e=>s _ _ (ZCH e hp (by intro z;cases z)) e
theorem Kp.trans {H H1 H2:Hp}(a:Kp H H1)(b:Kp H1 H2):Kp H H2:=fun c xs e=>b c xs (a c xs e)
structure Cor where
  r:Int
  c:Int
  x:Bool
  y:Bool
abbrev ZK8 (c:Cor):List V:=[.int c.r,.int c.c,.bl c.x,.bl c.y]
structure ZNJ (c:Cor):Prop where
  r0:1≤c.r
  r1:c.r≤16
  c0:1≤c.c
  c1:c.c≤8
inductive Lf where
  | val (v:Vl) | cell (s:Option Str) (c:Cor) | rng (s:Option Str) (c d:Cor) | cols (s:Option Str) (a:Int) (x:Bool) (b:Int) (y:Bool) | gone | nam (z:Str) | par (i:Int) | flt (z:Str)
def ZGt (H:Hp)(a:Addr):Lf→Prop
  | .val v=>∃ q,H a=some (.tup [vS "value",.ref q])∧ZFg H q v
  | .cell s c=>∃ q,H a=some (.tup [vS "cell",shV s,.ref q])∧H q=some (.tup (ZK8 c))
  | .rng s c d=>∃ q u,H a=some (.tup [vS "range",shV s,.ref q,.ref u])∧H q=some (.tup (ZK8 c))∧H u=some (.tup (ZK8 d))
  | .cols s i x j y=>∃ q u,H a=some (.tup [vS "columns",shV s,.ref q,.ref u])∧H q=some (.tup [.int i,.bl x])∧H u=some (.tup [.int j,.bl y])
  | .gone=>H a=some (.tup [vS "gone"])
  | .nam z=>H a=some (.tup [vS "name",.str z])
  | .par i=>H a=some (.tup [vS "param",.int i])
  | .flt z=>H a=some (.tup [vS "fault",.str z])
def VlW:Vl→Prop
  | .num t b=>b=1∧0≤t∧t≤999999999
  | .txt _=>True
  | .tru _=>True
  | _=>False
def ZPS (pr:Nat):Lf→Prop
  | .val v=>ZBi v∧VlW v
  | .cell s c=>ZQU s∧ZNJ c
  | .rng s c d=>ZQU s∧ZNJ c∧ZNJ d∧c.r≤d.r∧c.c≤d.c
  | .cols ..=>False
  | .gone=>False
  | .nam _=>False
  | .par _=>False
  | .flt z=>z∈ZDS
theorem ZFg.kp {H H':Hp}{p:Addr}{v:Vl}(h:ZFg H p v)(s:Kp H H'):ZFg H' p v:=by
  cases v with
  | none=>exact s _ _ h
  | num t b=>exact s _ _ h
  | txt z=>exact s _ _ h
  | tru b=>exact s _ _ h
  | flt w z r c=>obtain ⟨q,a,b⟩:=h;exact ⟨q,s _ _ a,s _ _ b⟩
theorem ZGt.kp {H H':Hp}{a:Addr}{l:Lf}(h:ZGt H a l)(s:Kp H H'):ZGt H' a l:=by
  cases l with
  | val v=>obtain ⟨q,h1,h2⟩:=h;exact ⟨q,s _ _ h1,ZFg.kp h2 s⟩
  | cell z c=>obtain ⟨q,h1,h2⟩:=h;exact ⟨q,s _ _ h1,s _ _ h2⟩
  | rng z c d=>obtain ⟨q,u,h1,h2,h3⟩:=h;exact ⟨q,u,s _ _ h1,s _ _ h2,s _ _ h3⟩
  | cols z i x j y=>obtain ⟨q,u,h1,h2,h3⟩:=h;exact ⟨q,u,s _ _ h1,s _ _ h2,s _ _ h3⟩
  | gone=>exact s _ _ h
  | nam z=>exact s _ _ h
  | par i=>exact s _ _ h
  | flt=>exact s _ _ h
def ZR6 (K:PySem.W.Frag):Sp:=fun vs H Q _=>∃ (p:Addr) (r c:Int) (n:Nat) (S:Addr×List Int),vs=[.ref p,.int r,.int c]∧ZGU K S H p n∧n≤9000000∧∀ (q:Addr) (x y:Bool) (H':Hp),H' q=some (.tup (ZK8 ⟨r,c,x,y⟩))→ZGU K S H' p (n+2)→ZAl p H H'→Q (.ref q) H'
def ZR7 (K:PySem.W.Frag):Sp:=fun vs H Q _=>∃ (p:Addr) (w:Int) (n:Nat) (S:Addr×List Int),vs=[.ref p,.int w]∧ZGU K S H p n∧n≤8000000∧∀ (a:Addr) (l:Lf) (H':Hp),ZGt H' a l→(∀ pr,ZPS pr l)→ZGU K S H' p (n+30)→ZAl p H H'→Q (.ref a) H'
def ZR8 (K:PySem.W.Frag):Sp:=fun vs H Q _=>∃ (p:Addr) (w:Int) (n:Nat) (S:Addr×List Int),vs=[.ref p,.int w]∧ZGU K S H p n∧n≤8000000∧∀ (q:Addr) (v:Vl) (H':Hp),ZFg H' q v→ZBi v→VlW v→ZGU K S H' p (n+30)→ZAl p H H'→Q (.ref q) H'
def ZQV (K:PySem.W.Frag):Sp:=fun vs H Q _=>∃ (p:Addr) (pr:Nat) (n:Nat) (S:Addr×List Int),vs=[.ref p,.int pr]∧pr≤3∧ZGU K S H p n∧n≤7000000∧∀ (a:Addr) (l:Lf) (H':Hp),ZGt H' a l→ZPS pr l→ZGU K S H' p (n+40)→ZAl p H H'→Q (.ref a) H'
theorem ZHw {n:Int}:Low n 1:=⟨by decide,by simp⟩
inductive Kd where
  | op (z:Str) | neg | own (z:Str) | sumif (z:Str) | grid (i j:Int) | wd (z:Str)
def frV:Kd→List V
  | .op z=>[vS "op",.str z]
  | .neg=>[vS "neg"]
  | .own z=>[vS "own",.str z]
  | .sumif z=>[vS "sumif",.str z]
  | .grid i j=>[vS "grid",.int i,.int j]
  | .wd z=>[.str z]
def ZNo (t:Addr):Kd→List V→List V
  | .op z,us=>vS "op"::.str z::us
  | .neg,us=>vS "neg"::us
  | .own z,_=>[vS "own",.str z,.ref t]
  | .sumif z,us=>vS "sumif"::(us.take 1++.str z::us.drop 1)
  | .grid i j,us=>vS "grid"::.int i::.int j::us
  | .wd z,us=>.str z::us
def ZHx:Kd→Bool
  | .own _=>true
  | _=>false
def OPS:List Str:=["+","-","*","/","&","=","<"].map Str.ofString
def WDS:List (Str×Nat):=[("if",3),("sum",1),("count",1),("least",1),("most",1),("find",3),("turn",1),("stack",2),("outer",1)].map fun x=>(Str.ofString x.1,x.2)
def ZKV:Kd→Nat→Prop
  | .op z,m=>z∈OPS∧m=2
  | .neg,m=>m=1
  | .own z,m=>m≤3∧False
  | .sumif z,m=>(z=Str.ofString "="∨z=Str.ofString "<")∧m=3
  | .grid i j,m=>1≤i∧i≤16∧1≤j∧j≤8∧m=2
  | .wd z,m=>(z,m)∈WDS
theorem ZKV.le {k:Kd}{m:Nat}(h:ZKV k m):m≤3:=by
  cases k with
  | op z=>have:=h.2;omega
  | neg=>have:m=1:=h;omega
  | own z=>exact h.1
  | sumif z=>have:=h.2;omega
  | grid i j=>have:=h.2.2.2.2;omega
  | wd z=>
    have h:(z,m)∈WDS:=h
    have:∀ x∈WDS,x.2≤3:=by decide +kernel
    exact this _ h
def ZR9 (K:PySem.W.Frag):Sp:=fun vs H Q _=>∃ (p:Addr) (n:Nat) (S:Addr×List Int),vs=[.ref p]∧ZGU K S H p n∧n≤8000000∧∀ (a f:Addr) (k:Kd) (m:Nat) (H':Hp),H' a=some (.tup [.ref f,.int m])→H' f=some (.tup (frV k))→ZKV k m→ZGU K S H' p (n+12)→ZAl p H H'→Q (.ref a) H'
def ZSA:Sp:=fun vs H Q _=>∃ (f l:Addr) (k:Kd) (us:List V),vs=[.ref f,.ref l]∧H f=some (.tup (frV k))∧H l=some (.lst us)∧ZKV k us.length∧∀ (a t:Addr) (H':Hp),H' a=some (.tup (ZNo t k us))→(ZHx k=true→H' t=some (.tup us))→ZAM H H'→Q (.ref a) H'
def WD9:List Str:=["if","sum","count","least","most","find","turn","stack","outer"].map Str.ofString
inductive Fm where
  | lf (l:Lf) | nd (k:Kd) (ps:List Fm)
inductive ZB4 (H:Hp):V→Fm→Prop where
  | lf {a:Addr} {l:Lf} (h:ZGt H a l):ZB4 H (.ref a) (.lf l)
  | nd {a t:Addr} {k:Kd} {us:List V} {ps:List Fm} (h:H a=some (.tup (ZNo t k us))) (ht:ZHx k=true→H t=some (.tup us)) (hl:us.length=ps.length)
      (hh:∀ (j:Nat) (u:V) (f:Fm),us[j]?=some u→ps[j]?=some f→ZB4 H u f):ZB4 H (.ref a) (.nd k ps)
theorem ZB4.kp {H H':Hp}{v:V}{f:Fm}(h:ZB4 H v f)(s:Kp H H'):ZB4 H' v f:=by
  induction h with
  | lf h=>exact .lf (ZGt.kp h s)
  | nd h ht hl _ ih=>exact .nd (s _ _ h) (fun z=>s _ _ (ht z)) hl ih
abbrev ZCi (H:Hp)(us:List V)(fs:List Fm):Prop:=Paired (ZB4 H) us fs
theorem ZCi.kp {H H':Hp}{us:List V}{fs:List Fm}(h:ZCi H us fs)(s:Kp H H'):ZCi H' us fs:=Paired.imp' (fun _ _ x=>ZB4.kp x s) h
inductive FO (pr:Nat):Nat→Fm→Prop where
  | lf {n:Nat} {l:Lf} (h:ZPS pr l):FO pr (n+1) (.lf l)
  | nd {n:Nat} {k:Kd} {ps:List Fm} (h:ZKV k ps.length) (hp:∀ f∈ps,FO pr n f):FO pr (n+1) (.nd k ps)
theorem FO.mono {pr:Nat}{n:Nat}{f:Fm}(h:FO pr n f):∀ {m:Nat},n≤m→FO pr m f:=by
  induction h with
  | lf h=>
    intro m hm
    obtain ⟨m,rfl⟩:∃ k,m=k+1:=⟨m-1,by omega⟩
    exact .lf h
  | nd h _ ih=>
    intro m hm
    obtain ⟨m,rfl⟩:∃ k,m=k+1:=⟨m-1,by omega⟩
    exact .nd h fun f hf=>ih f hf (by omega)
def ZSB (K:PySem.W.Frag)(n:Nat):Sp:=fun vs H Q _=>∃ (p:Addr) (room d:Int) (pr:Nat) (c:Nat) (S:Addr×List Int),vs=[.ref p,.int room,.int d,.int pr]∧d=(n:Int)+1∧1≤room∧room≤24∧pr≤3∧ZGU K S H p c∧c+80*room.toNat≤6000000∧
  ∀ (v:V) (f:Fm) (H':Hp),ZB4 H' v f→FO pr (n+1) f→ZGU K S H' p (c+80*room.toNat)→ZAl p H H'→Q v H'
theorem ZHN {α β:Type}{F:α→β→Prop}:∀ {xs:List α} {ys:List β} {x:α} {y:β},Paired F xs ys→F x y→Paired F (xs++[x]) (ys++[y]):=by
  intro A B C D h g
  induction h with
  | nil=>exact .cons g .nil
  | cons r t ih=>exact .cons r ih
abbrev zS (z:String):Str:=Str.ofString z
theorem ZAc {α:Type}{x:α}{r:List α}:atI (x::r) 0=some x:=ZDY (j:=0) rfl
theorem ZNK {α:Type}{x y:α}{r:List α}:atI (x::y::r) 1=some y:=ZDY (j:=1) rfl
theorem ZOm {α:Type}{x y z:α}{r:List α}:atI (x::y::z::r) 2=some z:=ZDY (j:=2) rfl
def ZFO:Fm→List Fm
  | .lf _=>[]
  | .nd _ ps=>ps
def kw:Kd→Str
  | .op _=>zS "op"
  | .neg=>zS "neg"
  | .own _=>zS "own"
  | .sumif _=>zS "sumif"
  | .grid _ _=>zS "grid"
  | .wd z=>z
theorem ZOn (t:Addr)(k:Kd)(us:List V):∃ r,ZNo t k us=.str (kw k)::r:=by cases k <;> exact ⟨_,rfl⟩
theorem ZB4.parts {H:Hp}{us:List V}{ps:List Fm}(hl:us.length=ps.length)(hh:∀ (j:Nat) (u:V) (f:Fm),us[j]?=some u→ps[j]?=some f→ZB4 H u f):ZCi H us ps:=by
  induction us generalizing ps with
  | nil=>
    cases ps with
    | nil=>exact .nil
    | cons _ _=>simp at hl
  | cons u us ih=>
    cases ps with
    | nil=>simp at hl
    | cons p ps=>exact .cons (hh 0 u p rfl rfl) (ih (by simpa using hl) fun j u f e1 e2=>hh (j+1) u f (by simpa using e1) (by simpa using e2))
def ZSC:V→Bool
  | .ref _=>true
  | _=>false
def ZSD (H:Hp)(x:V):Prop:=(∃ b ys,x=.ref b∧H b=some (.tup ys))∨(∃ z,x=.str z)∨∃ i,x=.int i
theorem ZOo {k:Kd}{m:Nat}(ok:ZKV k m):decide (V.str (kw k)=vS "own")=ZHx k:=by
  cases k with
  | wd z=>
    have hw:(z,m)∈WDS:=ok
    have:∀ x∈WDS,decide (V.str x.1=vS "own")=false:=by decide +kernel
    exact this _ hw
  | op z=>show decide (vS "op"=vS "own")=false;decide +kernel
  | neg=>show decide (vS "neg"=vS "own")=false;decide +kernel
  | own z=>show decide (vS "own"=vS "own")=true;decide +kernel
  | sumif z=>show decide (vS "sumif"=vS "own")=false;decide +kernel
  | grid i j=>show decide (vS "grid"=vS "own")=false;decide +kernel
def ZQW:Sp:=fun vs H Q _=>∃ (v:V) (f:Fm) (pr n:Nat),vs=[v]∧ZB4 H v f∧FO pr n f∧∀ (l:Addr) (us:List V) (H':Hp),H l=none→H' l=some (.lst us)→ZCi H' us (ZFO f)→ZAM H H'→Q (.ref l) H'
theorem ZAM.back0 {H H':Hp}{b:Addr}(s:ZAM H H')(h:H' b=none):H b=none:=by
  cases e:H b with
  | none=>rfl
  | some o=>rw [s _ _ e] at h;cases h
theorem slm {n:Nat}(h:n≤16000000):n≤sizeLine:=Nat.le_trans h (by decide)
def PPK:List (Key×List V):=[(kS "op",[.int 2,.int 3]),(kS "neg",[.int 1]),(kS "if",[.int 1,.int 2,.int 3]),(kS "sum",[.int 1]),(kS "count",[.int 1]),(kS "least",[.int 1]),(kS "most",[.int 1]),(kS "sumif",[.int 1,.int 3,.int 4]),(kS "find",[.int 1,.int 2,.int 3]),(kS "turn",[.int 1]),(kS "stack",[.int 1,.int 2]),(kS "grid",[.int 3,.int 4]),(kS "outer",[.int 1])]
def ZNL (k:Str):Option (List V):=(PPK.find? fun kt=>decide (kt.1=(Sum.inr k:Key))).map (·.2)
abbrev KTs (K:PySem.W.Frag):List (Key×V)→List (Key×List V)→Prop:=Paired (fun (kv:Key×V) (kt:Key×List V)=>kv.1=kt.1∧∃ a,kv.2=.ref a∧∀ H,SqT K H a kt.2)
theorem ZML {K:PySem.W.Frag}{k:Key}{ys:List V}:∀ {kvs:List (Key×V)} {kts:List (Key×List V)},KTs K kvs kts→(kts.find? fun kt=>decide (kt.1=k)).map (·.2)=some ys→∃ a,ZDh kvs k=some (.ref a)∧∀ H,SqT K H a ys
  | _,_,.nil,h=>by simp at h
  | (kv::kvs),(kt::kts),.cons r t,h=>by
    obtain ⟨e,a,ea,sq⟩:=r
    by_cases c:kt.1=k
    · rw [List.find?_cons_of_pos (by simpa using c)] at h
      simp only [Option.map_some,Option.some.injEq] at h
      subst h
      exact ⟨a,by rw [ZBl (e.trans c),ea],sq⟩
    · rw [List.find?_cons_of_neg (by simpa using c)] at h
      obtain ⟨b,hb,sb⟩:=ZML t h
      exact ⟨b,by rw [ZBf (fun z=>c (e.symm.trans z))];exact hb,sb⟩
def up1 (m:Nat):List Nat:=(List.range m).map (·+1)
theorem ZOp {t:Addr}{k:Kd}{us:List V}(ok:ZKV k us.length)(no:ZHx k=false):∃ pl:List Nat,ZNL (kw k)=some (pl.map fun (p:Nat)=>V.int p)∧pl.length=us.length∧∀ j,j<us.length→∃ p u,pl[j]?=some p∧us[j]?=some u∧atI (ZNo t k us) (p:Int)=some u:=by
  cases k with
  | op z=>
    obtain ⟨u1,u2,rfl⟩:=ZR3 ok.2
    refine ⟨[2,3],(by show ZNL (zS "op")=_;decide +kernel),rfl,fun j hj=>?_⟩
    have hj':j<2:=hj
    rcases (show j=0∨j=1 by omega) with rfl | rfl
    · exact ⟨2,u1,rfl,rfl,rfl⟩
    · exact ⟨3,u2,rfl,rfl,rfl⟩
  | neg=>
    obtain ⟨u1,rfl⟩:=kid1 (show us.length=1 from ok)
    refine ⟨[1],(by show ZNL (zS "neg")=_;decide +kernel),rfl,fun j hj=>?_⟩
    obtain rfl:j=0:=by have hj':j<1:=hj;omega
    exact ⟨1,u1,rfl,rfl,rfl⟩
  | own z=>cases no
  | sumif z=>
    have h3:us.length=3:=ok.2
    match us,h3 with
    | [u1,u2,u3],_=>
    refine ⟨[1,3,4],(by show ZNL (zS "sumif")=_;decide +kernel),rfl,fun j hj=>?_⟩
    have hj':j<3:=hj
    rcases (show j=0∨j=1∨j=2 by omega) with rfl | rfl | rfl
    · exact ⟨1,u1,rfl,rfl,rfl⟩
    · exact ⟨3,u2,rfl,rfl,rfl⟩
    · exact ⟨4,u3,rfl,rfl,rfl⟩
  | grid i j=>
    obtain ⟨u1,u2,rfl⟩:=ZR3 ok.2.2.2.2
    refine ⟨[3,4],(by show ZNL (zS "grid")=_;decide +kernel),rfl,fun j hj=>?_⟩
    have hj':j<2:=hj
    rcases (show j=0∨j=1 by omega) with rfl | rfl
    · exact ⟨3,u1,rfl,rfl,rfl⟩
    · exact ⟨4,u2,rfl,rfl,rfl⟩
  | wd z=>
    have hw:(z,us.length)∈WDS:=ok
    have hz:∀ x∈WDS,ZNL x.1=some ((up1 x.2).map fun (p:Nat)=>V.int p):=by decide +kernel
    refine ⟨up1 us.length,hz _ hw,by simp [up1],fun j hj=>⟨j+1,us[j],?_,List.getElem?_eq_getElem hj,?_⟩⟩
    · unfold up1
      rw [List.getElem?_map,List.getElem?_range hj];rfl
    · exact ZDY (j:=j+1) (by show (V.str z::us)[j+1]?=_;rw [List.getElem?_cons_succ,List.getElem?_eq_getElem hj])
mutual
def szF:Fm→Nat
  | .lf _=>1
  | .nd _ ps=>1+szs ps
def szs:List Fm→Nat
  | []=>0
  | f::fs=>szF f+szs fs
end
theorem ZGV:∀ a b:List Fm,szs (a++b)=szs a+szs b
  | [],b=>by rw [List.nil_append,szs];omega
  | x::a,b=>by rw [List.cons_append,szs,szs,ZGV a b];omega
theorem ZHy (f:Fm):szF f=1+szs (ZFO f):=by
  cases f with
  | lf l=>rw [szF];show 1=1+szs [];rw [szs]
  | nd k ps=>rw [szF];rfl
theorem ZHz:∀ fs:List Fm,fs.length≤szs fs
  | []=>Nat.zero_le _
  | f::fs=>by
    have:=ZHz fs
    have:=ZHy f
    rw [szs,List.length_cons];omega
theorem ZMM {B:Nat}:∀ fs:List Fm,(∀ f∈fs,szF f≤B)→szs fs≤fs.length*B
  | [],_=>by rw [szs];exact Nat.zero_le _
  | f::fs,h=>by
    have a:=ZMM fs fun g hg=>h g (List.mem_cons_of_mem _ hg)
    have b:=h f (by simp)
    rw [szs,List.length_cons,Nat.add_mul];omega
def SB:Nat→Nat
  | 0=>0
  | n+1=>1+3*SB n
theorem FO.sz {pr n:Nat}{f:Fm}(h:FO pr n f):szF f≤SB n:=by
  induction h with
  | lf h=>rw [szF];show 1≤1+3*SB _;omega
  | @nd n k ps ok _ ih=>
    rw [szF]
    have a:=ZMM ps ih
    have b:ps.length*SB n≤3*SB n:=Nat.mul_le_mul_right _ ok.le
    show 1+szs ps≤1+3*SB n
    omega
theorem FO.sz8 {pr:Nat}{f:Fm}(h:FO pr 8 f):szF f≤3280:=Nat.le_trans h.sz (by decide)
theorem FO.prt {pr n:Nat}{f:Fm}(h:FO pr n f):∀ g∈ZFO f,FO pr n g:=fun g hg=>by
  cases h with
  | lf _=>cases hg
  | nd _ hp=>exact (hp g hg).mono (Nat.le_succ _)
theorem ZOq {α β:Type}{F:α→β→Prop}:∀ {xs:List α} {x:α} {ys:List β},Paired F (xs++[x]) ys→∃ ys' y,ys=ys'++[y]∧Paired F xs ys'∧F x y:=by
  intro A x B h
  induction A generalizing B with
  | nil=>
    rw [List.nil_append] at h
    cases h with
    | cons r t=>
      cases t
      exact ⟨[],_,rfl,.nil,r⟩
  | cons a l ih=>
    rw [List.cons_append] at h
    cases h with
    | cons r t=>
      obtain ⟨ys',y,rfl,p,q⟩:=ih t
      exact ⟨_::ys',y,rfl,.cons r p,q⟩
theorem ZQX {α β:Type}{F:α→β→Prop}:∀ {xs zs:List α} {ys ws:List β},Paired F xs ys→Paired F zs ws→Paired F (xs++zs) (ys++ws):=by
  intro A B C D h g
  induction h with
  | nil=>exact g
  | cons r t ih=>exact .cons r ih
def ZK9 (x:V):Prop:=ZCX x=true∨∃ a,x=.ref a
theorem ZGt.pp {H:Hp}{a:Addr}{l:Lf}(h:ZGt H a l):∃ w r,H a=some (.tup (.str w::r))∧V.bl (decide (V.str w=vS "own"))=V.bl false∧ZNL w=none∧(∀ x∈(.str w::r),ZK9 x)∧r.length≤5:=by
  have sh:∀ s:Option Str,ZK9 (shV s):=fun s=>by cases s <;> exact .inl rfl
  cases l with
  | val v=>obtain ⟨q,h1,_⟩:=h;exact ⟨_,_,h1,by decide +kernel,by decide +kernel,by simp [ZK9,ZCX],by simp⟩
  | cell s c=>obtain ⟨q,h1,_⟩:=h;exact ⟨_,_,h1,by decide +kernel,by decide +kernel,by simp [ZK9,ZCX];exact sh s,by simp⟩
  | rng s c d=>obtain ⟨q,u,h1,_⟩:=h;exact ⟨_,_,h1,by decide +kernel,by decide +kernel,by simp [ZK9,ZCX];exact sh s,by simp⟩
  | cols s i x j y=>obtain ⟨q,u,h1,_⟩:=h;exact ⟨_,_,h1,by decide +kernel,by decide +kernel,by simp [ZK9,ZCX];exact sh s,by simp⟩
  | gone=>exact ⟨_,_,h,by decide +kernel,by decide +kernel,by simp [ZK9,ZCX],by simp⟩
  | nam z=>exact ⟨_,_,h,by decide +kernel,by decide +kernel,by simp [ZK9,ZCX],by simp⟩
  | par i=>exact ⟨_,_,h,by decide +kernel,by decide +kernel,by simp [ZK9,ZCX],by simp⟩
  | flt=>exact ⟨_,_,h,by decide +kernel,by decide +kernel,by simp [ZK9,ZCX],by simp⟩
theorem ZKW {K:PySem.W.Frag}{k:Key}:∀ {kvs:List (Key×V)} {kts:List (Key×List V)},KTs K kvs kts→(kts.find? fun kt=>decide (kt.1=k)).map (·.2)=none→ZDh kvs k=none
  | _,_,.nil,_=>rfl
  | (kv::kvs),(kt::kts),.cons r t,h=>by
    obtain ⟨e,a,ea,sq⟩:=r
    by_cases c:kt.1=k
    · rw [List.find?_cons_of_pos (by simpa using c)] at h
      simp at h
    · rw [List.find?_cons_of_neg (by simpa using c)] at h
      rw [ZBf (fun z=>c (e.symm.trans z))]
      exact ZKW t h
theorem ZMN {pr n:Nat}{f:Fm}(h:FO pr n f)(h8:n≤8):szF f≤3280:=(h.mono h8).sz8
theorem ZOr:1≤sizeLine:=by decide
mutual
def alF:Fm→List Fm
  | .lf l=>[.lf l]
  | .nd k ps=>alL ps++[.nd k ps]
def alL:List Fm→List Fm
  | []=>[]
  | f::fs=>alF f++alL fs
end
theorem ZNM (f:Fm):alF f=alL (ZFO f)++[f]:=by
  cases f with
  | lf l=>rw [alF];show [Fm.lf l]=alL []++[Fm.lf l];rw [alL];rfl
  | nd k ps=>rw [alF];rfl
theorem ZH0:∀ a b:List Fm,alL (a++b)=alL a++alL b
  | [],b=>by rw [List.nil_append,alL,List.nil_append]
  | x::a,b=>by rw [List.cons_append,alL,alL,ZH0 a b,List.append_assoc]
mutual
theorem ZFP:∀ f:Fm,(alF f).length=szF f
  | .lf l=>by rw [alF,szF];rfl
  | .nd k ps=>by rw [alF,szF,List.length_append,ZH1 ps,List.length_singleton];omega
theorem ZH1:∀ fs:List Fm,(alL fs).length=szs fs
  | []=>by rw [alL,szs];rfl
  | f::fs=>by rw [alL,szs,List.length_append,ZFP f,ZH1 fs]
end
def ZQY:Sp:=fun vs H Q _=>∃ (v:V) (f:Fm) (pr n:Nat),vs=[v]∧ZB4 H v f∧FO pr n f∧n≤8∧∀ l ws H',H l=none→H' l=some (.lst ws)→ZCi H' ws (alF f)→ZAM H H'→Q (.ref l) H'
theorem prev {α β:Type}{R:α→β→Prop}{xs:List α}{ys:List β}(h:Paired R xs ys):Paired R xs.reverse ys.reverse:=by
  induction h with
  | nil=>exact .nil
  | cons h _ ih=>rw [List.reverse_cons,List.reverse_cons];exact ZQX ih (.cons h .nil)
theorem SqT.sm {K:PySem.W.Frag}{H H':Hp}{a:Addr}{xs:List V}(h:SqT K H a xs)(s:ZAM H H'):SqT K H' a xs:=by
  rcases h with (h | ⟨o,h⟩) | h
  · exact .inl (.inl (s _ _ h))
  · exact .inl (.inr ⟨o,s _ _ h⟩)
  · exact .inr h
mutual
theorem FO.al {pr n:Nat}:∀ (f:Fm),FO pr n f→∀ g∈alF f,FO pr n g
  | .lf l,h,g,hg=>by rw [alF] at hg;rw [List.mem_singleton.mp hg];exact h
  | .nd k ps,h,g,hg=>by
    rw [alF] at hg
    rcases List.mem_append.mp hg with q | q
    · exact FO.als ps (fun x hx=>h.prt x hx) g q
    · rw [List.mem_singleton.mp q];exact h
theorem FO.als {pr n:Nat}:∀ (fs:List Fm),(∀ f∈fs,FO pr n f)→∀ g∈alL fs,FO pr n g
  | [],_,g,hg=>by rw [alL] at hg;cases hg
  | f::fs,h,g,hg=>by
    rw [alL] at hg
    rcases List.mem_append.mp hg with q | q
    · exact FO.al f (h f (List.mem_cons_self ..)) g q
    · exact FO.als fs (fun x hx=>h x (List.mem_cons_of_mem _ hx)) g q
end
theorem ZOs {xs:List V}{j:Nat}(h:j≤xs.length):ZFE xs (some (j:Int)) none=xs.drop j:=by
  unfold ZFE
  have e1:HT.sIx xs.length 0 (some (j:Int))=j:=by unfold HT.sIx;simp;split <;> omega
  have e2:HT.sIx xs.length xs.length none=xs.length:=rfl
  rw [e1,e2,← List.length_drop]
  exact List.take_length
theorem ZMO {xs:List V}{j:Nat}(h:j≤xs.length):ZFE xs none (some (j:Int))=xs.take j:=by
  unfold ZFE
  have e1:HT.sIx xs.length xs.length (some (j:Int))=j:=by unfold HT.sIx;simp;split <;> omega
  have e2:HT.sIx xs.length 0 none=0:=rfl
  rw [e1,e2,Nat.sub_zero];rfl
theorem ZNN {α β:Type}{F:α→β→Prop}:∀ {xs:List α} {ys:List β} (n:Nat),Paired F xs ys→Paired F (xs.drop n) (ys.drop n)
  | _,_,0,h=>by simpa using h
  | _,_,n+1,.nil=>by simpa using Paired.nil
  | _,_,n+1,.cons _ t=>by simpa using ZNN n t
theorem ZLl {α β:Type}{F:α→β→Prop}:∀ {xs:List α} {ys:List β} (n:Nat),Paired F xs ys→Paired F (xs.take n) (ys.take n)
  | _,_,0,h=>by simpa using Paired.nil
  | _,_,n+1,.nil=>by simpa using Paired.nil
  | _,_,n+1,.cons r t=>by simpa using Paired.cons r (ZLl n t)
def ZQZ:Sp:=fun vs H Q _=>∃ (q:Addr) (x:V) (a b c d:Int),vs=[.ref q]∧H q=some (.tup [x,.int a,.int b,.int c,.int d])∧∀ r,H r=none→Q (.ref r) (upd H r (.tup [.int (c-a+1),.int (d-b+1)]))
def ZBT (H:Hp)(u:V)(v:Vl):Prop:=∃ q,u=.ref q∧ZFg H q v
theorem ZBT.kp {H H':Hp}{u:V}{v:Vl}(h:ZBT H u v)(s:Kp H H'):ZBT H' u v:=by
  obtain ⟨q,e,x⟩:=h
  exact ⟨q,e,ZFg.kp x s⟩
abbrev ZEG (H:Hp)(us:List V)(vs:List Vl):Prop:=Paired (ZBT H) us vs
theorem ZEG.kp {H H':Hp}{us:List V}{vs:List Vl}(h:ZEG H us vs)(s:Kp H H'):ZEG H' us vs:=Paired.imp' (fun _ _ x=>ZBT.kp x s) h
def ZSE (H:Hp)(u:V)(row:List V):Prop:=∃ b,u=.ref b∧H b=some (.tup row)
def ZCE (H:Hp)(u:V)(rows:List (List V)):Prop:=∃ b us,u=.ref b∧H b=some (.tup us)∧Paired (ZSE H) us rows
theorem ZCE.kp {H H':Hp}{u:V}{rows:List (List V)}(h:ZCE H u rows)(s:Kp H H'):ZCE H' u rows:=by
  obtain ⟨b,us,e,x,p⟩:=h
  exact ⟨b,us,e,s _ _ x,Paired.imp' (fun _ _ ⟨c,e,y⟩=>⟨c,e,s _ _ y⟩) p⟩
abbrev ZJR (H:Hp)(rows:List (List V))(m:List (List Vl)):Prop:=Paired (Paired (ZBT H)) rows m
theorem ZJR.kp {H H':Hp}{rows:List (List V)}{m:List (List Vl)}(h:ZJR H rows m)(s:Kp H H'):ZJR H' rows m:=Paired.imp' (fun _ _ x=>ZEG.kp x s) h
def ZD0 (H:Hp)(u:V)(m:List (List Vl)):Prop:=∃ rows,ZCE H u rows∧ZJR H rows m
theorem ZD0.kp {H H':Hp}{u:V}{m:List (List Vl)}(h:ZD0 H u m)(s:Kp H H'):ZD0 H' u m:=by
  obtain ⟨r,x,y⟩:=h
  exact ⟨r,x.kp s,ZJR.kp y s⟩
theorem Kp.new {H:Hp}{p:Addr}{o:HO}(h:H p=none):Kp H (upd H p o):=Kp.same (ZAM.new h)
def dat:HO→Bool
  | .frz _ (.own 0)=>false
  | .tbl _=>false
  | _=>true
def SmD (H H':Hp):Prop:=∀ b o,H b=some o→dat o=true→H' b=some o
theorem ZKX {q:Str}{o:HO}(h:dat o=true):kn q (some o)=none:=by
  unfold kn
  split
  · rename_i e;cases e;cases h
  · rfl
theorem SmD.of {H H':Hp}(h:ZAM H H'):SmD H H':=fun b o e _=>h b o e
theorem SmD.trans {H H1 H2:Hp}(a:SmD H H1)(b:SmD H1 H2):SmD H H2:=fun c o e d=>b c o (a c o e d) d
theorem SmD.kp {H H':Hp}(h:SmD H H'):Kp H H':=fun a xs e=>h a _ e rfl
theorem SmD.del (q:Str)(H:Hp):SmD H (L2.del q H):=fun _ _ e d=>ZF7 e (ZKX d)
theorem SmD.tab {H H':Hp}{P:Addr}{ps:Array Value}(hp:H P=some (.tbl ps))(h:ZAl P H H'):SmD H H':=fun b o e d=>h b o (fun z=>by subst z;rw [hp] at e;cases e;cases d) e
theorem Kp.back {q:Str}{H H':Hp}(h:∀ b o,kn q (H b)=some o→H' b=none):Kp H' (L2.put q H H'):=fun a xs e=>by
  have n:kn q (H a)=none:=by
    cases w:kn q (H a) with
    | none=>rfl
    | some o=>rw [h a o w] at e;cases e
  rw [ZCJ n];exact e
theorem SmD.seq {K:PySem.W.Frag}{H H':Hp}{a:Addr}{xs:List V}(h:SmD H H')(q:SqL K H a xs):SqL K H' a xs:=by
  rcases q with (q | ⟨o,q⟩) | q
  · exact .inl (.inl (h _ _ q rfl))
  · exact .inl (.inr ⟨o,h _ _ q rfl⟩)
  · exact .inr q
def tag:Vl→Str
  | .none=>Str.ofString "none"
  | .num ..=>Str.ofString "number"
  | .txt _=>Str.ofString "text"
  | .tru _=>Str.ofString "truth"
  | .flt ..=>Str.ofString "fault"
def itm:Vl→List Itm
  | .none=>[.fl (vS "none")]
  | .num t b=>[.fl (vS "number"),.fl (.int t),.fl (.int b)]
  | .txt z=>[.fl (vS "text"),.fl (.str z)]
  | .tru b=>[.fl (vS "truth"),.fl (.bl b)]
  | .flt w z r c=>[.fl (vS "fault"),.fl (.str w),.tp [.str z,.int r,.int c]]
def ZSF (x y:Vl):Bool:=eqL ZCt (itm x) (itm y)
theorem ZFg.itm {H:Hp}{p:Addr}{v:Vl}(h:ZFg H p v):∃ xs,H p=some (.tup (.str (tag v)::xs))∧Paired (ZFf H) (.str (tag v)::xs) (itm v):=by
  cases v with
  | none=>exact ⟨_,h,.cons ⟨rfl,rfl⟩ .nil⟩
  | num t b=>exact ⟨_,h,.cons ⟨rfl,rfl⟩ (.cons ⟨rfl,rfl⟩ (.cons ⟨rfl,rfl⟩ .nil))⟩
  | txt z=>exact ⟨_,h,.cons ⟨rfl,rfl⟩ (.cons ⟨rfl,rfl⟩ .nil)⟩
  | tru b=>exact ⟨_,h,.cons ⟨rfl,rfl⟩ (.cons ⟨rfl,rfl⟩ .nil)⟩
  | flt w z r c=>
    obtain ⟨q,a,b⟩:=h
    exact ⟨_,a,.cons ⟨rfl,rfl⟩ (.cons ⟨rfl,rfl⟩ (.cons ⟨q,rfl,b,rfl⟩ .nil))⟩
def isF (v:Vl):Bool:=decide (V.str (tag v)=vS "fault")
structure Hm where
  z:Str
  r:Int
  c:Int
def ZEH (H:Hp)(u:V)(h:Hm):Prop:=∃ q,u=.ref q∧H q=some (.tup [.str h.z,.int h.r,.int h.c])
theorem ZEH.kp {H H':Hp}{u:V}{h:Hm}(x:ZEH H u h)(s:Kp H H'):ZEH H' u h:=by
  obtain ⟨q,e,y⟩:=x
  exact ⟨q,e,s _ _ y⟩
def ZLA (w:String)(h:Hm):Vl:=.flt (Str.ofString w) h.z h.r h.c
structure ZD1 {α:Type}(m:List (List α))(w:Nat):Prop where
  ne:m≠[]
  w1:1≤w
  row:∀ r∈m,r.length=w
def blk (g:Str→Int→Int→Vl)(z:Str)(r c:Int)(h w:Nat):List (List Vl):=(List.range h).map fun (i:Nat)=>(List.range w).map fun (j:Nat)=>g z (r+i) (c+j)
def ZEI {α:Type}(us:List α)(w h:Nat):List (List α):=(List.range h).map fun (i:Nat)=>(us.drop (i*w)).take w
theorem ZEh {α β:Type}{F:α→β→Prop}{us:List α}{vs:List β}{w h:Nat}(p:Paired F us vs):Paired (Paired F) (ZEI us w h) (ZEI vs w h):=by
  unfold ZEI
  induction (List.range h) with
  | nil=>exact .nil
  | cons i l ih=>exact .cons (ZLl w (ZNN (i*w) p)) ih
theorem ZKY {g:Str→Int→Int→Vl}{z:Str}{r c:Int}{h w:Nat}(hw:1≤w):ZEI ((List.range (h*w)).map fun (k:Nat)=>g z (r+((k / w:Nat):Int)) (c+((k%w:Nat):Int))) w h=blk g z r c h w:=by
  unfold ZEI blk
  refine List.map_congr_left fun i hi=>?_
  have hi':i<h:=List.mem_range.mp hi
  refine List.ext_getElem? fun j=>?_
  by_cases hj:j<w
  · have hlt:i*w+j<h*w:=by
      have:(i+1)*w≤h*w:=Nat.mul_le_mul_right w hi'
      rw [Nat.succ_mul] at this
      omega
    rw [List.getElem?_take_of_lt hj,List.getElem?_drop,List.getElem?_map,List.getElem?_map,List.getElem?_range hlt,List.getElem?_range hj]
    simp only [Option.map_some]
    rw [Nat.mul_comm i w,Nat.mul_add_div (by omega),Nat.div_eq_of_lt hj,Nat.mul_add_mod,Nat.mod_eq_of_lt hj,Nat.add_zero]
  · rw [List.getElem?_eq_none (by rw [List.length_take];omega),List.getElem?_eq_none (by rw [List.length_map,List.length_range];omega)]
def ZOt (v:Vl)(w:Nat):Bool:=match v with
  | .num t b=>decide (b=1)&&(decide (1≤t)&&decide (t≤(w:Int)))
  | _=>false
def ZQa:Vl→Nat
  | .num t _=>(t-1).toNat
  | _=>0
def ZSG (k:Vl)(j:Nat):List (List Vl)→Option Vl
  | []=>none
  | r::m=>if ZSF (r.headD .none) k=true then some (r.getD j .none) else ZSG k j m
def fnd (k:Vl)(m:List (List Vl))(a:Vl)(h:Hm):Vl:=
  if isF k=true then k else if isF a=true then a else if ZOt a (m.headD []).length=false then ZLA "kind" h else (ZSG k (ZQa a) m).getD (ZLA "miss" h)
def ZQb:Sp:=fun vs H Q _=>∃ u:V,vs=[u]∧∀ x H',ZCE H' x [[u]]→ZAM H H'→Q x H'
def ZQc:Sp:=fun vs H Q _=>∃ (l:Addr) (us:List V) (w h:Nat),vs=[.ref l,.int w]∧H l=some (.lst us)∧us.length=h*w∧1≤w∧w≤100∧h≤100∧∀ x H',ZCE H' x (ZEI us w h)→ZAM H H'→Q x H'
def ZIj:List V→List Vl→V
  | u::us,v::vs=>if isF v=true then u else ZIj us vs
  | _,_=>.non
def ZQd (K:PySem.W.Frag):Sp:=fun vs H Q _=>∃ (l:Addr) (us:List V) (ms:List Vl),vs=[.ref l]∧H l=some (.lst us)∧ZEG H us ms∧us.length≤1000∧Q (ZIj us ms) H
def spCol:Sp:=fun vs H Q _=>∃ (u x:V) (v:Vl) (rows:List (List V)) (r0:List V),vs=[u,x]∧ZBT H u v∧ZCE H x (r0::rows)∧r0.length≤1000∧Q (.bl (ZOt v r0.length)) H
def spFnd:Sp:=fun vs H Q _=>∃ (u x a y:V) (k v:Vl) (m:List (List Vl)) (w:Nat) (hm:Hm),vs=[u,x,a,y]∧ZBT H u k∧ZD0 H x m∧ZBT H a v∧ZEH H y hm∧ZD1 m w∧w≤1000∧m.length≤1000∧∀ z H',ZBT H' z (fnd k m v hm)→ZAM H H'→Q z H'
def ZPT (D:Hp→Prop)(dom:Str→Int→Int→Prop)(g:Str→Int→Int→Vl):Sp:=fun vs H Q _=>∃ (q:Addr) (z:Str) (r c:Int),vs=[.ref q]∧H q=some (.tup [.str z,.int r,.int c])∧D H∧dom z r c∧∀ x H',ZBT H' x (g z r c)→ZAM H H'→Q x H'
def ZNO (f:Addr)(D:Hp→Prop)(dom:Str→Int→Int→Prop)(g:Str→Int→Int→Vl):Sp:=fun vs H Q _=>∃ (b:Addr) (z:Str) (r c r2 c2:Int),vs=[.ref b,.ref f]∧ZMJ H b z r c r2 c2∧D H∧(∀ i j:Int,r≤i→i≤r2→c≤j→j≤c2→dom z i j)∧
  ∀ x H',ZD0 H' x (blk g z r c (r2-r+1).toNat (c2-c+1).toNat)→ZAM H H'→Q x H'
def lfB:Lf→Option (Str×Cor×Cor)
  | .cell (some z) c=>some (z,c,c)
  | .rng (some z) c d=>some (z,c,d)
  | _=>none
def lfT (g:Str→Int→Int→Vl)(l:Lf):List (List Vl):=match lfB l with
  | some (z,c,d)=>blk g z c.r c.c (d.r-c.r+1).toNat (d.c-c.c+1).toNat
  | none=>[]
structure ZFQ (dom:Str→Int→Int→Prop)(l:Lf)(z:Str)(c d:Cor):Prop where
  b:lfB l=some (z,c,d)
  nm:Nm z
  r0:1≤c.r
  r1:c.r≤d.r
  r16:d.r≤16
  c0:1≤c.c
  c1:c.c≤d.c
  c8:d.c≤8
  dm:∀ i j:Int,c.r≤i→i≤d.r→c.c≤j→j≤d.c→dom z i j
def ZQe:Sp:=fun vs H Q _=>∃ (v:V) (l:Lf) (z:Str) (c d:Cor),vs=[v]∧ZB4 H v (.lf l)∧lfB l=some (z,c,d)∧∀ r,H r=none→Q (.ref r) (upd H r (.tup [.str z,.int c.r,.int c.c,.int d.r,.int d.c]))
def ZQf (f:Addr)(D:Hp→Prop)(dom:Str→Int→Int→Prop)(g:Str→Int→Int→Vl):Sp:=fun vs H Q _=>∃ (v u:V) (l:Lf) (z:Str) (c d:Cor),vs=[v,u,.ref f]∧ZB4 H v (.lf l)∧ZFQ dom l z c d∧D H∧∀ x H',ZD0 H' x (lfT g l)→ZAM H H'→Q x H'
theorem ZHO {t u:TS}{D:ZHd}{σ:St}{H:Hp}(x:∀ N:St→Hp→Prop,(∀ σ' H',u D σ' H'→N σ' H')→t { D with nx:=N } σ H):ZEl t u D σ H:=x (u D) fun _ _ h=>h
def Hid (p:Prop):Prop:=p
theorem ZNP {G:Prop}(h:∀ X:Prop,(G→X)→X):G:=h G id
theorem ZKZ {α:Type}{us:List α}{w h:Nat}:(ZEI us w h).length=h:=by unfold ZEI;rw [List.length_map,List.length_range]
theorem ZKa {α:Type}{us:List α}{w h i:Nat}(hi:i<h):(ZEI us w h)[i]?=some ((us.drop (i*w)).take w):=by unfold ZEI;rw [List.getElem?_map,List.getElem?_range hi];rfl
theorem ZKb {w h:Nat}(hw:1≤w):ZEo ((h*w:Nat):Int) (w:Int)=h:=by
  unfold ZEo
  by_cases hh:h=0
  · subst hh;simp
  · have h1:0<h*w:=Nat.mul_pos (by omega) (by omega)
    rw [if_pos (by omega)]
    have e:(((h*w:Nat):Int)-1) / (w:Int)=((h*w-1) / w:Nat):=by
      rw [show ((h*w:Nat):Int)-1=((h*w-1:Nat):Int) by omega];rfl
    rw [e]
    have e2:(h*w-1) / w=h-1:=by
      have:h*w-1=w*(h-1)+(w-1):=by
        obtain ⟨k,rfl⟩:∃ k,h=k+1:=⟨h-1,by omega⟩
        rw [Nat.succ_mul,Nat.add_sub_cancel,Nat.mul_comm w k];omega
      rw [this,Nat.mul_add_div (by omega),Nat.div_eq_of_lt (by omega),Nat.add_zero]
    rw [e2];omega
theorem ZLm {xs:List V}{i j:Nat}(h:i+j≤xs.length):ZFE xs (some ((i:Nat):Int)) (some ((i:Int)+(j:Int)))=(xs.drop i).take j:=by
  unfold ZFE
  have e1:HT.sIx xs.length 0 (some ((i:Nat):Int))=i:=by unfold HT.sIx;simp;split <;> omega
  have e2:HT.sIx xs.length xs.length (some ((i:Int)+(j:Int)))=i+j:=by unfold HT.sIx;simp;split <;> omega
  rw [e1,e2,Nat.add_sub_cancel_left]
theorem ZBT.hd {H:Hp}{u:V}{v:Vl}(h:ZBT H u v):∃ q xs,u=.ref q∧H q=some (.tup (.str (tag v)::xs))∧Paired (ZFf H) (.str (tag v)::xs) (itm v):=by
  obtain ⟨q,e,x⟩:=h
  obtain ⟨xs,a,b⟩:=x.itm
  exact ⟨q,xs,e,a,b⟩
theorem ZE0 {α β:Type}{F:α→β→Prop}:∀ {xs:List α} {ys:List β},Paired F xs ys→∀ {j:Nat} {y:β},ys[j]?=some y→∃ x,xs[j]?=some x∧F x y:=by
  intro A B h
  induction h with
  | nil=>
    intro j x e
    simp at e
  | cons r t ih=>
    intro j x e
    cases j with
    | zero=>
      simp at e
      subst e
      exact ⟨_,rfl,r⟩
    | succ j=>
      obtain ⟨y,h1,h2⟩:=ih (by simpa using e)
      exact ⟨y,by simpa using h1,h2⟩
theorem ZKc {us:List V}{ms:List Vl}{i:Nat}{u:V}{v:Vl}(h:us[i]?=some u)(g:ms[i]?=some v):ZIj (us.drop i) (ms.drop i)=if isF v=true then u else ZIj (us.drop (i+1)) (ms.drop (i+1)):=by
  have hi:=(List.getElem?_eq_some_iff.mp h).1
  have gi:=(List.getElem?_eq_some_iff.mp g).1
  rw [List.drop_eq_getElem_cons hi,List.drop_eq_getElem_cons gi,ZIj]
  rw [List.getElem?_eq_getElem hi] at h
  rw [List.getElem?_eq_getElem gi] at g
  cases h;cases g;rfl
theorem ZFg.num_of {H:Hp}{p:Addr}{v:Vl}(h:ZFg H p v)(t:decide (V.str (tag v)=vS "number")=true):∃ a b,v=.num a b:=by
  cases v with
  | num a b=>exact ⟨a,b,rfl⟩
  | none=>exact absurd t (by decide +kernel)
  | txt z=>exact absurd t (by show ¬ decide (V.str (Str.ofString "text")=vS "number")=true;decide +kernel)
  | tru b=>exact absurd t (by show ¬ decide (V.str (Str.ofString "truth")=vS "number")=true;decide +kernel)
  | flt w z r c=>exact absurd t (by show ¬ decide (V.str (Str.ofString "fault")=vS "number")=true;decide +kernel)
theorem ZDb {α:Type}{l:List α}(h:1≤l.length):∃ a t,l=a::t:=match l,h with | a::t,_=>⟨a,t,rfl⟩
theorem ZEH.flt {H:Hp}{y:V}{h:Hm}{w:String}(x:ZEH H y h){p:Addr}(hp:H p=none):ZBT (upd H p (.tup [vS "fault",vS w,y])) (.ref p) (ZLA w h):=by
  obtain ⟨q,rfl,hq⟩:=x
  exact ⟨p,rfl,q,ZAE,ZAM.new hp _ _ hq⟩
theorem ZMP {H:Hp}{a:Addr}{l:Lf}{z:Str}{c d:Cor}(h:ZGt H a l)(b:lfB l=some (z,c,d)):∃ w q u r,H a=some (.tup (.str w::.str z::.ref q::r))∧(w=zS "cell"∨w=zS "range")∧H q=some (.tup (ZK8 c))∧H u=some (.tup (ZK8 d))∧
    ((r=[]∧q=u)∨r=[.ref u]):=by
  cases l with
  | cell s c'=>
    obtain ⟨q,h1,h2⟩:=h
    cases s with
    | none=>cases b
    | some z'=>
      cases b
      exact ⟨_,q,q,[],h1,.inl rfl,h2,h2,.inl ⟨rfl,rfl⟩⟩
  | rng s c' d'=>
    obtain ⟨q,u,h1,h2,h3⟩:=h
    cases s with
    | none=>cases b
    | some z'=>
      cases b
      exact ⟨_,q,u,[.ref u],h1,.inr rfl,h2,h3,.inr rfl⟩
  | val v=>cases b
  | cols s i x j y=>cases b
  | gone=>cases b
  | nam z=>cases b
  | par i=>cases b
  | flt=>cases b
def hd0 (m:List (List Vl)):Vl:=(m.headD []).headD .none
theorem ZD0.hd0 {H:Hp}{u:V}{m:List (List Vl)}{w:Nat}(h:ZD0 H u m)(rc:ZD1 m w):∃ b us x0 rt b0 y,u=.ref b∧H b=some (.tup (.ref b0::us))∧H b0=some (.tup (y::rt))∧ZBT H y (hd0 m)∧x0=y:=by
  obtain ⟨rows,⟨b,us,rfl,hb,pr⟩,vt⟩:=h
  obtain ⟨m0,mt,rfl⟩:∃ a t,m=a::t:=by
    cases m with
    | nil=>exact absurd rfl rc.ne
    | cons a t=>exact ⟨a,t,rfl⟩
  cases vt with
  | cons v0 vt'=>
    cases pr with
    | cons p0 pt=>
      obtain ⟨b0,rfl,hb0⟩:=p0
      have w1:=rc.w1
      have l0:=rc.row m0 List.mem_cons_self
      obtain ⟨y0,yt,rfl⟩:=ZDb (l:=m0) (by omega)
      cases v0 with
      | cons y ys=>exact ⟨b,_,_,_,b0,_,rfl,hb,hb0,y,rfl⟩
def spSgl:Sp:=fun vs H Q _=>∃ (v y o:V) (l a:Addr) (x0 x1 x2:V) (r:List V) (m0 m1 m2:List (List Vl)) (w0 w1 w2:Nat) (hm:Hm),vs=[v,.ref l,y,o]∧v=.ref a∧H a=some (.tup (vS "find"::r))∧H l=some (.lst [x0,x1,x2])∧
  ZD0 H x0 m0∧ZD0 H x1 m1∧ZD0 H x2 m2∧ZD1 m0 w0∧ZD1 m1 w1∧ZD1 m2 w2∧w1≤1000∧m1.length≤1000∧ZEH H y hm∧∀ z H',ZBT H' z (fnd (hd0 m0) m1 (hd0 m2) hm)→ZAM H H'→Q z H'
def lfs (g:Str→Int→Int→Vl):Fm→List (List Vl)
  | .lf l=>lfT g l
  | _=>[]
def ZQg (g:Str→Int→Int→Vl)(hm:Hm):Fm→List (List Vl)
  | .lf l=>lfT g l
  | .nd _ [a,b,c]=>[[fnd (hd0 (lfs g a)) (lfs g b) (hd0 (lfs g c)) hm]]
  | _=>[]
def okL (dom:Str→Int→Int→Prop)(f:Fm):Prop:=∃ l z c d,f=.lf l∧ZFQ dom l z c d
def okF (dom:Str→Int→Int→Prop)(f:Fm):Prop:=okL dom f∨∃ a b c,f=.nd (.wd (zS "find")) [a,b,c]∧okL dom a∧okL dom b∧okL dom c
def ZSH {B:Type}(At:Hp→V→B→Prop)(sem:Fm→B)(ok:Fm→Prop)(Dp:Hp→Prop):Sp:=fun vs H Q _=>∃ (v:V) (f:Fm) (l:Addr) (us:List V) (n:Nat),vs=[v,.ref l]∧ZB4 H v f∧FO 0 n f∧ok f∧Dp H∧H l=some (.lst us)∧Paired (At H) us ((ZFO f).map sem)∧∀ x H',At H' x (sem f)→ZAM H H'→Q x H'
def ZSI {B:Type}(f0:Addr)(At:Hp→V→B→Prop)(sem:Fm→B)(ok:Fm→Prop)(Dp:Hp→Prop):Sp:=fun vs H Q _=>∃ (l:Addr) (f:Fm) (ws:List V) (n:Nat),vs=[.ref l,.ref f0]∧H l=some (.lst ws)∧ZCi H ws (alF f)∧FO 0 n f∧n≤8∧(∀ g∈alF f,ok g)∧Dp H∧∀ x H',At H' x (sem f)→ZAM H H'→Q x H'
def spTbp (f:Addr)(Dp:Hp→Prop)(dom:Str→Int→Int→Prop)(g:Str→Int→Int→Vl)(hm:Hm):Sp:=fun vs H Q _=>∃ (v y o:V) (fm:Fm) (l:Addr) (us:List V) (n:Nat),vs=[v,.ref l,y,.ref f,o]∧ZB4 H v fm∧FO 0 n fm∧okF dom fm∧Dp H∧H l=some (.lst us)∧Paired (ZD0 H) us ((ZFO fm).map (ZQg g hm))∧ZEH H y hm∧∀ x H',ZD0 H' x (ZQg g hm fm)→ZAM H H'→Q x H'
theorem ZKd {H:Hp}{v:V}{l:Lf}(h:ZB4 H v (.lf l)):∃ a,v=.ref a∧ZGt H a l:=by
  cases h with | lf h=>exact ⟨_,rfl,h⟩
section
variable {B:Type}(sem:Fm→B)
def ZEp (st:List B)(g:Fm):List B:=st.take (st.length-(ZFO g).length)++[sem g]
theorem ZGW (st:List B)(g:Fm):ZEp sem (st++(ZFO g).map sem) g=st++[sem g]:=by
  unfold ZEp
  rw [List.length_append,List.length_map,Nat.add_sub_cancel,List.take_left]
mutual
theorem ZH2:∀ (f:Fm) (st:List B),(alF f).foldl (ZEp sem) st=st++[sem f]
  | .lf l,st=>by
    rw [alF,List.foldl_cons,List.foldl_nil]
    have:=ZGW sem st (.lf l)
    rw [show ZFO (.lf l)=[] from rfl,List.map_nil,List.append_nil] at this
    exact this
  | .nd k ps,st=>by
    rw [alF,List.foldl_append,ZH3 ps st,List.foldl_cons,List.foldl_nil]
    exact ZGW sem st (.nd k ps)
theorem ZH3:∀ (fs:List Fm) (st:List B),(alL fs).foldl (ZEp sem) st=st++fs.map sem
  | [],st=>by rw [alL,List.map_nil,List.append_nil];rfl
  | f::fs,st=>by rw [alL,List.foldl_append,ZH2 f st,ZH3 fs,List.map_cons,List.append_assoc];rfl
end
mutual
theorem ZMQ:∀ (f:Fm) (st:List B) (i:Nat) (g:Fm),(alF f)[i]?=some g→∃ st',((alF f).take i).foldl (ZEp sem) st=st'++(ZFO g).map sem
  | .lf l,st,i,g,h=>by
    rw [alF] at h ⊢
    have hi:i<1:=(List.getElem?_eq_some_iff.mp h).1
    have h0:i=0:=by omega
    subst h0
    cases h
    exact ⟨st,by rw [show ZFO (.lf l)=[] from rfl,List.map_nil,List.append_nil];rfl⟩
  | .nd k ps,st,i,g,h=>by
    rw [alF] at h ⊢
    by_cases c:i<(alL ps).length
    · rw [List.getElem?_append_left c] at h
      obtain ⟨st',e⟩:=ZMR ps st i g h
      exact ⟨st',by rw [List.take_append_of_le_length (by omega)];exact e⟩
    · have hi:i<(alL ps++[Fm.nd k ps]).length:=(List.getElem?_eq_some_iff.mp h).1
      rw [List.length_append,List.length_singleton] at hi
      have e:i=(alL ps).length:=by omega
      subst e
      rw [List.getElem?_append_right (Nat.le_refl _),Nat.sub_self] at h
      cases h
      exact ⟨st,by rw [List.take_left,ZH3];rfl⟩
theorem ZMR:∀ (fs:List Fm) (st:List B) (i:Nat) (g:Fm),(alL fs)[i]?=some g→∃ st',((alL fs).take i).foldl (ZEp sem) st=st'++(ZFO g).map sem
  | [],st,i,g,h=>by rw [alL] at h;simp at h
  | f::fs,st,i,g,h=>by
    rw [alL] at h ⊢
    by_cases c:i<(alF f).length
    · rw [List.getElem?_append_left c] at h
      obtain ⟨st',e⟩:=ZMQ f st i g h
      exact ⟨st',by rw [List.take_append_of_le_length (by omega)];exact e⟩
    · rw [List.getElem?_append_right (by omega)] at h
      obtain ⟨st',e⟩:=ZMR fs (st++[sem f]) _ g h
      refine ⟨st',?_⟩
      rw [List.take_append,List.take_of_length_le (by omega),List.foldl_append,ZH2]
      exact e
end
theorem ZKe (fs:List Fm)(st:List B):(fs.foldl (ZEp sem) st).length≤st.length+fs.length:=by
  induction fs generalizing st with
  | nil=>exact Nat.le_refl _
  | cons f fs ih=>
    rw [List.foldl_cons,List.length_cons]
    have:=ih (ZEp sem st f)
    have h2:(ZEp sem st f).length≤st.length+1:=by unfold ZEp;rw [List.length_append,List.length_take,List.length_singleton];omega
    omega
end
def qR:Str:=Str.ofString "reckoned"++Str.ofString ".<locals>."++Str.ofString "<lambda>"
def spRck (Pr f:Addr)(Dp:Hp→Prop)(dom:Str→Int→Int→Prop)(g:Str→Int→Int→Vl):Sp:=fun vs H Q _=>∃ (v y o:V) (fm:Fm) (n:Nat) (hm:Hm),vs=[v,y,.ref f,o]∧ZB4 H v fm∧FO 0 n fm∧n≤8∧(∀ x∈alF fm,okF dom x)∧Dp H∧ZEH H y hm∧ZCI H Pr qR∧
  ∀ x H',ZD0 H' x (ZQg g hm fm)→ZAl Pr H H'→ZCI H' Pr qR→Q x H'
theorem SqL.kl {K:PySem.W.Frag}{H H':Hp}{a p b:Addr}{ns:List Int}{r:List V}(h:SqL K H a (ns.map V.int))(hp:H p=some (.lst (.ref b::r)))(s:ZAl p H H'):SqL K H' a (ns.map V.int):=by
  rcases h with (h | ⟨o,h⟩) | h
  · exact .inl (.inl (s _ _ (ZCH h hp (by intro z;injection z with z;cases ns <;> simp at z)) h))
  · exact .inl (.inr ⟨o,s _ _ (ZCH h hp (by intro z;cases z)) h⟩)
  · exact .inr h
def ZDN (K:PySem.W.Frag)(S:Addr×List Int)(H:Hp)(p:Addr)(k:Nat):Prop:=∃ (b:Bool) (c r:Int),H p=some (.lst [.ref S.1,.bl b,.int c,.int r])∧SqL K H S.1 (S.2.map V.int)∧0≤c∧c≤k∧S.2.length≤63
section
variable {K:PySem.W.Frag}{S:Addr×List Int}{H H':Hp}{p D:Addr}{k n:Nat}
theorem ZDN.same (h:ZDN K S H p k)(s:ZAM H H'):ZDN K S H' p k:=by
  obtain ⟨b,c,r,e,q,z⟩:=h
  exact ⟨b,c,r,s _ _ e,s.seq q,z⟩
theorem ZDN.smd (h:ZDN K S H p k)(s:SmD H H'):ZDN K S H' p k:=by
  obtain ⟨b,c,r,e,q,z⟩:=h
  exact ⟨b,c,r,s _ _ e rfl,s.seq q,z⟩
theorem ZDN.mono (h:ZDN K S H p k)(s:k≤n):ZDN K S H p n:=by
  obtain ⟨b,c,r,e,q,y,v,w⟩:=h
  exact ⟨b,c,r,e,q,y,by omega,w⟩
theorem ZDN.ob (h:ZDN K S H p k):∃ vs,H p=some (.lst vs):=by
  obtain ⟨_,_,_,e,_⟩:=h
  exact ⟨_,e⟩
theorem ZDN.ne (h:ZDN K S H p k)(hD:H D=none):D≠p:=fun z=>by
  obtain ⟨vs,e⟩:=h.ob
  rw [← z,hD] at e;cases e
theorem ZDN.kp (h:ZDN K S H p k)(s:ZAl p H H'):Kp H H':=by
  obtain ⟨_,e⟩:=h.ob
  exact Kp.lst e s
end
def ZQh (K:PySem.W.Frag):Sp:=fun vs H Q _=>∃ (a:Addr) (ns:List Int) (k:Int),vs=[.ref a,.int k]∧SqL K H a (ns.map V.int)∧0≤k∧∀ v:Int,Q (.int v) H
def ZQi (K:PySem.W.Frag):Sp:=fun vs H Q _=>∃ (a:Addr) (ns:List Int),vs=[.ref a]∧SqL K H a (ns.map V.int)∧ns.length≤63∧∀ (p:Addr) (H':Hp),H p=none→ZDN K (a,ns) H' p 0→ZAM H H'→Q (.ref p) H'
def ZQj (K:PySem.W.Frag):Sp:=fun vs H Q _=>∃ (p:Addr) (m:Int) (k:Nat) (S:Addr×List Int),vs=[.ref p,.int m]∧0<m∧Sz 4000 m∧ZDN K S H p k∧k≤10000000∧∀ (r:Int) (H':Hp),0≤r→r<m→ZDN K S H' p (k+1)→ZAl p H H'→Q (.int r) H'
def ZQk:Sp:=fun vs H Q _=>∃ t b:Int,vs=[.int t,.int b]∧1≤b∧Sz 4000 b∧∀ q,H q=none→Q (.ref q) (upd H q (.tup [vS "number",.int (ZDA t b),.int (ZCz t b)]))
def ZQl (K:PySem.W.Frag):Sp:=fun vs H Q _=>∃ (p:Addr) (k:Nat) (S:Addr×List Int),vs=[.ref p]∧ZDN K S H p k∧k≤9000000∧∀ (q:Addr) (h:Hm) (H':Hp),H' q=some (.tup [.str h.z,.int h.r,.int h.c])→Nm h.z→1≤h.r→h.r≤16→1≤h.c→h.c≤8→ZDN K S H' p (k+3)→ZAl p H H'→Q (.ref q) H'
def ZQm (K:PySem.W.Frag):Sp:=fun vs H Q _=>∃ (p:Addr) (k:Nat) (S:Addr×List Int),vs=[.ref p]∧ZDN K S H p k∧k≤8000000∧∀ (u:V) (v:Vl) (H':Hp),ZBT H' u v→ZBi v→ZDN K S H' p (k+8)→ZAl p H H'→Q u H'
theorem at2 {x y:V}{r:Int}(h0:0≤r)(h1:r<2):∃ v,atI [x,y] r=some v∧(v=x∨v=y):=by
  have:r=0∨r=1:=by omega
  rcases this with rfl | rfl
  · exact ⟨_,rfl,.inl rfl⟩
  · exact ⟨_,rfl,.inr rfl⟩
theorem atR {xs:List V}{r:Int}(h0:0≤r)(h1:r<(xs.length:Int)):∃ v,atI xs r=some v∧v∈xs:=by
  obtain ⟨j,rfl⟩:∃ j:Nat,r=(j:Int):=⟨r.toNat,by omega⟩
  have hj:j<xs.length:=by omega
  exact ⟨xs[j],ZDY (List.getElem?_eq_getElem hj),List.getElem_mem hj⟩
theorem kpl {K:PySem.W.Frag}{S:Addr×List Int}{H H':Hp}{p l:Addr}{k:Nat}{o:HO}(h:ZDN K S H p k)(hl:H l=none)(s:ZAl p (upd H l o) H'):H' l=some o∧ZAl p H H':=
  ⟨s _ _ (h.ne hl) ZAE,(ZAM.keep (ZAM.new hl)).trans s⟩
theorem ZSJ:Nm (Str.ofString "b"):=ZMK (by decide +kernel)
theorem ZKf:Nm (Str.ofString "main"):=ZMK (by decide +kernel)
theorem ZIk {t b:Int}(hb:1≤b)(h1:t.natAbs<10 ^ 30)(h2:b.natAbs<10 ^ 30):ZBi (.num (ZDA t b) (ZCz t b)):=
  ⟨ZC5 (by omega),Nat.lt_of_le_of_lt (ZF8 t b (by omega)) h1,Nat.lt_of_le_of_lt (ZF9 t b (by omega)) h2⟩
theorem ZPU {H:Hp}{q:Addr}{x y:Int}:ZBT (upd H q (.tup [vS "number",.int x,.int y])) (.ref q) (.num x y):=⟨q,rfl,ZAE⟩
theorem ZOu {t:Int}(h1:t.natAbs<10 ^ 30):ZBi (.num t 1):=⟨ZHw,h1,by decide⟩
theorem p28:(10:Int) ^ (28:Int).toNat=10000000000000000000000000000:=by decide +kernel
theorem p9:(10:Int) ^ (9:Int).toNat=1000000000:=by decide +kernel
theorem p30:(10:Int) ^ (30:Int).toNat=1000000000000000000000000000000:=by decide +kernel
theorem n30:(10:Nat) ^ 30=1000000000000000000000000000000:=by decide +kernel
theorem ZMS {x:Int}(h0:-1000000000000000000000000000000≤x)(h1:x≤1000000000000000000000000000000):Sz 4000 x:=by
  refine Sz.mono (m:=100) ?_ (by decide)
  unfold Sz
  have:(2:Nat) ^ 100=1267650600228229401496703205376:=by decide +kernel
  omega
def ZQn (K:PySem.W.Frag):Sp:=fun vs H Q _=>∃ (p:Addr) (k:Nat) (S:Addr×List Int),vs=[.ref p]∧ZDN K S H p k∧k≤8500000∧∀ (u:V) (v:Vl) (H':Hp),ZBT H' u v→ZBi v→ZDN K S H' p (k+4)→ZAl p H H'→Q u H'
def ZH4:List V:=[vS "",vS "a",vS "ab",vS "b c",vS "12",vS "0",vS "abcdefghij klmnopqrs",vS "z"]
theorem ZJF:∀ v∈ZH4,∃ z,v=.str z∧ZBi (.txt z):=by
  have h:∀ z∈["","a","ab","b c","12","0","abcdefghij klmnopqrs","z"].map Str.ofString,z.length≤20∧∀ c∈z.cps.toList,c∈(Str.ofString "abcdefghijklmnopqrstuvwxyz0123456789 ").cps.toList:=by decide +kernel
  intro v hv
  have e:ZH4=(["","a","ab","b c","12","0","abcdefghij klmnopqrs","z"].map Str.ofString).map V.str:=rfl
  rw [e] at hv
  obtain ⟨z,hz,rfl⟩:=List.mem_map.mp hv
  exact ⟨z,rfl,h z hz⟩
theorem ZJG {v:V}(h:v∈ZDS.map V.str):∃ w,v=.str w∧w∈ZDS:=by
  obtain ⟨z,hz,rfl⟩:=List.mem_map.mp h
  exact ⟨z,rfl,hz⟩
abbrev ZMT (H:Hp)(bs:List Addr)(rows:List (List V)):Prop:=Paired (fun b row=>H b=some (HO.lst row)) bs rows
def Oks (m:List (List Vl))(w:Nat):Prop:=∀ r∈m,r.length=w∧∀ v∈r,ZBi v
structure LTab (H:Hp)(p l:Addr)(bs:List Addr)(rows:List (List V))(m:List (List Vl)):Prop where
  ob:H l=some (.lst (bs.map V.ref))
  nd:bs.Nodup
  np:p∉bs
  nl:l∉bs
  lp:l≠p
  ls:ZMT H bs rows
  vt:ZJR H rows m
theorem ZSK {α β:Type}{F G:α→β→Prop}:∀ {xs:List α} {ys:List β},Paired F xs ys→(∀ x y,x∈xs→F x y→G x y)→Paired G xs ys:=by
  intro A B h
  induction h with
  | nil=>
    intro _
    exact .nil
  | cons r t ih=>
    intro h
    exact .cons (h _ _ List.mem_cons_self r) (ih fun x y hx=>h x y (List.mem_cons_of_mem _ hx))
def spDtb (K:PySem.W.Frag):Sp:=fun vs H Q _=>∃ (p:Addr) (h w:Nat) (k:Nat) (S:Addr×List Int),vs=[.ref p,.int h,.int w]∧1≤h∧h≤6∧1≤w∧w≤6∧ZDN K S H p k∧k≤5000000∧∀ (l:Addr) (bs:List Addr) (rows:List (List V)) (m:List (List Vl)) (H':Hp),H l=none→(∀ b∈bs,H b=none)→LTab H' p l bs rows m→m.length=h→Oks m w→ZDN K S H' p (k+400)→ZAl p H H'→Q (.ref l) H'
theorem ZAl.fresh {p D:Addr}{H H':Hp}(s:ZAl p H H')(hp:D≠p)(h:H' D=none):H D=none:=by
  cases e:H D with
  | none=>rfl
  | some o=>rw [s _ _ hp e] at h;cases h
theorem ZFR {H:Hp}{D:Addr}{us vs:List V}(h:H D=some (.lst us)):Kp H (upd H D (.lst vs)):=Kp.lst h ZAl.upd
abbrev cK (z:Str)(r c:Int):List Key:=[.inr z,.inl r,.inl c]
theorem ZOv {z:Str}{r c r' c':Int}(h:cK z r c=cK z r' c'):r=r'∧c=c':=by
  injection h with _ h;injection h with h1 h2;injection h2 with h2 _
  injection h1 with h1;injection h2 with h2
  exact ⟨h1,h2⟩
def ZH5 (kvs:List (List Key×V))(z:Str)(hi wi:Int)(rows:List (List V))(i j:Nat):Prop:=
  ∀ (a b:Nat) (row:List V) (v:V),rows[a]?=some row→row[b]?=some v→(a<i∨(a=i∧b<j))→ZDh kvs (cK z (hi+a+1) (wi+b+1))=some v
def ZLn (kvs kvs':List (List Key×V))(z:Str):Prop:=∀ key:List Key,key.head?≠some (.inr z)→ZDh kvs' key=ZDh kvs key
def ZQo (K:PySem.W.Frag):Sp:=fun vs H Q _=>∃ (kn l:Addr) (z:Str) (hi wi:Int) (kvs:List (List Key×V)) (bs:List Addr) (rows:List (List V)) (h w:Nat),vs=[.ref kn,.str z,.ref l,.int hi,.int wi]∧H kn=some (.dT kvs)∧kvs.length≤800∧H l=some (.lst (bs.map V.ref))∧ZMT H bs rows∧rows.length=h∧1≤h∧h≤16∧1≤w∧w≤8∧(∀ r∈rows,r.length=w)∧
  ∀ (a:Addr) (lf:Lf) (c d:Cor) (kvs':List (List Key×V)) (H':Hp),H' kn=some (.dT kvs')→kvs'.length≤kvs.length+h*w→ZH5 kvs' z hi wi rows h 0→ZLn kvs kvs' z→ZGt H' a lf→lfB lf=some (z,c,d)→c.r=hi+1→c.c=wi+1→d.r=hi+h→d.c=wi+w→ZAl kn H H'→Q (.ref a) H'
theorem ZH5.next {kvs:List (List Key×V)}{z:Str}{hi wi:Int}{rows:List (List V)}{i j:Nat}{row:List V}{v:V}(h:ZH5 kvs z hi wi rows i j)(hr:rows[i]?=some row)(hv:row[j]?=some v):
    ZH5 (ZGM kvs (cK z (hi+i+1) (wi+j+1)) v) z hi wi rows i (j+1):=by
  intro a b row' v' h1 h2 h3
  rw [ZIT]
  by_cases e:cK z (hi+a+1) (wi+b+1)=cK z (hi+i+1) (wi+j+1)
  · rw [if_pos e]
    obtain ⟨e1,e2⟩:=ZOv e
    have ea:a=i:=by omega
    have eb:b=j:=by omega
    subst ea eb
    rw [hr] at h1;cases h1
    rw [hv] at h2;exact h2
  · rw [if_neg e]
    refine h a b row' v' h1 h2 ?_
    rcases h3 with h3 | ⟨rfl,h3⟩
    · exact .inl h3
    · rcases Nat.lt_succ_iff_lt_or_eq.mp h3 with q | q
      · exact .inr ⟨rfl,q⟩
      · subst q;exact absurd rfl e
theorem ZH5.row {kvs:List (List Key×V)}{z:Str}{hi wi:Int}{rows:List (List V)}{i j:Nat}{row:List V}(h:ZH5 kvs z hi wi rows i j)(hr:rows[i]?=some row)(hj:row.length≤j):ZH5 kvs z hi wi rows (i+1) 0:=by
  intro a b row' v' h1 h2 h3
  refine h a b row' v' h1 h2 ?_
  rcases h3 with h3 | ⟨_,h3⟩
  · rcases Nat.lt_succ_iff_lt_or_eq.mp h3 with q | q
    · exact .inl q
    · subst q
      rw [hr] at h1;cases h1
      have:=(List.getElem?_eq_some_iff.mp h2).1
      exact .inr ⟨rfl,by omega⟩
  · omega
theorem ZLn.put {kvs kvs':List (List Key×V)}{z:Str}{r c:Int}{v:V}(h:ZLn kvs kvs' z):ZLn kvs (ZGM kvs' (cK z r c) v) z:=fun key hk=>by
  rw [ZIT,if_neg (fun e=>hk (by rw [e];rfl))]
  exact h key hk
def ZQp (K:PySem.W.Frag):Sp:=fun vs H Q _=>∃ (p kn l:Addr) (z:Str) (kvs:List (List Key×V)) (bs:List Addr) (rows:List (List V)) (h w n:Nat) (S:Addr×List Int),vs=[.ref p,.ref kn,.str z,.ref l]∧ZDN K S H p n∧n≤9000000∧H kn=some (.dT kvs)∧kvs.length≤800∧H l=some (.lst (bs.map V.ref))∧l≠p∧p∉bs∧ZMT H bs rows∧rows.length=h∧1≤h∧h≤16∧1≤w∧w≤8∧(∀ r∈rows,r.length=w)∧
  ∀ (a:Addr) (lf:Lf) (c d:Cor) (hi wi:Int) (kvs':List (List Key×V)) (H':Hp),H' kn=some (.dT kvs')→kvs'.length≤kvs.length+h*w→ZH5 kvs' z hi wi rows h 0→ZLn kvs kvs' z→ZGt H' a lf→lfB lf=some (z,c,d)→c.r=hi+1→c.c=wi+1→d.r=hi+h→d.c=wi+w→0≤hi→hi+h≤16→0≤wi→wi+w≤8→
    ZDN K S H' p (n+2)→(∀ b o,b≠p→b≠kn→H b=some o→H' b=some o)→Q (.ref a) H'
theorem ZDN.kx {K:PySem.W.Frag}{S:Addr×List Int}{H H':Hp}{p kn:Addr}{k:Nat}{kvs:List (List Key×V)}(h:ZDN K S H p k)(hk:H kn=some (.dT kvs))(s:ZAl kn H H'):ZDN K S H' p k:=by
  obtain ⟨b,c,r,e,q,z⟩:=h
  refine ⟨b,c,r,s _ _ (ZCH e hk (by intro z;cases z)) e,?_,z⟩
  rcases q with (q | ⟨o,q⟩) | q
  · exact .inl (.inl (s _ _ (ZCH q hk (by intro z;cases z)) q))
  · exact .inl (.inr ⟨o,s _ _ (ZCH q hk (by intro z;cases z)) q⟩)
  · exact .inr q
def spTbd:Sp:=fun vs H Q _=>∃ (l:Addr) (bs:List Addr) (rows:List (List V)),vs=[.ref l]∧H l=some (.lst (bs.map V.ref))∧ZMT H bs rows∧rows.length≤100∧∀ x H',ZCE H' x rows→ZAM H H'→Q x H'
inductive Tr where
  | bl (b:Bool) | int (i:Int) | str (z:Str) | tup (ts:List Tr)
inductive ZHf (H:Hp):V→Tr→Nat→Prop where
  | bl (b:Bool) (n:Nat):ZHf H (.bl b) (.bl b) n
  | int (i:Int) (n:Nat):ZHf H (.int i) (.int i) n
  | str (z:Str) (n:Nat):ZHf H (.str z) (.str z) n
  | tup {a:Addr} {us:List V} {ts:List Tr} {n:Nat} (e:H a=some (.tup us)) (hl:us.length≤100) (hn:us.length=ts.length) (hh:∀ (j:Nat) (u:V) (t:Tr),us[j]?=some u→ts[j]?=some t→ZHf H u t n):ZHf H (.ref a) (.tup ts) (n+1)
theorem ZHf.kp {H H':Hp}{v:V}{t:Tr}{n:Nat}(h:ZHf H v t n)(s:Kp H H'):ZHf H' v t n:=by
  induction h with
  | bl b n=>exact .bl b n
  | int i n=>exact .int i n
  | str z n=>exact .str z n
  | tup e hl hn _ ih=>exact .tup (s _ _ e) hl hn ih
theorem ZHf.ofP {H:Hp}{a:Addr}{us:List V}{ts:List Tr}{n:Nat}(e:H a=some (.tup us))(hl:us.length≤100)(p:Paired (fun u t=>ZHf H u t n) us ts):ZHf H (.ref a) (.tup ts) (n+1):=by
  refine .tup e hl (Paired.length p) fun j u t h1 h2=>?_
  obtain ⟨t',h3,h4⟩:=ZBA p h1
  rw [h2] at h3
  rw [Option.some.inj h3]
  exact h4
def trV:Vl→Tr
  | .none=>.tup [.str (Str.ofString "none")]
  | .num t b=>.tup [.str (Str.ofString "number"),.int t,.int b]
  | .txt z=>.tup [.str (Str.ofString "text"),.str z]
  | .tru b=>.tup [.str (Str.ofString "truth"),.bl b]
  | .flt w z r c=>.tup [.str (Str.ofString "fault"),.str w,.tup [.str z,.int r,.int c]]
theorem ZBT.tr {H:Hp}{u:V}{v:Vl}(h:ZBT H u v):ZHf H u (trV v) 2:=by
  obtain ⟨q,rfl,h⟩:=h
  cases v with
  | none=>exact .ofP h (by simp) (.cons (.str _ _) .nil)
  | num t b=>exact .ofP h (by simp) (.cons (.str _ _) (.cons (.int _ _) (.cons (.int _ _) .nil)))
  | txt z=>exact .ofP h (by simp) (.cons (.str _ _) (.cons (.str _ _) .nil))
  | tru b=>exact .ofP h (by simp) (.cons (.str _ _) (.cons (.bl _ _) .nil))
  | flt w z r c=>
    obtain ⟨p,h1,h2⟩:=h
    exact .ofP h1 (by simp) (.cons (.str _ _) (.cons (.str _ _) (.cons (.ofP (n:=0) h2 (by simp) (.cons (.str _ _) (.cons (.int _ _) (.cons (.int _ _) .nil)))) .nil)))
def ZQq (n:Nat):Sp:=fun vs H Q _=>∃ (u v:V) (tr:Tr),vs=[u,v]∧ZHf H u tr n∧ZHf H v tr n∧∀ H',ZAM H H'→Q (.bl true) H'
theorem ZLo (n:Nat):(List.replicate n true).all id=true:=by simp
def few (i:Int):Bool:=decide ((if i<0 then -i else i)≤999999999999999999999999999999)
theorem ZKg {i:Int}:few i=true↔i.natAbs<10 ^ 30:=by
  unfold few
  rw [decide_eq_true_eq,n30,ZIh]
  omega
def ZIl (t b:Int)(h:Hm):Vl:=if (few t&&few b)=true then .num t b else ZLA "great" h
def ZCc:Vl→Option (Int×Int)
  | .none=>some (0,1)
  | .num t b=>some (t,b)
  | _=>none
def ZQr (H:Hp)(x:V):Option (Int×Int)→Prop
  | some n=>∃ p,x=.ref p∧H p=some (.tup [.int n.1,.int n.2])
  | none=>x=.non
def ZOw:Sp:=fun vs H Q _=>∃ i:Int,vs=[.int i]∧Q (.bl (few i)) H
def ZQs:Sp:=fun vs H Q _=>∃ t b:Int,vs=[.int t,.int b]∧Low t b∧Q (.bl (few t&&few b)) H
def ValK (K:PySem.W.Frag)(H:Hp)(u:V)(v:Vl):Prop:=ZBT H u v∨(v=.num 0 1∧∃ q,u=.ref q∧∀ H',SqT K H' q [vS "number",.int 0,.int 1])
def ZQt (K:PySem.W.Frag):Sp:=fun vs H Q _=>∃ (u:V) (v:Vl),vs=[u]∧ValK K H u v∧∀ x H',ZQr H' x (ZCc v)→ZAM H H'→Q x H'
def ZQu:Sp:=fun vs H Q _=>∃ (p:Addr) (t b:Int) (y:V) (hm:Hm),vs=[.ref p,y]∧H p=some (.tup [.int t,.int b])∧Low t b∧ZEH H y hm∧∀ x H',ZBT H' x (ZIl t b hm)→ZAM H H'→Q x H'
theorem ZFS {v:Vl}{n:Int×Int}(ok:ZBi v)(h:ZCc v=some n):Low n.1 n.2∧n.1.natAbs<10 ^ 30∧n.2.natAbs<10 ^ 30:=by
  cases v with
  | none=>cases h;exact ⟨ZHw,by decide,by decide⟩
  | num t b=>cases h;exact ok
  | txt z=>cases h
  | tru b=>cases h
  | flt w z r c=>cases h
def opN (s:Str)(a b:Int×Int)(h:Hm):Vl:=
  if s=Str.ofString "+" then ZIl (ZDA (a.1*b.2+b.1*a.2) (a.2*b.2)) (ZCz (a.1*b.2+b.1*a.2) (a.2*b.2)) h
  else if s=Str.ofString "-" then ZIl (ZDA (a.1*b.2-b.1*a.2) (a.2*b.2)) (ZCz (a.1*b.2-b.1*a.2) (a.2*b.2)) h
  else if s=Str.ofString "*" then ZIl (ZDA (a.1*b.1) (a.2*b.2)) (ZCz (a.1*b.1) (a.2*b.2)) h
  else if s=Str.ofString "/" then (if b.1=0 then ZLA "nought" h else ZIl (ZDA (a.1*b.2) (a.2*b.1)) (ZCz (a.1*b.2) (a.2*b.1)) h)
  else .tru (decide (a.1*b.2<b.1*a.2))
def ZQv:Sp:=fun vs H Q _=>∃ (s:Str) (p q:Addr) (a b:Int×Int) (y:V) (hm:Hm),vs=[.str s,.ref p,.ref q,y]∧ZFM H p a.1 a.2 100∧ZFM H q b.1 b.2 100∧ZEH H y hm∧∀ x H',ZBT H' x (opN s a b hm)→ZAM H H'→Q x H'
theorem ZLB {s:Str}{z:String}:decide (V.str s=vS z)=decide (s=Str.ofString z):=by
  by_cases h:s=Str.ofString z
  · subst h;simp
  · rw [decide_eq_false h,decide_eq_false (fun e=>h (by injection e))]
theorem ZJH {x:Int}(h:x.natAbs<10 ^ 30):Sz 100 x:=by
  unfold Sz
  have:(10:Nat) ^ 30≤2 ^ 100:=by decide +kernel
  omega
def sgn:Vl→Str
  | .txt z=>z
  | v=>ZKS v
def SGL:Str:=Str.ofString "abcdefghijklmnopqrstuvwxyz0123456789 "
def ZNp (z:Str):Bool:=!decide ((20:Int)<(z.length:Int))&&(z.cps.toList.map fun c=>decide (c∈SGL.cps.toList)).all id
def ZOx:Sp:=fun vs H Q _=>∃ z:Str,vs=[.str z]∧z.length≤1000∧∀ H',ZAM H H'→Q (.bl (ZNp z)) H'
def ZQw:Sp:=fun vs H Q _=>∃ (u:V) (v:Vl),vs=[u]∧ZBT H u v∧ZBi v∧∀ H',ZAM H H'→Q (.str (sgn v)) H'
def ZLp (a b:Vl)(h:Hm):Vl:=if ZNp (sgn a++sgn b)=true then .txt (sgn a++sgn b) else ZLA "kind" h
def ZQx:Sp:=fun vs H Q _=>∃ (u v y:V) (a b:Vl) (hm:Hm),vs=[u,v,y]∧ZBT H u a∧ZBT H v b∧ZBi a∧ZBi b∧ZEH H y hm∧∀ x H',ZBT H' x (ZLp a b hm)→ZAM H H'→Q x H'
theorem ZGX {v:Vl}(ok:ZBi v):(sgn v).length≤100:=by
  cases v with
  | txt z=>exact Nat.le_trans ok.1 (by decide)
  | none=>exact Nat.le_trans (ZFN ok) (by decide)
  | num t b=>exact Nat.le_trans (ZFN ok) (by decide)
  | tru b=>exact Nat.le_trans (ZFN ok) (by decide)
  | flt w z r c=>exact Nat.le_trans (ZFN ok) (by decide)
def ZMU (s:Str)(a b:Vl):Option Bool:=if s=Str.ofString "<" then (match a,b with | .txt x,.txt y=>some (decide (x.cps.toList<y.cps.toList)) | _,_=>none) else none
def ZD2 (s:Str)(a b:Vl)(h:Hm):Vl:=match ZCc a,ZCc b with
  | some m,some n=>opN s m n h
  | _,_=>ZLA "kind" h
def ZQy (o:Option Bool)(v:Vl):Vl:=match o with
  | some t=>.tru t
  | none=>v
def opM (s:Str)(a b:Vl)(h:Hm):Vl:=
  if isF a=true then a else if isF b=true then b
  else if s=Str.ofString "=" then .tru (ZSF a b)
  else if s=Str.ofString "&" then ZLp a b h
  else ZQy (ZMU s a b) (ZD2 s a b h)
theorem ZH6 {s:Str}{a b:Vl}(h:¬ s=Str.ofString "<"):ZMU s a b=none:=if_neg h
theorem ZMV {s:Str}{a b:Vl}(h:¬ decide (V.str (tag a)=vS "text")=true):ZMU s a b=none:=by
  unfold ZMU
  split
  · cases a with
    | txt z=>exact absurd (by show decide (V.str (Str.ofString "text")=vS "text")=true;decide +kernel) h
    | none=>rfl
    | num t b=>rfl
    | tru b=>rfl
    | flt w z r c=>rfl
  · rfl
theorem ZMW {s:Str}{a b:Vl}(h:¬ decide (V.str (tag b)=vS "text")=true):ZMU s a b=none:=by
  unfold ZMU
  split
  · cases b with
    | txt z=>exact absurd (by show decide (V.str (Str.ofString "text")=vS "text")=true;decide +kernel) h
    | none=>cases a <;> rfl
    | num t b=>cases a <;> rfl
    | tru b=>cases a <;> rfl
    | flt w z r c=>cases a <;> rfl
  · rfl
theorem ZGY {a:Vl}(h:decide (V.str (tag a)=vS "text")=true):∃ z,a=.txt z:=by
  cases a with
  | txt z=>exact ⟨z,rfl⟩
  | none=>exact absurd h (by show ¬ decide (V.str (Str.ofString "none")=vS "text")=true;decide +kernel)
  | num t b=>exact absurd h (by show ¬ decide (V.str (Str.ofString "number")=vS "text")=true;decide +kernel)
  | tru b=>exact absurd h (by show ¬ decide (V.str (Str.ofString "truth")=vS "text")=true;decide +kernel)
  | flt w z r c=>exact absurd h (by show ¬ decide (V.str (Str.ofString "fault")=vS "text")=true;decide +kernel)
theorem ZEi {H:Hp}{p:Addr}{v:Vl}{n:Int×Int}(ok:ZBi v)(e:ZCc v=some n)(h:H p=some (.tup [.int n.1,.int n.2])):ZFM H p n.1 n.2 100:=by
  obtain ⟨l,h1,h2⟩:=ZFS ok e
  exact ⟨h,l,ZJH h1,ZJH h2⟩
def ZNq (K:PySem.W.Frag)(s:Str)(hm:Hm)(H:Hp)(u v:V)(r:Vl):Prop:=(∃ a b,ZBT H u a∧ZBT H v b∧ZBi a∧ZBi b∧r=opM s a b hm)∨
  (s=Str.ofString "-"∧(∃ q,u=.ref q∧∀ H',SqT K H' q [vS "number",.int 0,.int 1])∧∃ b,ZBT H v b∧ZBi b∧r=opM s (.num 0 1) b hm)
theorem ZNq.kp {K:PySem.W.Frag}{s:Str}{hm:Hm}{H H':Hp}{u v:V}{r:Vl}(h:ZNq K s hm H u v r)(k:Kp H H'):ZNq K s hm H' u v r:=by
  rcases h with ⟨a,b,x,y,z⟩ | ⟨e,c,b,y,z⟩
  · exact .inl ⟨a,b,x.kp k,y.kp k,z⟩
  · exact .inr ⟨e,c,b,y.kp k,z⟩
def ZQz (K:PySem.W.Frag):Sp:=fun vs H Q _=>∃ (s:Str) (u v y:V) (r:Vl) (hm:Hm),vs=[.str s,u,v,y]∧ZNq K s hm H u v r∧ZEH H y hm∧∀ x H',ZBT H' x r→ZAM H H'→Q x H'
def spSig:Sp:=fun vs H Q _=>∃ (s:Str) (u v y:V) (a b:Vl) (hm:Hm),vs=[.str s,u,v,y]∧ZBT H u a∧ZBT H v b∧ZBi a∧ZBi b∧ZEH H y hm∧∀ x H',ZBT H' x (opM s a b hm)→ZAM H H'→Q x H'
abbrev Sh:=Option (Int×Int)
abbrev prV (p:Int×Int):List V:=[.int p.1,.int p.2]
def ZJS (K:PySem.W.Frag)(H:Hp)(v:V):Sh→Prop
  | none=>v=.non
  | some p=>∃ a,v=.ref a∧SqT K H a (prV p)
abbrev ShsAt (K:PySem.W.Frag)(H:Hp)(vs:List V)(ss:List Sh):Prop:=Paired (ZJS K H) vs ss
theorem ZJS.same {K:PySem.W.Frag}{H H':Hp}{v:V}{s:Sh}(h:ZJS K H v s)(q:ZAM H H'):ZJS K H' v s:=by
  cases s with
  | none=>exact h
  | some p=>obtain ⟨a,e,h⟩:=h;exact ⟨a,e,SqT.sm h q⟩
def fit (a b:Int×Int):Sh:=if a=b then some a else if b=(1,1) then some a else if a=(1,1) then some b else none
theorem ZPV (p q:Int×Int):(if false=true then !ZEx (prV p) (prV q) else ZEx (prV p) (prV q))=decide (p=q):=by
  obtain ⟨a,b⟩:=p
  obtain ⟨c,d⟩:=q
  have e:∀ x y:Int,(x==y)=decide (x=y):=fun _ _=>rfl
  simp [ZEx,eqV,prV,e]
def ZQ0 (K:PySem.W.Frag):Sp:=fun vs H Q _=>∃ (u v:V) (a b:Int×Int),vs=[u,v]∧ZJS K H u (some a)∧ZJS K H v (some b)∧∀ r H',ZJS K H' r (fit a b)→ZAM H H'→Q r H'
def hdV (m:List (List V)):V:=(m.headD []).headD .non
theorem ZCE.row0 {H:Hp}{u:V}{rows:List (List V)}{w:Nat}(h:ZCE H u rows)(rc:ZD1 rows w):∃ b us b0 rt,u=.ref b∧H b=some (.tup (.ref b0::us))∧us.length+1=rows.length∧H b0=some (.tup (hdV rows::rt))∧rt.length+1=w:=by
  obtain ⟨b,us,rfl,hb,pr⟩:=h
  obtain ⟨m0,mt,rfl⟩:∃ a t,rows=a::t:=by
    cases rows with
    | nil=>exact absurd rfl rc.ne
    | cons a t=>exact ⟨a,t,rfl⟩
  have l1:=Paired.length pr
  have w1:=rc.w1
  have l0:=rc.row m0 List.mem_cons_self
  obtain ⟨y0,yt,rfl⟩:=ZDb (l:=m0) (by omega)
  cases pr with
  | cons p0 pt=>
    obtain ⟨b0,rfl,hb0⟩:=p0
    exact ⟨b,_,b0,yt,rfl,hb,by simpa using l1,hb0,by simpa using l0⟩
def ZLq {α:Type}(h w:Nat)(v:α):List (List α):=List.replicate h (List.replicate w v)
theorem ZGA {α β:Type}{F:α→β→Prop}{x:α}{y:β}(h:F x y):∀ n:Nat,Paired F (List.replicate n x) (List.replicate n y)
  | 0=>.nil
  | n+1=>.cons h (ZGA h n)
def ZQ1:Sp:=fun vs H Q _=>∃ (x:V) (m:List (List V)) (w:Nat),vs=[x]∧ZCE H x m∧ZD1 m w∧∀ r,H r=none→Q (.ref r) (upd H r (.tup [.int m.length,.int w]))
def ZQ2 (K:PySem.W.Frag):Sp:=fun vs H Q _=>∃ (p u:V) (h w:Nat),vs=[p,u]∧ZJS K H p (some (h,w))∧1≤h∧h≤1000∧1≤w∧w≤1000∧∀ x H',ZCE H' x (ZLq h w u)→ZAM H H'→Q x H'
def ZH7 (m:List (List V))(w h2 w2:Nat):List (List V):=if (m.length,w)=(1,1) then ZLq h2 w2 (hdV m) else m
def ZQ3 (K:PySem.W.Frag):Sp:=fun vs H Q _=>∃ (x p:V) (m:List (List V)) (w h2 w2:Nat),vs=[x,p]∧ZCE H x m∧ZD1 m w∧ZJS K H p (some (h2,w2))∧1≤h2∧h2≤1000∧1≤w2∧w2≤1000∧∀ y H',ZCE H' y (ZH7 m w h2 w2)→ZAM H H'→Q y H'
def ZQ4:Sp:=fun vs H Q _=>∃ (x:V) (m:List (List V)) (w:Nat),vs=[x]∧ZCE H x m∧ZD1 m w∧w≤30∧m.length≤30∧∀ l H',H l=none→H' l=some (.lst m.flatten)→ZAM H H'→Q (.ref l) H'
theorem ZE1 {α:Type}{m:List (List α)}{w:Nat}(h:∀ r∈m,r.length=w):m.flatten.length=m.length*w:=by
  induction m with
  | nil=>simp
  | cons r m ih=>
    rw [List.flatten_cons,List.length_append,ih fun x hx=>h x (List.mem_cons_of_mem _ hx),h r List.mem_cons_self,List.length_cons,Nat.succ_mul]
    omega
theorem ZOy:bootBuiltins "zip"=some (.type "zip"):=by decide +kernel
def ZOz (K:PySem.W.Frag):Sp:=fun vs H Q _=>∃ (s:Str) (x y z:V) (m n:List (List V)) (w1 w2 h w:Nat) (hm:Hm) (rs:List Vl),vs=[.str s,x,y,z]∧ZCE H x m∧ZCE H y n∧ZD1 m w1∧ZD1 n w2∧
  fit ((m.length:Int),(w1:Int)) ((n.length:Int),(w2:Int))=some ((h:Int),(w:Int))∧(ZH7 m w1 h w).length=h∧ZD1 (ZH7 m w1 h w) w∧(ZH7 n w2 h w).length=h∧ZD1 (ZH7 n w2 h w) w∧1≤h∧h≤30∧1≤w∧w≤30∧ZEH H z hm∧rs.length=h*w∧
  (∀ (i:Nat) (u v:V) (r:Vl),(ZH7 m w1 h w).flatten[i]?=some u→(ZH7 n w2 h w).flatten[i]?=some v→rs[i]?=some r→ZNq K s hm H u v r)∧∀ u H',ZD0 H' u (ZEI rs w h)→ZAM H H'→Q u H'
def ZNQ:Sp:=fun vs H Q _=>∃ (q:Addr) (t b:Int) (y:V) (hm:Hm),vs=[.ref q,y]∧H q=some (.tup [vS "number",.int t,.int b])∧Low t b∧ZEH H y hm∧∀ x H',ZBT H' x (ZIl t b hm)→ZAM H H'→Q x H'
theorem ZKh {t:Int}:(decide ((1000000000000000000000000000000:Int)≤(if t<0 then -t else t)))=!few t:=by
  unfold few
  by_cases h:(if t<0 then -t else t)≤999999999999999999999999999999
  · rw [decide_eq_true h,decide_eq_false (by omega)];rfl
  · rw [decide_eq_false h,decide_eq_true (by omega)];rfl
theorem ZNR {b:Int}(h:0<b):(decide ((1000000000000000000000000000000:Int)≤b))=!few b:=by
  rw [← ZKh,if_neg (by omega)]
def ZQ5:Sp:=fun vs H Q _=>∃ (u:V) (v:Vl),vs=[u]∧ZBT H u v∧ZBi v∧isF v=false∧∀ H',ZAM H H'→Q (.str (sgn v)) H'
def S5:List Str:=["+","-","*","/","<"].map Str.ofString
def ZQ6:Sp:=fun vs H Q _=>∃ (sg:Str) (u v y:V) (a b:Vl) (hm:Hm),vs=[.str sg,u,v,y]∧sg∈S5∧ZBT H u a∧ZBT H v b∧ZBi a∧ZBi b∧ZEH H y hm∧∀ x H',ZBT H' x (ZD2 sg a b hm)→ZAM H H'→Q x H'
def ZFm (H:Hp)(us:List V)(ns:List (Int×Int)):Prop:=Paired (fun u (n:Int×Int)=>∃ p,u=.ref p∧H p=some (.tup [.int n.1,.int n.2])) us ns
theorem ZFm.kp {H H':Hp}{us:List V}{ns:List (Int×Int)}(h:ZFm H us ns)(s:Kp H H'):ZFm H' us ns:=Paired.imp' (fun _ _ ⟨p,e,x⟩=>⟨p,e,s _ _ x⟩) h
theorem ZKi {v:Vl}{n:Int×Int}(h:ZCc v=some n):(v=.none∧n=(0,1))∨v=.num n.1 n.2:=by
  cases v with
  | none=>cases h;exact .inl ⟨rfl,rfl⟩
  | num t b=>cases h;exact .inr rfl
  | txt z=>cases h
  | tru b=>cases h
  | flt w z r c=>cases h
theorem ZLr {v:Vl}(h:ZCc v=none):decide (V.str (tag v)=vS "none")=false∧(!decide (V.str (tag v)=vS "number"))=true:=by
  cases v with
  | none=>cases h
  | num t b=>cases h
  | txt z=>exact ⟨by show decide (V.str (Str.ofString "text")=vS "none")=false;decide +kernel,by show (!decide (V.str (Str.ofString "text")=vS "number"))=true;decide +kernel⟩
  | tru b=>exact ⟨by show decide (V.str (Str.ofString "truth")=vS "none")=false;decide +kernel,by show (!decide (V.str (Str.ofString "truth")=vS "number"))=true;decide +kernel⟩
  | flt w z r c=>exact ⟨by show decide (V.str (Str.ofString "fault")=vS "none")=false;decide +kernel,by show (!decide (V.str (Str.ofString "fault")=vS "number"))=true;decide +kernel⟩
theorem ZMX {t b:Int}(h:b≠0):dv (-t) (-b) = -dv t b:=by
  unfold dv
  rw [Int.natAbs_neg,Int.natAbs_neg]
  by_cases c:b<0
  · rw [if_neg (by omega),if_pos c];omega
  · rw [if_pos (by omega),if_neg c]
theorem ZLs {t b:Int}(h:b≠0):ZDA (-t) (-b)=ZDA t b:=by
  unfold ZDA
  rw [ZMX h,Int.neg_fdiv_neg]
theorem ZLt {t b:Int}(h:b≠0):ZCz (-t) (-b)=ZCz t b:=by
  unfold ZCz
  rw [ZMX h,Int.neg_fdiv_neg]
def ZQ7:R2:=fun x y H Q=>∃ i j,x=.str i∧y=.str j∧Q (.bl (!(!(Builtin.Str.occurrences j i 0 j.length 1).isEmpty))) H
theorem ZNS {X:Cx}:OpR X (compareOp .NotIn) ZQ7:=ZG1
def S7:List Str:=["+","-","*","/","<","=","&"].map Str.ofString
def ZQ8:Sp:=fun vs H Q _=>∃ (s:Str) (u v y:V) (a b:Vl) (hm:Hm),vs=[.str s,u,v,y]∧s∈S7∧ZBT H u a∧ZBT H v b∧ZBi a∧ZBi b∧ZEH H y hm∧∀ x H',ZBT H' x (opM s a b hm)→ZAM H H'→Q x H'
def ZGu (z:List Nat):List V:=(z.filter fun c=>!decide (c∈SGL.cps.toList)).map fun c=>V.str ⟨#[c]⟩
theorem ZO0 {l:List Nat}{c:Nat}(h:decide (c∈SGL.cps.toList)=true):ZGu (l++[c])=ZGu l:=by
  unfold ZGu
  rw [List.filter_append,List.filter_cons,List.filter_nil,h]
  exact congrArg _ (List.append_nil _)
theorem ZNT {l:List Nat}{c:Nat}(h:decide (c∈SGL.cps.toList)=false):ZGu (l++[c])=ZGu l++[.str ⟨#[c]⟩]:=by
  unfold ZGu
  rw [List.filter_append,List.filter_cons,List.filter_nil,h,List.map_append];rfl
theorem ZNU (l:List Nat):(ZGu l).length≤l.length:=by
  unfold ZGu
  rw [List.length_map]
  exact List.length_filter_le _ _
theorem ZNV (z:List Nat):(ZGu z).isEmpty=(z.map fun c=>decide (c∈SGL.cps.toList)).all id:=by
  unfold ZGu
  rw [List.isEmpty_map]
  induction z with
  | nil=>rfl
  | cons c z ih=>
    rw [List.filter_cons,List.map_cons,List.all_cons]
    cases h:decide (c∈SGL.cps.toList) with
    | true=>exact ih
    | false=>rfl
theorem ZLu {z:Str}:ZNp z=!((!(ZGu z.cps.toList).isEmpty)||decide ((20:Int)<(z.length:Int))):=by
  unfold ZNp
  rw [ZNV]
  cases decide ((20:Int)<(z.length:Int)) <;> cases (z.cps.toList.map fun c=>decide (c∈SGL.cps.toList)).all id <;> rfl
def cy {α:Type}(d:α)(m:List (List α))(j k:Nat):α:=(m.getD (j%m.length) []).getD (k%(m.headD []).length) d
def ZHP {α:Type}(f:Nat→Nat→α)(h w:Nat):List (List α):=(List.range h).map fun j=>(List.range w).map (f j)
abbrev wd {α:Type}(m:List (List α)):Nat:=(m.headD []).length
theorem ZE2 {α:Type}{f:Nat→Nat→α}{h w:Nat}:(ZHP f h w).length=h:=by unfold ZHP;rw [List.length_map,List.length_range]
theorem ZHQ {α:Type}{f:Nat→Nat→α}{h w:Nat}(h1:1≤h)(w1:1≤w):ZD1 (ZHP f h w) w:=by
  refine ⟨fun z=>?_,w1,fun r hr=>?_⟩
  · have:=congrArg List.length z
    rw [ZE2] at this
    simp at this;omega
  · obtain ⟨j,_,rfl⟩:=List.mem_map.mp hr
    rw [List.length_map,List.length_range]
theorem ZLv {α:Type}{f:Nat→Nat→α}{h w j:Nat}(hj:j<h):(ZHP f h w)[j]?=some ((List.range w).map (f j)):=by
  unfold ZHP;rw [List.getElem?_map,List.getElem?_range hj];rfl
theorem ZD1.wd {α:Type}{m:List (List α)}{w:Nat}(h:ZD1 m w):(m.headD []).length=w:=by
  cases m with
  | nil=>exact absurd rfl h.ne
  | cons a t=>exact h.row a List.mem_cons_self
theorem ZD1.len {α:Type}{m:List (List α)}{w:Nat}(h:ZD1 m w):1≤m.length:=by
  cases m with
  | nil=>exact absurd rfl h.ne
  | cons a t=>simp
theorem ZGZ {α:Type}(f:Nat→Nat→α)(w:Nat)(hw:1≤w):∀ h:Nat,(ZHP f h w).flatten=(List.range (h*w)).map fun i=>f (i / w) (i%w)
  | 0=>by simp [ZHP]
  | h+1=>by
    have ih:=ZGZ f w hw h
    unfold ZHP at ih ⊢
    rw [List.range_succ,List.map_append,List.flatten_append,ih,Nat.succ_mul,List.range_add,List.map_append,List.map_map]
    congr 1
    rw [List.map_cons,List.map_nil,List.flatten_cons,List.flatten_nil,List.append_nil]
    refine List.map_congr_left fun k hk=>?_
    have hk':k<w:=List.mem_range.mp hk
    show f h k=f ((h*w+k) / w) ((h*w+k)%w)
    rw [Nat.mul_comm h w,Nat.mul_add_div (by omega),Nat.div_eq_of_lt hk',Nat.add_zero,Nat.mul_add_mod,Nat.mod_eq_of_lt hk']
theorem ZKj {α:Type}(f:Nat→Nat→α){w:Nat}(hw:1≤w)(h:Nat):ZEI ((List.range (h*w)).map fun i=>f (i / w) (i%w)) w h=ZHP f h w:=by
  unfold ZEI ZHP
  refine List.map_congr_left fun j hj=>?_
  have hj':j<h:=List.mem_range.mp hj
  refine List.ext_getElem? fun k=>?_
  by_cases hk:k<w
  · rw [List.getElem?_take,if_pos hk,List.getElem?_drop,List.getElem?_map,List.getElem?_map,List.getElem?_range hk]
    have:j*w+k<h*w:=by
      have:=Nat.mul_le_mul_right w (show j+1≤h from hj')
      rw [Nat.succ_mul] at this
      omega
    rw [List.getElem?_range this]
    show some (f ((j*w+k) / w) ((j*w+k)%w))=some (f j k)
    rw [Nat.mul_comm j w,Nat.mul_add_div (by omega),Nat.div_eq_of_lt hk,Nat.add_zero,Nat.mul_add_mod,Nat.mod_eq_of_lt hk]
  · rw [List.getElem?_take,if_neg hk,List.getElem?_eq_none (by rw [List.length_map,List.length_range];omega)]
theorem ZLw {α:Type}(d:α){m:List (List α)}{w:Nat}(rc:ZD1 m w):ZHP (cy d m) m.length w=m:=by
  refine List.ext_getElem? fun j=>?_
  by_cases hj:j<m.length
  · rw [ZLv hj,List.getElem?_eq_getElem hj]
    refine congrArg some (List.ext_getElem? fun k=>?_)
    have lm:=rc.row _ (List.getElem_mem hj)
    by_cases hk:k<w
    · rw [List.getElem?_map,List.getElem?_range hk,List.getElem?_eq_getElem (by omega)]
      refine congrArg some ?_
      show (m.getD (j%m.length) []).getD (k%(m.headD []).length) d=_
      rw [rc.wd,Nat.mod_eq_of_lt hj,Nat.mod_eq_of_lt hk,List.getD_eq_getElem?_getD,List.getD_eq_getElem?_getD,List.getElem?_eq_getElem hj,Option.getD_some,List.getElem?_eq_getElem (by omega),Option.getD_some]
    · rw [List.getElem?_eq_none (by rw [List.length_map,List.length_range];omega),List.getElem?_eq_none (by omega)]
  · rw [List.getElem?_eq_none (by rw [ZE2];omega),List.getElem?_eq_none (by omega)]
theorem ZLx {α:Type}(f:Nat→Nat→α)(x:α)(h w:Nat)(e:∀ j k,f j k=x):ZHP f h w=ZLq h w x:=by
  unfold ZHP ZLq
  rw [show (fun j=>(List.range w).map (f j))=fun _=>List.replicate w x from funext fun j=>by
    rw [show f j=fun _=>x from funext (e j),List.map_const',List.length_range],List.map_const',List.length_range]
theorem ZKk {m:List (List V)}{w h2 w2:Nat}(rc:ZD1 m w)(c:(m.length=h2∧w=w2)∨(m.length=1∧w=1)):ZH7 m w h2 w2=ZHP (cy .non m) h2 w2:=by
  by_cases e:(m.length,w)=(1,1)
  · unfold ZH7
    rw [if_pos e]
    have e1:m.length=1:=congrArg Prod.fst e
    have e2:w=1:=congrArg Prod.snd e
    refine (ZLx _ _ _ _ fun j k=>?_).symm
    show (m.getD (j%m.length) []).getD (k%(m.headD []).length) .non=(m.headD []).headD .non
    rw [rc.wd,e1,e2,Nat.mod_one,Nat.mod_one]
    cases m with
    | nil=>rfl
    | cons a t=>cases a <;> rfl
  · unfold ZH7
    rw [if_neg e]
    rcases c with ⟨rfl,rfl⟩ | ⟨c1,c2⟩
    · exact (ZLw _ rc).symm
    · exact absurd (by rw [c1,c2]) e
theorem ZFT {α β:Type}{F:α→β→Prop}{d:α}{d':β}{m:List (List α)}{n:List (List β)}{w:Nat}(p:Paired (Paired F) m n)(rc:ZD1 n w)(j k:Nat):F (cy d m j k) (cy d' n j k):=by
  have l1:=Paired.length p
  have hn:=rc.len
  have hj:j%n.length<n.length:=Nat.mod_lt _ (by omega)
  obtain ⟨r,hr,pr⟩:=ZE0 p (List.getElem?_eq_getElem hj)
  have lw:=rc.row _ (List.getElem_mem hj)
  have w1:=rc.w1
  have hk:k%w<(n[j%n.length]).length:=by rw [lw];exact Nat.mod_lt _ (by omega)
  obtain ⟨x,hx,fx⟩:=ZE0 pr (List.getElem?_eq_getElem hk)
  have wm:(m.headD []).length=w:=by
    rw [← rc.wd]
    cases p with
    | nil=>exact absurd rfl rc.ne
    | cons a _=>exact Paired.length a
  unfold cy
  rw [l1,wm,rc.wd,List.getD_eq_getElem?_getD (l:=m),hr,Option.getD_some,List.getD_eq_getElem?_getD (l:=r),hx,Option.getD_some,List.getD_eq_getElem?_getD (l:=n),List.getElem?_eq_getElem hj,Option.getD_some,List.getD_eq_getElem?_getD,List.getElem?_eq_getElem hk,Option.getD_some]
  exact fx
theorem ZDO {α β:Type}{F:α→β→Prop}{m:List (List α)}{n:List (List β)}{w:Nat}(p:Paired (Paired F) m n)(rc:ZD1 n w):ZD1 m w:=by
  refine ⟨fun z=>?_,rc.w1,fun r hr=>?_⟩
  · have:=Paired.length p
    have:=rc.len
    rw [z] at *;simp at *;omega
  · obtain ⟨j,hj⟩:=List.getElem?_of_mem hr
    obtain ⟨mr,hmr,pv⟩:=ZBA p hj
    rw [Paired.length pv];exact rc.row mr (List.mem_of_getElem? hmr)
def ZQ9 {α β:Type}(m:List (List α))(n:List (List β)):Prop:=(m.length=n.length∧wd m=wd n)∨(n.length=1∧wd n=1)∨(m.length=1∧wd m=1)
def opT (s:Str)(m n:List (List Vl))(hm:Hm):List (List Vl):=ZHP (fun j k=>opM s (cy .none m j k) (cy .none n j k) hm) (max m.length n.length) (max (wd m) (wd n))
theorem ZSL {a b:Nat}(h:b=1)(g:1≤a):max a b=a:=Nat.max_eq_left (h▸g)
theorem ZSM {a b:Nat}(h:a=1)(g:1≤b):max a b=b:=Nat.max_eq_right (h▸g)
theorem ZNW {a b c d:Nat}(ft:(a=c∧b=d)∨(c=1∧d=1)∨(a=1∧b=1))(a1:1≤a)(b1:1≤b)(c1:1≤c)(d1:1≤d):((a=max a c∧b=max b d)∨(a=1∧b=1))∧((c=max a c∧d=max b d)∨(c=1∧d=1))∧fit ((a:Int),(b:Int)) ((c:Int),(d:Int))=some (((max a c:Nat):Int),((max b d:Nat):Int)):=by
  rcases ft with ⟨rfl,rfl⟩ | ⟨rfl,rfl⟩ | ⟨rfl,rfl⟩
  · rw [Nat.max_self,Nat.max_self]
    exact ⟨.inl ⟨rfl,rfl⟩,.inl ⟨rfl,rfl⟩,if_pos rfl⟩
  · rw [ZSL rfl a1,ZSL rfl b1]
    refine ⟨.inl ⟨rfl,rfl⟩,.inr ⟨rfl,rfl⟩,?_⟩
    unfold fit
    split
    · rfl
    · exact if_pos rfl
  · rw [ZSM rfl c1,ZSM rfl d1]
    refine ⟨.inr ⟨rfl,rfl⟩,.inl ⟨rfl,rfl⟩,?_⟩
    unfold fit
    split
    · rename_i e;rw [e]
    · split
      · rename_i e;rw [e];rfl
      · exact if_pos rfl
theorem ZSN {K:PySem.W.Frag}{H:Hp}{s:Str}{x y z:V}{hm:Hm}{mu nu:List (List V)}{m n:List (List Vl)}{w1 w2:Nat}{Q:VK}{E:XK}(hx:ZCE H x mu)(hy:ZCE H y nu)(rm:ZD1 mu w1)(rn:ZD1 nu w2)(lm:mu.length=m.length)(ln:nu.length=n.length)(wm:wd m=w1)(wn:wd n=w2)(ft:ZQ9 m n)
    (b1:m.length≤30) (b2:n.length≤30) (b3:w1≤30) (b4:w2≤30) (hz:ZEH H z hm) (key:∀ j k,ZNq K s hm H (cy .non mu j k) (cy .non nu j k) (opM s (cy .none m j k) (cy .none n j k) hm)) (k:∀ w H',ZD0 H' w (opT s m n hm)→ZAM H H'→Q w H'):ZOz K [.str s,x,y,z] H Q E:=by
  have g1:=rm.len;have g2:=rn.len;have g3:=rm.w1;have g4:=rn.w1
  obtain ⟨cm,cn,fit'⟩:=ZNW (a:=mu.length) (b:=w1) (c:=nu.length) (d:=w2) (by rw [lm,ln,← wm,← wn];exact ft) g1 g3 g2 g4
  obtain ⟨h,hh⟩:∃ h,h=max mu.length nu.length:=⟨_,rfl⟩
  obtain ⟨w,hw⟩:∃ w,w=max w1 w2:=⟨_,rfl⟩
  have hT:opT s m n hm=ZHP (fun j k=>opM s (cy .none m j k) (cy .none n j k) hm) h w:=by unfold opT;rw [hh,hw,lm,ln,wm,wn]
  have h1:1≤h:=hh▸Nat.le_trans g1 (Nat.le_max_left _ _)
  have w1':1≤w:=hw▸Nat.le_trans g3 (Nat.le_max_left _ _)
  have h3:h≤30:=hh▸Nat.max_le.mpr ⟨lm▸b1,ln▸b2⟩
  have w3:w≤30:=hw▸Nat.max_le.mpr ⟨b3,b4⟩
  rw [← hh,← hw] at cm cn fit'
  rw [hT] at k
  have em:=ZKk (h2:=h) (w2:=w) rm cm
  have en:=ZKk (h2:=h) (w2:=w) rn cn
  refine ⟨s,x,y,z,mu,nu,w1,w2,h,w,hm,(List.range (h*w)).map fun i=>opM s (cy .none m (i / w) (i%w)) (cy .none n (i / w) (i%w)) hm,rfl,hx,hy,rm,rn,fit',by rw [em,ZE2],by rw [em];exact ZHQ h1 w1',by rw [en,ZE2],by rw [en];exact ZHQ h1 w1',h1,by omega,w1',by omega,hz,by rw [List.length_map,List.length_range],fun i u v r q1 q2 q3=>?_,fun u H' hu s'=>k u H' ?_ s'⟩
  · have hi:i<h*w:=by
      have:=(List.getElem?_eq_some_iff.mp q3).1
      rwa [List.length_map,List.length_range] at this
    rw [em,ZGZ _ _ w1',List.getElem?_map,List.getElem?_range hi] at q1
    rw [en,ZGZ _ _ w1',List.getElem?_map,List.getElem?_range hi] at q2
    rw [List.getElem?_map,List.getElem?_range hi] at q3
    cases q1;cases q2;cases q3
    exact key _ _
  · rw [← ZKj _ w1' h]
    exact hu
def ZSO (dom:Str→Int→Int→Prop)(g:Str→Int→Int→Vl)(l:Lf):Prop:=(∃ z c d,ZFQ dom l z c d)∧∀ r∈lfT g l,∀ v∈r,ZBi v
theorem ZNX {m:List (List Vl)}{w:Nat}(rc:ZD1 m w)(h:∀ r∈m,∀ v∈r,ZBi v)(j k:Nat):ZBi (cy .none m j k):=by
  have hn:=rc.len
  have w1:=rc.w1
  have hj:j%m.length<m.length:=Nat.mod_lt _ (by omega)
  have lw:=rc.row _ (List.getElem_mem hj)
  have hk:k%w<(m[j%m.length]).length:=by rw [lw];exact Nat.mod_lt _ (by omega)
  unfold cy
  rw [rc.wd,List.getD_eq_getElem?_getD,List.getD_eq_getElem?_getD,List.getElem?_eq_getElem hj,Option.getD_some,List.getElem?_eq_getElem hk,Option.getD_some]
  exact h _ (List.getElem_mem hj) _ (List.getElem_mem hk)
theorem ZIm {α:Type}{d x:α}(j k:Nat):cy d [[x]] j k=x:=by
  unfold cy
  rw [show ([[x]]:List (List α)).length=1 from rfl,show (([[x]]:List (List α)).headD []).length=1 from rfl,Nat.mod_one,Nat.mod_one]
  rfl
theorem ZRA {α:Type}(u:α):ZD1 [[u]] 1:=⟨by simp,by decide,fun r hr=>by rw [List.mem_singleton.mp hr];rfl⟩
theorem mk1 {H:Hp}{a t:Addr}{kd:Kd}{u:V}{f:Fm}(h:H a=some (.tup (ZNo t kd [u])))(no:ZHx kd=false)(x:ZB4 H u f):ZB4 H (.ref a) (.nd kd [f]):=
  .nd h (fun z=>by rw [no] at z;cases z) rfl fun j u' f' e1 e2=>by
    match j with
    | 0=>cases e1;cases e2;exact x
    | n+1=>simp at e1
theorem mk2 {H:Hp}{a t:Addr}{kd:Kd}{u v:V}{f g:Fm}(h:H a=some (.tup (ZNo t kd [u,v])))(no:ZHx kd=false)(x:ZB4 H u f)(y:ZB4 H v g):ZB4 H (.ref a) (.nd kd [f,g]):=
  .nd h (fun z=>by rw [no] at z;cases z) rfl fun j u' f' e1 e2=>by
    match j with
    | 0=>cases e1;cases e2;exact x
    | 1=>cases e1;cases e2;exact y
    | n+2=>simp at e1
structure D3 (H:Hp)(p:Addr)(l:Addr)(bs:List Addr)(rows:List (List V))(h w:Nat):Prop where
  ob:H l=some (.lst (bs.map V.ref))
  lp:l≠p
  np:p∉bs
  ls:ZMT H bs rows
  len:rows.length=h
  h1:1≤h
  h16:h≤16
  w1:1≤w
  w8:w≤8
  row:∀ r∈rows,r.length=w
def ZKl (p q:Addr)(H H':Hp):Prop:=∀ b o,b≠p→b≠q→H b=some o→H' b=some o
theorem ZKl.kp {p q:Addr}{H H':Hp}{vs:List V}{kvs:List (List Key×V)}(s:ZKl p q H H')(hp:H p=some (.lst vs))(hq:H q=some (.dT kvs)):Kp H H':=fun a xs e=>s a _ (ZCH e hp (by intro z;cases z)) (ZCH e hq (by intro z;cases z)) e
def ZGa (H:Hp)(kvs:List (List Key×V))(z:Str)(rows:List (List V))(h w:Nat)(u:V):Prop:=∃ (a:Addr) (lf:Lf) (c d:Cor) (hi wi:Int),u=.ref a∧ZGt H a lf∧lfB lf=some (z,c,d)∧c.r=hi+1∧c.c=wi+1∧d.r=hi+h∧d.c=wi+w∧0≤hi∧hi+h≤16∧0≤wi∧wi+w≤8∧ZH5 kvs z hi wi rows h 0
theorem ZH5.els {kvs kvs':List (List Key×V)}{z z':Str}{hi wi:Int}{rows:List (List V)}{i j:Nat}(h:ZH5 kvs z hi wi rows i j)(e:ZLn kvs kvs' z')(n:z≠z'):ZH5 kvs' z hi wi rows i j:=fun a b row v h1 h2 h3=>by
  rw [e _ (fun q=>n (by injection q with q;injection q))]
  exact h a b row v h1 h2 h3
theorem ZGa.step {H H':Hp}{kvs kvs':List (List Key×V)}{z z':Str}{rows:List (List V)}{h w:Nat}{u:V}(x:ZGa H kvs z rows h w u)(kp:Kp H H')(e:ZLn kvs kvs' z')(n:z≠z'):ZGa H' kvs' z rows h w u:=by
  obtain ⟨a,lf,c,d,hi,wi,h1,h2,h3,h4,h5,h6,h7,h8,h9,h10,h11,h12⟩:=x
  exact ⟨a,lf,c,d,hi,wi,h1,ZGt.kp h2 kp,h3,h4,h5,h6,h7,h8,h9,h10,h11,h12.els e n⟩
theorem ZGa.kp {H H':Hp}{kvs:List (List Key×V)}{z:Str}{rows:List (List V)}{h w:Nat}{u:V}(x:ZGa H kvs z rows h w u)(kp:Kp H H'):ZGa H' kvs z rows h w u:=by
  obtain ⟨a,lf,c,d,hi,wi,h1,h2,r⟩:=x
  exact ⟨a,lf,c,d,hi,wi,h1,ZGt.kp h2 kp,r⟩
structure Dt where
  z:Str
  l:Addr
  bs:List Addr
  rows:List (List V)
  h:Nat
  w:Nat
def SmF (H H':Hp):Prop:=∀ b o,H b=some o→dat o=false→H' b=some o
theorem ZD3 {H H':Hp}{P:Addr}{q:Str}(x:ZCI H P q)(s:SmF H H'):ZCI H' P q:=by
  obtain ⟨ps,e,t,k⟩:=x
  refine ⟨ps,s _ _ e rfl,t,fun pos cv z=>?_⟩
  obtain ⟨c,e1,e2⟩:=k pos cv z
  exact ⟨c,e1,e2.keep fun b o h=>s b _ h rfl⟩
theorem SmF.kx {H H':Hp}{p:Addr}{vs:List V}(hp:H p=some (.lst vs))(s:ZAl p H H'):SmF H H':=fun b o e d=>s b o (fun z=>by subst z;rw [hp] at e;cases e;cases d) e
def qL:Str:=Str.ofString "law"++Str.ofString ".<locals>."++Str.ofString "<lambda>"
structure ZFh (K:PySem.W.Frag)(S:Addr×List Int)(PR PL:Addr)(H:Hp)(p:Addr)(n:Nat):Prop where
  pen:ZDN K S H p n
  tR:ZCI H PR qR
  tL:ZCI H PL qL
section
variable {K:PySem.W.Frag}{S:Addr×List Int}{PR PL p:Addr}{H H':Hp}{n n':Nat}
theorem ZFh.kx (h:ZFh K S PR PL H p n)(pen:ZDN K S H' p n')(kp:ZAl p H H'):ZFh K S PR PL H' p n':=by
  obtain ⟨_,e⟩:=h.pen.ob
  exact ⟨pen,ZD3 h.tR (SmF.kx e kp),ZD3 h.tL (SmF.kx e kp)⟩
theorem ZFh.same (h:ZFh K S PR PL H p n)(s:ZAM H H'):ZFh K S PR PL H' p n:=⟨h.pen.same s,h.tR.sm s,h.tL.sm s⟩
theorem ZFh.mono (h:ZFh K S PR PL H p n)(s:n≤n'):ZFh K S PR PL H p n':=⟨h.pen.mono s,h.tR,h.tL⟩
theorem ZFh.row {b q:Addr}{r:List V}{o:HO}(h:ZFh K S PR PL H p n)(hb:H b=some (.lst (.ref q::r)))(ne:b≠p):ZFh K S PR PL (upd H b o) p n:=by
  obtain ⟨⟨x,c,r',e,sq,z⟩,t1,t2⟩:=h
  exact ⟨⟨x,c,r',by rw [ZAa (Ne.symm ne)];exact e,SqL.kl sq hb ZAl.upd,z⟩,ZD3 t1 (SmF.kx hb ZAl.upd),ZD3 t2 (SmF.kx hb ZAl.upd)⟩
end
theorem iteJ {b:Bool}{t:TS}{D:ZHd}{σ:St}{H:Hp}(J:St→Hp→Prop)(c:¬ b=true→J σ H)(a:b=true→(∀ σ' H',J σ' H'→D.nx σ' H')→t D σ H)(ZEu:∀ σ' H',J σ' H'→D.nx σ' H'):if b=true then t D σ H else D.nx σ H:=
  ZDJ (fun h=>a h ZEu) fun h=>ZEu _ _ (c h)
theorem ZLy {q:Str}{P:Addr}{H H':Hp}(h:ZAl P (L2.del q H) H'):ZAl P H (L2.put q H H'):=fun b o hb e=>by
  cases w:kn q (H b) with
  | none=>rw [ZCJ w];exact h b o hb (by rw [ZFJ w];exact e)
  | some u=>
    rw [ZIX w]
    rw [ZFI w] at e
    exact e
theorem ZMY {H H':Hp}{P P':Addr}{q:Str}{ps:Array Value}(x:ZCI H P q)(ne:P≠P')(hp:H P'=some (.tbl ps))(s:ZAl P' H H'):ZCI H' P q:=by
  obtain ⟨ps',e,t,k⟩:=x
  refine ⟨ps',s _ _ ne e,t,fun pos cv z=>?_⟩
  obtain ⟨c,e1,e2⟩:=k pos cv z
  exact ⟨c,e1,e2.keep fun b o h=>s _ _ (ZCH h hp (by intro z;cases z)) h⟩
theorem ZNY {H:Hp}{P:Addr}{q q':Str}(x:ZCI H P q)(n:(q==q')=false):ZCI (L2.del q' H) P q:=by
  obtain ⟨ps',e,t,k⟩:=x
  refine ⟨ps',ZF7 e rfl,t,fun pos cv z=>?_⟩
  obtain ⟨c,e1,o,vs,tk,e2,d,w⟩:=k pos cv z
  exact ⟨c,e1,o,vs,tk,by rw [ZFJ (ZOW e2 ((ZIW d w).trans n))];exact e2,d,w⟩
theorem ZLz {H H':Hp}{P:Addr}{q q':Str}(x:ZCI H' P q)(n:∀ b o,kn q' (H b)=some o→H' b=none):ZCI (L2.put q' H H') P q:=by
  have po:∀ b o,H' b=some o→L2.put q' H H' b=some o:=fun b o e=>by
    cases w:kn q' (H b) with
    | none=>rw [ZCJ w];exact e
    | some u=>rw [n b u w] at e;cases e
  exact x.sm po
theorem qRL:(qR==qL)=false:=by decide +kernel
def DpF (kn:Addr)(dom:Str→Int→Int→Prop)(g:Str→Int→Int→Vl)(H:Hp):Prop:=∃ kvs,H kn=some (.dT kvs)∧∀ z r c,dom z r c→∃ x,ZDh kvs (cK z r c)=some x∧ZBT H x (g z r c)
theorem DpF.smd {kn:Addr}{dom:Str→Int→Int→Prop}{g:Str→Int→Int→Vl}{H H':Hp}(s:SmD H H')(h:DpF kn dom g H):DpF kn dom g H':=by
  obtain ⟨kvs,e,k⟩:=h
  refine ⟨kvs,s _ _ e rfl,fun z r c d=>?_⟩
  obtain ⟨x,h1,h2⟩:=k z r c d
  exact ⟨x,h1,h2.kp s.kp⟩
theorem ZNZ {dom:Str→Int→Int→Prop}{lf:Lf}{z:Str}{c d:Cor}{hi wi:Int}{h w:Nat}(b:lfB lf=some (z,c,d))(nm:Nm z)(k7:c.r=hi+1)(k8:c.c=wi+1)(k9:d.r=hi+h)(k10:d.c=wi+w)(k11:0≤hi)(k12:hi+h≤16)(k13:0≤wi)(k14:wi+w≤8)(h1:1≤h)(w1:1≤w)
    (dm:∀ i j:Int,hi+1≤i→i≤hi+h→wi+1≤j→j≤wi+w→dom z i j):ZFQ dom lf z c d:=
  ⟨b,nm,by omega,by omega,by omega,by omega,by omega,by omega,fun i j x1 x2 x3 x4=>dm i j (by omega) (by omega) (by omega) (by omega)⟩
theorem ZO1 {g:Str→Int→Int→Vl}{lf:Lf}{z:Str}{c d:Cor}{hi wi:Int}{h w:Nat}(b:lfB lf=some (z,c,d))(k7:c.r=hi+1)(k8:c.c=wi+1)(k9:d.r=hi+h)(k10:d.c=wi+w):lfT g lf=blk g z (hi+1) (wi+1) h w:=by
  unfold lfT
  rw [b]
  dsimp only
  rw [k7,k8,k9,k10,show (hi+h-(hi+1)+1).toNat=h by omega,show (wi+w-(wi+1)+1).toNat=w by omega]
theorem ZRB {dom:Str→Int→Int→Prop}{lf:Lf}{z:Str}{c d:Cor}(h:ZFQ dom lf z c d):ZPS 0 lf:=by
  have g1:=h.r0;have g2:=h.r1;have g3:=h.r16;have g4:=h.c0;have g5:=h.c1;have g6:=h.c8;have nm:=h.nm;have b:=h.b
  cases lf with
  | cell s c'=>
    cases s with
    | none=>cases b
    | some z'=>cases b;exact ⟨nm,⟨g1,by omega,g4,by omega⟩⟩
  | rng s c' d'=>
    cases s with
    | none=>cases b
    | some z'=>cases b;exact ⟨nm,⟨g1,by omega,g4,by omega⟩,⟨by omega,g3,by omega,g6⟩,g2,g5⟩
  | val v=>cases b
  | cols s i x j y=>cases b
  | gone=>cases b
  | nam z=>cases b
  | par i=>cases b
  | flt=>cases b
def ZL0 (s n:Int×Int):Int×Int:=(s.1*n.2+n.1*s.2,s.2*n.2)
def fsl (l:List (Int×Int)):Int×Int:=l.foldl ZL0 (0,1)
def Sm (c:Int→Int)(l:List (Int×Int)):Int:=(l.map fun n=>n.1*c n.2).sum
theorem ZL1 {l:List (Int×Int)}{n:Int×Int}:fsl (l++[n])=ZL0 (fsl l) n:=by unfold fsl;rw [List.foldl_append];rfl
theorem ZMZ {c:Int→Int}{B:Int}:∀ (l:List (Int×Int)) (s:Int×Int) (X:Int),(∀ n∈l,n.2*c n.2=B)→s.1*B=X*s.2→(l.foldl ZL0 s).1*B=(X+Sm c l)*(l.foldl ZL0 s).2
  | [],s,X,_,h=>by simp [Sm,h]
  | n::t,s,X,hc,h=>by
    rw [List.foldl_cons]
    have hn:=hc n List.mem_cons_self
    have:=ZMZ t (ZL0 s n) (X+n.1*c n.2) (fun m hm=>hc m (List.mem_cons_of_mem _ hm)) (by
      show (s.1*n.2+n.1*s.2)*B=(X+n.1*c n.2)*(s.2*n.2)
      calc (s.1*n.2+n.1*s.2)*B=(s.1*B)*n.2+n.1*s.2*B:=by rw [Int.add_mul];congr 1;rw [Int.mul_assoc,Int.mul_assoc,Int.mul_comm n.2 B]
        _=(X*s.2)*n.2+n.1*s.2*(n.2*c n.2):=by rw [h,hn]
        _=(X+n.1*c n.2)*(s.2*n.2):=by
          rw [Int.add_mul]
          congr 1
          · rw [Int.mul_assoc]
          · ac_rfl)
    rw [this]
    congr 1
    unfold Sm
    rw [List.map_cons,List.sum_cons]
    omega
theorem ZO2 {c:Int→Int}{B:Int}{l:List (Int×Int)}(h:∀ n∈l,n.2*c n.2=B):(fsl l).1*B=Sm c l*(fsl l).2:=by
  have:=ZMZ l (0,1) 0 h (by simp)
  rw [Int.zero_add] at this
  exact this
theorem ZIn:∀ (l:List (Int×Int)) (s:Int×Int),(∀ n∈l,0<n.2)→0<s.2→0<(l.foldl ZL0 s).2
  | [],_,_,h=>h
  | n::t,s,hc,h=>by
    rw [List.foldl_cons]
    exact ZIn t _ (fun m hm=>hc m (List.mem_cons_of_mem _ hm)) (Int.mul_pos h (hc n List.mem_cons_self))
theorem ZGb {l:List (Int×Int)}(h:∀ n∈l,0<n.2):0<(fsl l).2:=ZIn l _ h (by decide)
def ZGc:List (Int×Int)→Int→Int→List (Int×Int)
  | [],b,v=>[(b,v)]
  | (k,s)::r,b,v=>if k=b then (k,v)::r else (k,s)::ZGc r b v
def ZC6:List (Int×Int)→Int→Option Int
  | [],_=>none
  | (k,s)::r,b=>if k=b then some s else ZC6 r b
def sw (d:Int×Int):Int×Int:=(d.2,d.1)
def dK (ds:List (Int×Int)):List (Key×V):=ds.map fun d=>(Sum.inl d.1,V.int d.2)
theorem ZIo:∀ (ds:List (Int×Int)) (b:Int),ZDh (dK ds) (.inl b:Key)=(ZC6 ds b).map V.int
  | [],b=>rfl
  | (k,s)::r,b=>by
    have ih:=ZIo r b
    unfold ZC6
    by_cases e:k=b
    · rw [if_pos e]
      exact ZBl (p:=((.inl k:Key),V.int s)) (by rw [e])
    · rw [if_neg e,← ih]
      exact ZBf (p:=((.inl k:Key),V.int s)) (fun z=>e (Sum.inl.inj z))
theorem ZIp:∀ (ds:List (Int×Int)) (b v:Int),(ds.map (·.1)).Nodup→((ZGc ds b v).map (·.1)).Nodup∧∀ x,x∈(ZGc ds b v).map (·.1)→x=b∨x∈ds.map (·.1)
  | [],b,v,_=>⟨by simp [ZGc],by simp [ZGc]⟩
  | (k,s)::r,b,v,nd=>by
    rw [List.map_cons,List.nodup_cons] at nd
    obtain ⟨h1,h2⟩:=ZIp r b v nd.2
    unfold ZGc
    by_cases e:k=b
    · rw [if_pos e]
      refine ⟨by rw [List.map_cons,List.nodup_cons];exact nd,fun x hx=>.inr ?_⟩
      simpa using hx
    · rw [if_neg e]
      refine ⟨?_,fun x hx=>?_⟩
      · rw [List.map_cons,List.nodup_cons]
        refine ⟨fun z=>?_,h1⟩
        rcases h2 _ z with z | z
        · exact e z
        · exact nd.1 z
      · rw [List.map_cons,List.mem_cons] at hx
        rcases hx with hx | hx
        · exact .inr (by rw [List.map_cons,List.mem_cons];exact .inl hx)
        · rcases h2 x hx with z | z
          · exact .inl z
          · exact .inr (by rw [List.map_cons,List.mem_cons];exact .inr z)
theorem ZO3:∀ (ds:List (Int×Int)) (b:Int),((dK ds).any fun kv=>decide (kv.1=(.inl b:Key)))=(ZC6 ds b).isSome:=fun ds b=>by
  rw [ZEF,ZIo]
  cases ZC6 ds b <;> rfl
theorem ZMa:∀ (ds:List (Int×Int)) (b v:Int),b∉ds.map (·.1)→((dK ds).map fun kv=>if kv.1=(.inl b:Key) then (kv.1,V.int v) else kv)=dK ds
  | [],_,_,_=>rfl
  | (k,s)::r,b,v,h=>by
    rw [List.map_cons,List.mem_cons,not_or] at h
    have ih:=ZMa r b v h.2
    show ((if ((.inl k:Key),V.int s).1=(.inl b:Key) then _ else _)::(dK r).map _)=_
    rw [if_neg (fun z=>h.1 (Sum.inl.inj z).symm),ih]
    rfl
theorem ZMb:∀ (ds:List (Int×Int)) (b v:Int),(ds.map (·.1)).Nodup→ZGM (dK ds) (.inl b:Key) (.int v)=dK (ZGc ds b v)
  | [],b,v,_=>rfl
  | (k,s)::r,b,v,nd=>by
    have nd':=nd
    rw [List.map_cons,List.nodup_cons] at nd
    have ih:=ZMb r b v nd.2
    unfold ZGM at ih ⊢
    rw [ZO3] at ih ⊢
    unfold ZGc ZC6
    by_cases e:k=b
    · rw [if_pos e,if_pos e,Option.isSome_some,if_pos rfl]
      show ((if ((.inl k:Key),V.int s).1=(.inl b:Key) then _ else _)::(dK r).map _)=_
      rw [if_pos (by rw [e]),ZMa r b v (e▸nd.1)]
      rfl
    · rw [if_neg e,if_neg e]
      by_cases c:(ZC6 r b).isSome=true
      · rw [if_pos c] at ih ⊢
        show ((if ((.inl k:Key),V.int s).1=(.inl b:Key) then _ else _)::(dK r).map _)=_
        rw [if_neg (fun z=>e (Sum.inl.inj z)),ih]
        rfl
      · rw [if_neg c] at ih ⊢
        show ((.inl k:Key),V.int s)::(dK r++_)=_
        rw [ih]
        rfl
theorem ZO4 {c:Int→Int}:∀ (ds:List (Int×Int)) (b t:Int),Sm c ((ZGc ds b ((ZC6 ds b).getD 0+t)).map sw)=Sm c (ds.map sw)+t*c b
  | [],b,t=>by simp [ZGc,ZC6,Sm,sw]
  | (k,s)::r,b,t=>by
    have ih:=ZO4 (c:=c) r b t
    unfold ZGc ZC6
    by_cases e:k=b
    · rw [if_pos e,if_pos e,Option.getD_some]
      subst e
      show Sm c ((s+t,k)::r.map sw)=Sm c ((s,k)::r.map sw)+_
      unfold Sm
      rw [List.map_cons,List.sum_cons,List.map_cons,List.sum_cons]
      show (s+t)*c k+_=s*c k+_+_
      rw [Int.add_mul]
      omega
    · rw [if_neg e,if_neg e]
      show Sm c (sw (k,s)::(ZGc r b _).map sw)=Sm c (sw (k,s)::r.map sw)+_
      unfold Sm at ih ⊢
      rw [List.map_cons,List.sum_cons,List.map_cons,List.sum_cons,ih]
      omega
theorem ZKm:∀ (ds:List (Int×Int)) (b v:Int),(ZGc ds b v).length≤ds.length+1
  | [],_,_=>by simp [ZGc]
  | (k,s)::r,b,v=>by
    unfold ZGc
    have:=ZKm r b v
    split
    · simp
    · simp only [List.length_cons];omega
theorem ZKn:∀ (ds:List (Int×Int)) (b v:Int) (d:Int×Int),d∈ZGc ds b v→d∈ds∨d=(b,v)
  | [],b,v,d,h=>.inr (by simpa [ZGc] using h)
  | (k,s)::r,b,v,d,h=>by
    unfold ZGc at h
    by_cases e:k=b
    · rw [if_pos e] at h
      rcases List.mem_cons.mp h with h | h
      · exact .inr (by rw [h,e])
      · exact .inl (List.mem_cons_of_mem _ h)
    · rw [if_neg e] at h
      rcases List.mem_cons.mp h with h | h
      · exact .inl (by rw [h];exact List.mem_cons_self)
      · rcases ZKn r b v d h with q | q
        · exact .inl (List.mem_cons_of_mem _ q)
        · exact .inr q
theorem ZIq:∀ {ds:List (Int×Int)} {b s:Int},ZC6 ds b=some s→(b,s)∈ds
  | [],_,_,h=>by cases h
  | (k,s')::r,b,s,h=>by
    unfold ZC6 at h
    by_cases e:k=b
    · rw [if_pos e] at h;cases h;rw [← e];exact List.mem_cons_self
    · rw [if_neg e] at h;exact List.mem_cons_of_mem _ (ZIq h)
theorem ZKo:∀ {ds:List (Int×Int)} {d:Int×Int},(ds.map (·.1)).Nodup→d∈ds→ZC6 ds d.1=some d.2
  | [],_,_,h=>by cases h
  | (k,s)::r,d,nd,h=>by
    rw [List.map_cons,List.nodup_cons] at nd
    unfold ZC6
    rcases List.mem_cons.mp h with rfl | h
    · rw [if_pos rfl]
    · rw [if_neg (fun z=>nd.1 (by show k∈_;rw [z];exact List.mem_map.mpr ⟨d,h,rfl⟩))]
      exact ZKo nd.2 h
def prB (l:List (Int×Int)):Int:=(l.map fun n=>n.2).foldl (·*·) 1
theorem ZE3:∀ (l:List Int) (a:Int),l.foldl (·*·) a=a*l.foldl (·*·) 1
  | [],a=>by simp
  | b::t,a=>by
    rw [List.foldl_cons,List.foldl_cons,ZE3 t (a*b),ZE3 t (1*b),Int.one_mul,Int.mul_assoc]
theorem ZMc:∀ {l:List (Int×Int)} {n:Int×Int},n∈l→n.2 ∣ prB l
  | m::t,n,h=>by
    unfold prB
    rw [List.map_cons,List.foldl_cons,ZE3]
    rcases List.mem_cons.mp h with rfl | h
    · rw [Int.one_mul];exact Int.dvd_mul_right _ _
    · exact Int.dvd_mul_of_dvd_right (ZMc h)
theorem ZKp:∀ {l:List (Int×Int)},(∀ n∈l,0<n.2)→0<prB l
  | [],_=>by decide
  | m::t,h=>by
    unfold prB
    rw [List.map_cons,List.foldl_cons,ZE3,Int.one_mul]
    exact Int.mul_pos (h m List.mem_cons_self) (ZKp fun n hn=>h n (List.mem_cons_of_mem _ hn))
def cB (l:List (Int×Int))(b:Int):Int:=prB l / b
theorem ZO5 {l:List (Int×Int)}{n:Int×Int}(h:n∈l):n.2*cB l n.2=prB l:=Int.mul_ediv_cancel' (ZMc h)
theorem ZNa {c:Int→Int}{B:Int}{l m:List (Int×Int)}(hB:B≠0)(hl:∀ n∈l,n.2*c n.2=B)(hm:∀ n∈m,n.2*c n.2=B)(e:Sm c l=Sm c m):(fsl l).1*(fsl m).2=(fsl m).1*(fsl l).2:=by
  have h1:=ZO2 hl
  have h2:=ZO2 hm
  rw [e] at h1
  refine Int.eq_of_mul_eq_mul_right hB ?_
  calc (fsl l).1*(fsl m).2*B=(fsl l).1*B*(fsl m).2:=by ac_rfl
    _=Sm c m*(fsl l).2*(fsl m).2:=by rw [h1]
    _=Sm c m*(fsl m).2*(fsl l).2:=by ac_rfl
    _=(fsl m).1*B*(fsl l).2:=by rw [h2]
    _=(fsl m).1*(fsl l).2*B:=by ac_rfl
theorem ZKq {β γ:Nat}:∀ (l:List (Int×Int)) (s:Int×Int) (k:Nat),(∀ n∈l,n.1.natAbs≤2 ^ γ∧n.2.natAbs≤2 ^ β)→s.1.natAbs≤k*2 ^ (γ+β*k)→s.2.natAbs≤2 ^ (β*k)→(l.foldl ZL0 s).1.natAbs≤(k+l.length)*2 ^ (γ+β*(k+l.length))∧(l.foldl ZL0 s).2.natAbs≤2 ^ (β*(k+l.length))
  | [],s,k,_,h1,h2=>by simpa using ⟨h1,h2⟩
  | n::t,s,k,hc,h1,h2=>by
    rw [List.foldl_cons,List.length_cons,show k+(t.length+1)=(k+1)+t.length by omega]
    obtain ⟨q1,q2⟩:=hc n List.mem_cons_self
    refine ZKq t (ZL0 s n) (k+1) (fun m hm=>hc m (List.mem_cons_of_mem _ hm)) ?_ ?_
    · show (s.1*n.2+n.1*s.2).natAbs≤_
      refine Nat.le_trans (Int.natAbs_add_le _ _) ?_
      rw [Int.natAbs_mul,Int.natAbs_mul]
      have a1:=Nat.mul_le_mul h1 q2
      have a2:=Nat.mul_le_mul q1 h2
      have e1:k*2 ^ (γ+β*k)*2 ^ β=k*2 ^ (γ+β*(k+1)):=by rw [Nat.mul_assoc,← Nat.pow_add];congr 2;rw [Nat.mul_succ];omega
      have e2:2 ^ γ*2 ^ (β*k)≤2 ^ (γ+β*(k+1)):=by rw [← Nat.pow_add];exact Nat.pow_le_pow_right (by decide) (by rw [Nat.mul_succ];omega)
      rw [e1] at a1
      rw [Nat.succ_mul]
      omega
    · show (s.2*n.2).natAbs≤_
      rw [Int.natAbs_mul]
      refine Nat.le_trans (Nat.mul_le_mul h2 q2) ?_
      rw [← Nat.pow_add,Nat.mul_succ]
      exact Nat.le_refl _
theorem ZO6 {β γ:Nat}{l:List (Int×Int)}(h:∀ n∈l,n.1.natAbs≤2 ^ γ∧n.2.natAbs≤2 ^ β):(fsl l).1.natAbs≤l.length*2 ^ (γ+β*l.length)∧(fsl l).2.natAbs≤2 ^ (β*l.length):=by
  have:=ZKq l (0,1) 0 h (by simp) (by simp)
  rw [Nat.zero_add] at this
  exact this
theorem ZL2 {x:Int}{k m:Nat}(h:x.natAbs≤k*2 ^ m)(hk:k<2 ^ 10)(hm:m+10≤4000):Sz 4000 x:=by
  refine Sz.mono (m:=m+10) ?_ hm
  unfold Sz
  have h1:k*2 ^ m<2 ^ 10*2 ^ m:=(Nat.mul_lt_mul_right (Nat.two_pow_pos m)).mpr hk
  have h2:2 ^ 10*2 ^ m=2 ^ (m+10):=by rw [← Nat.pow_add,Nat.add_comm]
  omega
def ZSP:Vl→Option (Int×Int)
  | .num t b=>some (t,b)
  | _=>none
def ZDF (ms:List Vl):List (Int×Int):=ms.filterMap ZSP
def ZNr (ns:List (Int×Int))(h:Hm):Vl:=ZIl (ZDA (fsl ns).1 (fsl ns).2) (ZCz (fsl ns).1 (fsl ns).2) h
def ZEY (ms:List Vl)(h:Hm):Vl:=match ms.find? isF with
  | some v=>v
  | none=>ZNr (ZDF ms) h
def ZNs (β γ:Nat)(ns:List (Int×Int)):Prop:=(∀ n∈ns,0<n.2∧n.1.natAbs≤2 ^ γ∧n.2.natAbs≤2 ^ β)∧ns.length<900∧γ+β*ns.length≤3000
def ZRC (K:PySem.W.Frag):Sp:=fun vs H Q _=>∃ (l:Addr) (us:List V) (ms:List Vl),vs=[.ref l]∧H l=some (.lst us)∧ZEG H us ms∧us.length≤1000∧∀ (l':Addr) (ps:List V) (H':Hp),H' l'=some (.lst ps)→ZFm H' ps (ZDF ms)→ZAM H H'→Q (.ref l') H'
def ZRD:Sp:=fun vs H Q _=>∃ (l:Addr) (us:List V) (ns:List (Int×Int)) (β γ:Nat),vs=[.ref l]∧H l=some (.lst us)∧ZFm H us ns∧ZNs β γ ns∧∀ (q:Addr) (H':Hp),H' q=some (.tup [.int (ZDA (fsl ns).1 (fsl ns).2),.int (ZCz (fsl ns).1 (fsl ns).2)])→ZAM H H'→Q (.ref q) H'
def ZRE (K:PySem.W.Frag):Sp:=fun vs H Q _=>∃ (l:Addr) (us:List V) (ms:List Vl) (y:V) (hm:Hm) (β γ:Nat),vs=[.ref l,y]∧H l=some (.lst us)∧ZEG H us ms∧us.length≤1000∧ZNs β γ (ZDF ms)∧ZEH H y hm∧∀ x H',ZBT H' x (ZEY ms hm)→ZAM H H'→Q x H'
theorem ZIr {H:Hp}:∀ {us:List V} {ms:List Vl},ZEG H us ms→(ms.find? isF=none∧ZIj us ms=.non)∨∃ u v,ms.find? isF=some v∧ZIj us ms=u∧ZBT H u v∧u≠.non
  | _,_,.nil=>.inl ⟨rfl,rfl⟩
  | _,_,@Paired.cons _ _ _ u v us ms h t=>by
    by_cases c:isF v=true
    · refine .inr ⟨u,v,by rw [List.find?_cons_of_pos c],by simp [ZIj,c],h,?_⟩
      obtain ⟨q,rfl,_⟩:=h
      intro z;cases z
    · rw [List.find?_cons_of_neg c,show ZIj (u::us) (v::ms)=ZIj us ms by simp [ZIj,c]]
      exact ZIr t
theorem ZEJ {α:Type}{l:List α}{i:Nat}{x:α}(h:l[i]?=some x):l.take (i+1)=l.take i++[x]:=by rw [List.take_add_one,h];rfl
theorem ZNb {ns ds:List (Int×Int)}(hn:∀ n∈ns,0<n.2)(hd:∀ n∈ds,n.2*cB ns n.2=prB ns∧0<n.2)(e:Sm (cB ns) ds=Sm (cB ns) ns):ZDA (fsl ds).1 (fsl ds).2=ZDA (fsl ns).1 (fsl ns).2∧ZCz (fsl ds).1 (fsl ds).2=ZCz (fsl ns).1 (fsl ns).2:=by
  have p1:=ZGb (l:=ds) fun n h=>(hd n h).2
  have p2:=ZGb hn
  have p3:=ZKp hn
  exact ZOc (by omega) (by omega) (ZNa (B:=prB ns) (by omega) (fun n h=>(hd n h).1) (fun n h=>ZO5 h) e)
theorem ZKr {α β:Type}{F:α→β→Prop}:∀ {xs:List α} {ys:List β} {us:List α} {vs:List β},Paired F xs ys→Paired F us vs→Paired F (xs++us) (ys++vs):=by
  intro A B C D h g
  induction h with
  | nil=>exact g
  | cons r t ih=>exact .cons r ih
theorem ZRF {α β:Type}{F:α→β→Prop}:∀ {m:List (List α)} {n:List (List β)},Paired (Paired F) m n→Paired F m.flatten n.flatten:=by
  intro A B h
  induction h with
  | nil=>exact .nil
  | cons h t ih=>
    rw [List.flatten_cons,List.flatten_cons]
    exact ZKr h ih
def ZRG (f:List Vl→Hm→Vl):Sp:=fun vs H Q _=>∃ (x y:V) (m:List (List Vl)) (w:Nat) (hm:Hm) (β γ:Nat),vs=[x,y]∧ZD0 H x m∧ZD1 m w∧w≤30∧m.length≤30∧ZNs β γ (ZDF m.flatten)∧ZEH H y hm∧∀ z H',ZBT H' z (f m.flatten hm)→ZAM H H'→Q z H'
structure ZIs (L:Addr)(St:Hp→List Vl→Prop):Prop where
  st:∀ H H' acc,(∀ o,H L=some o→H' L=some o)→Kp H H'→St H acc→St H' acc
  ob:∀ H acc,St H acc→∃ us,H L=some (.lst us)
def ZMd (L:Addr)(Dp:Hp→Prop):Prop:=∀ H H',(∀ b o,b≠L→H b=some o→dat o=true→H' b=some o)→Kp H H'→Dp H→Dp H'
section
variable {L:Addr}{St:Hp→List Vl→Prop}{Dp:Hp→Prop}{H H':Hp}{acc:List Vl}
theorem ZIs.same (x:ZIs L St)(s:ZAM H H')(h:St H acc):St H' acc:=x.st _ _ _ (fun o e=>s _ _ e) (Kp.same s) h
theorem ZIs.smd (x:ZIs L St)(s:SmD H H')(h:St H acc):St H' acc:=by
  obtain ⟨us,e⟩:=x.ob _ _ h
  exact x.st _ _ _ (fun o e'=>by rw [e] at e';cases e';exact s _ _ e rfl) s.kp h
theorem ZIs.kp (x:ZIs L St)(h:St H acc)(s:ZAl L H H'):Kp H H':=by
  obtain ⟨_,e⟩:=x.ob _ _ h
  exact Kp.lst e s
theorem ZIs.ne (x:ZIs L St)(h:St H acc){D:Addr}(hD:H D=none):D≠L:=fun z=>by
  obtain ⟨us,e⟩:=x.ob _ _ h
  rw [← z,hD] at e;cases e
theorem ZIs.up (x:ZIs L St){D:Addr}{us vs:List V}(hD:D≠L)(e:H D=some (.lst us))(h:St H acc):St (upd H D (.lst vs)) acc:=x.st _ _ _ (fun o e'=>by rw [ZAa (Ne.symm hD)];exact e') (ZFR e) h
theorem ZMd.smd (x:ZMd L Dp)(s:SmD H H')(h:Dp H):Dp H':=x _ _ (fun b o _ e d=>s b o e d) s.kp h
theorem ZMd.kx (x:ZMd L Dp)(k:Kp H H')(s:ZAl L H H')(h:Dp H):Dp H':=x _ _ (fun b o hb e _=>s b o hb e) k h
end
def ZNc {B:Type}(L:Addr)(At:Hp→V→B→Prop)(sem:Fm→B)(lg:Fm→List Vl)(ok:Fm→Prop)(Dp:Hp→Prop)(St:Hp→List Vl→Prop):Sp:=fun vs H Q _=>∃ (v:V) (f:Fm) (l:Addr) (us:List V) (n:Nat) (acc:List Vl),vs=[v,.ref l]∧ZB4 H v f∧FO 0 n f∧ok f∧Dp H∧St H acc∧(acc++lg f).length≤1000∧H l=some (.lst us)∧Paired (At H) us ((ZFO f).map sem)∧∀ x H',At H' x (sem f)→ZAl L H H'→St H' (acc++lg f)→Q x H'
def ZKs {B:Type}(L f0:Addr)(At:Hp→V→B→Prop)(sem:Fm→B)(lg:Fm→List Vl)(ok:Fm→Prop)(Dp:Hp→Prop)(St:Hp→List Vl→Prop):Sp:=fun vs H Q _=>∃ (l:Addr) (f:Fm) (ws:List V) (n:Nat) (acc:List Vl),vs=[.ref l,.ref f0]∧H l=some (.lst ws)∧l≠L∧ZCi H ws (alF f)∧FO 0 n f∧n≤8∧(∀ g∈alF f,ok g)∧Dp H∧St H acc∧(acc++(alF f).flatMap lg).length≤1000∧∀ x H',At H' x (sem f)→ZAl L H H'→St H' (acc++(alF f).flatMap lg)→Q x H'
theorem ZHR {α β:Type}{f:α→List β}{l:List α}{i:Nat}{x:α}(h:l[i]?=some x):(l.take (i+1)).flatMap f=(l.take i).flatMap f++f x:=by rw [List.take_add_one,h,List.flatMap_append];simp
theorem ZL3 {α β:Type}(f:α→List β)(l:List α)(i:Nat)(a:List β):(a++(l.take i).flatMap f).length≤(a++l.flatMap f).length:=by
  have h:l.flatMap f=(l.take i).flatMap f++(l.drop i).flatMap f:=by rw [← List.flatMap_append,List.take_append_drop]
  rw [h]
  simp only [List.length_append]
  omega
def ZMe (Pr L f o:Addr)(Dp:Hp→Prop)(St:Hp→List Vl→Prop)(sem:Hm→Fm→List (List Vl))(lg:Hm→Fm→List Vl)(ok:Hm→Fm→Prop):Sp:=fun vs H Q _=>∃ (v y:V) (fm:Fm) (n:Nat) (hm:Hm) (acc:List Vl),vs=[v,y,.ref f,.ref o]∧ZB4 H v fm∧FO 0 n fm∧n≤8∧(∀ x∈alF fm,ok hm x)∧Dp H∧St H acc∧(acc++(alF fm).flatMap (lg hm)).length≤1000∧ZEH H y hm∧ZCI H Pr qR∧
  ∀ x H',ZD0 H' x (sem hm fm)→(∀ b o',b≠Pr→b≠L→H b=some o'→H' b=some o')→ZCI H' Pr qR→St H' (acc++(alF fm).flatMap (lg hm))→Q x H'
def ZRH (L f o:Addr)(Dp:Hp→Prop)(St:Hp→List Vl→Prop)(sem:Fm→List (List Vl))(lg:Fm→List Vl)(ok:Fm→Prop)(hm:Hm):Sp:=fun vs H Q _=>∃ (v y:V) (fm:Fm) (l:Addr) (us:List V) (n:Nat) (acc:List Vl),vs=[v,.ref l,y,.ref f,.ref o]∧ZB4 H v fm∧FO 0 n fm∧ok fm∧Dp H∧St H acc∧(acc++lg fm).length≤1000∧H l=some (.lst us)∧Paired (ZD0 H) us ((ZFO fm).map sem)∧ZEH H y hm∧∀ x H',ZD0 H' x (sem fm)→ZAl L H H'→St H' (acc++lg fm)→Q x H'
def ouV (fo:Vl→Vl)(v:Vl):Vl:=if isF v=true then v else fo v
def ouL (v:Vl):List Vl:=if isF v=true then [] else [v]
def ZL4 (L:Addr)(fo:Vl→Vl)(St:Hp→List Vl→Prop):Sp:=fun vs H Q _=>∃ (u:V) (v:Vl) (acc:List Vl),vs=[u]∧ZBT H u v∧ZBi v∧¬ isF v=true∧St H acc∧(acc++[v]).length≤1000∧∀ x H',ZBT H' x (fo v)→ZAl L H H'→St H' (acc++[v])→Q x H'
def ZRI (L o:Addr)(fo:Vl→Vl)(St:Hp→List Vl→Prop):Sp:=fun vs H Q _=>∃ (u:V) (v:Vl) (acc:List Vl),vs=[u,.ref o]∧ZBT H u v∧ZBi v∧St H acc∧(acc++ouL v).length≤1000∧∀ x H',ZBT H' x (ouV fo v)→ZAl L H H'→St H' (acc++ouL v)→Q x H'
def Gd (m:List (List Vl)):Prop:=∃ w,ZD1 m w∧w≤30∧m.length≤30∧∀ r∈m,∀ v∈r,ZBi v
theorem ZO7 {m:List (List Vl)}{w:Nat}(rc:ZD1 m w)(h:∀ r∈m,∀ v∈r,ZBi v):ZBi (hd0 m):=by
  obtain ⟨r0,rt,rfl⟩:=ZDb (l:=m) rc.len
  have:=rc.row r0 List.mem_cons_self
  have:=rc.w1
  obtain ⟨x,xt,rfl⟩:=ZDb (l:=r0) (by omega)
  exact h _ List.mem_cons_self _ List.mem_cons_self
def fltS (z:Str)(h:Hm):Vl:=.flt z h.z h.r h.c
def ZKt (dom:Str→Int→Int→Prop)(g:Str→Int→Int→Vl)(fo:Vl→Vl)(sem:Hm→Fm→List (List Vl))(lg:Hm→Fm→List Vl)(hm:Hm)(f:Fm):Prop:=(∃ l,f=.lf l∧ZSO dom g l∧sem hm f=lfT g l∧lg hm f=[])∨
  (∃ z,f=.lf (.flt z)∧sem hm f=[[fltS z hm]]∧lg hm f=[])∨
  (∃ s a b,f=.nd (.op s) [a,b]∧Gd (sem hm a)∧Gd (sem hm b)∧ZQ9 (sem hm a) (sem hm b)∧sem hm f=opT s (sem hm a) (sem hm b) hm∧lg hm f=[])∨
  (∃ a,f=.nd .neg [a]∧Gd (sem hm a)∧sem hm f=opT (Str.ofString "-") [[.num 0 1]] (sem hm a) hm∧lg hm f=[])∨
  (∃ a,f=.nd (.wd (zS "outer")) [a]∧Gd (sem hm a)∧sem hm f=[[ouV fo (hd0 (sem hm a))]]∧lg hm f=ouL (hd0 (sem hm a)))∨
  ∃ a β γ,f=.nd (.wd (zS "sum")) [a]∧Gd (sem hm a)∧ZNs β γ (ZDF (sem hm a).flatten)∧sem hm f=[[ZEY (sem hm a).flatten hm]]∧lg hm f=[]
def ZRJ (f:Addr)(D:Hp→Prop)(dom:Str→Int→Int→Prop)(g:Str→Int→Int→Vl):Sp:=fun vs H Q E=>ZQf f D dom g vs H Q E∨∃ (a:Addr) (y:V) (z:Str) (hm:Hm),vs=[.ref a,y,.ref f]∧H a=some (.tup [vS "fault",.str z])∧ZEH H y hm∧∀ x H',ZD0 H' x [[fltS z hm]]→ZAM H H'→Q x H'
theorem ZEH.fltS {H:Hp}{y:V}{h:Hm}{z:Str}(x:ZEH H y h){p:Addr}(hp:H p=none):ZBT (upd H p (.tup [vS "fault",.str z,y])) (.ref p) (fltS z h):=by
  obtain ⟨q,rfl,e⟩:=x
  exact ⟨p,rfl,q,ZAE,ZAM.new hp _ _ e⟩
def ZRK (L o:Addr)(fo:Vl→Vl)(St:Hp→List Vl→Prop):Sp:=fun vs H Q _=>∃ (v y:V) (l a:Addr) (x0:V) (r:List V) (m:List (List Vl)) (w:Nat) (acc:List Vl),vs=[v,.ref l,y,.ref o]∧v=.ref a∧H l=some (.lst [x0])∧ZD0 H x0 m∧ZD1 m w∧(∀ r∈m,∀ v∈r,ZBi v)∧St H acc∧
  ((H a=some (.tup (vS "outer"::r))∧(acc++ouL (hd0 m)).length≤1000∧∀ z H',ZBT H' z (ouV fo (hd0 m))→ZAl L H H'→St H' (acc++ouL (hd0 m))→Q z H')∨
   ∃ (hm:Hm) (β γ:Nat),H a=some (.tup (vS "sum"::r))∧w≤30∧m.length≤30∧ZNs β γ (ZDF m.flatten)∧ZEH H y hm∧∀ z H',ZBT H' z (ZEY m.flatten hm)→ZAM H H'→Q z H')
def ZMf (K:PySem.W.Frag)(P1 P2:Addr):Sp:=fun vs H Q _=>∃ (a:Addr) (ns:List Int),vs=[.ref a]∧SqL K H a (ns.map V.int)∧ns.length≤63∧H P1=some (.tbl #[])∧H P2=some (.tbl #[])∧∀ H',Q (.bl true) H'
structure Sht where
  z:Str
  hi:Int
  wi:Int
  rows:List (List V)
  m:List (List Vl)
  w:Nat
def pl (hi wi:Int)(m:List (List Vl))(r c:Int):Vl:=(m.getD (r-hi-1).toNat []).getD (c-wi-1).toNat .none
def gS (T:List Sht):Str→Int→Int→Vl:=fun z r c=>match T.find? (fun s=>decide (s.z=z)) with
  | some s=>pl s.hi s.wi s.m r c
  | none=>.none
def ZRL (T:List Sht):Str→Int→Int→Prop:=fun z r c=>∃ s∈T,s.z=z∧s.hi+1≤r∧r≤s.hi+s.m.length∧s.wi+1≤c∧c≤s.wi+s.w
structure ZSQ (H:Hp)(kvs:List (List Key×V))(s:Sht):Prop where
  ld:ZH5 kvs s.z s.hi s.wi s.rows s.m.length 0
  vt:ZJR H s.rows s.m
  row:∀ r∈s.m,r.length=s.w
theorem ZKu:∀ {T:List Sht},(T.map fun s=>s.z).Nodup→∀ {s:Sht},s∈T→T.find? (fun x=>decide (x.z=s.z))=some s
  | [],_,s,h=>by cases h
  | a::t,nd,s,h=>by
    rw [List.map_cons,List.nodup_cons] at nd
    rcases List.mem_cons.mp h with rfl | h
    · rw [List.find?_cons_of_pos (by simp)]
    · rw [List.find?_cons_of_neg (by
        intro z
        exact nd.1 (of_decide_eq_true z▸List.mem_map.mpr ⟨s,h,rfl⟩))]
      exact ZKu nd.2 h
theorem ZO8 {T:List Sht}(nd:(T.map fun s=>s.z).Nodup){s:Sht}(hs:s∈T)(r c:Int):gS T s.z r c=pl s.hi s.wi s.m r c:=by unfold gS;rw [ZKu nd hs]
theorem ZGd {α:Type}{l:List α}{i:Nat}{x d:α}(h:l[i]?=some x):l.getD i d=x:=by rw [List.getD_eq_getElem?_getD,h];rfl
theorem dp_S {H:Hp}{kn:Addr}{kvs:List (List Key×V)}{T:List Sht}(hkn:H kn=some (.dT kvs))(nd:(T.map fun s=>s.z).Nodup)(ok:∀ s∈T,ZSQ H kvs s):DpF kn (ZRL T) (gS T) H:=by
  refine ⟨kvs,hkn,fun z r c d=>?_⟩
  obtain ⟨s,hs,rfl,d1,d2,d3,d4⟩:=d
  obtain ⟨a,rfl⟩:∃ a:Nat,r=s.hi+a+1:=⟨(r-s.hi-1).toNat,by omega⟩
  obtain ⟨b,rfl⟩:∃ b:Nat,c=s.wi+b+1:=⟨(c-s.wi-1).toNat,by omega⟩
  have g:=ok s hs
  have ha:a<s.m.length:=by omega
  have hm':s.m[a]?=some s.m[a]:=List.getElem?_eq_getElem ha
  have hb:b<s.m[a].length:=by rw [g.row _ (List.getElem_mem ha)];omega
  obtain ⟨rw',hrw,pv⟩:=ZE0 g.vt hm'
  obtain ⟨x,hx,vx⟩:=ZE0 pv (List.getElem?_eq_getElem hb)
  refine ⟨x,g.ld a b rw' x hrw hx (.inl (by omega)),?_⟩
  rw [ZO8 nd hs,pl,show (s.hi+a+1-s.hi-1).toNat=a by omega,show (s.wi+b+1-s.wi-1).toNat=b by omega,ZGd hm',ZGd (List.getElem?_eq_getElem hb)]
  exact vx
theorem ZRM {T:List Sht}(nd:(T.map fun s=>s.z).Nodup){s:Sht}(hs:s∈T)(row:∀ r∈s.m,r.length=s.w):blk (gS T) s.z (s.hi+1) (s.wi+1) s.m.length s.w=s.m:=by
  unfold blk
  refine List.ext_getElem? fun i=>?_
  by_cases hi':i<s.m.length
  · have hm':s.m[i]?=some s.m[i]:=List.getElem?_eq_getElem hi'
    have lm:=row _ (List.getElem_mem hi')
    rw [List.getElem?_map,List.getElem?_range hi',hm']
    refine congrArg some (List.ext_getElem? fun j=>?_)
    by_cases hj:j<s.w
    · rw [List.getElem?_map,List.getElem?_range hj,List.getElem?_eq_getElem (by omega)]
      refine congrArg some ?_
      show gS T s.z (s.hi+1+(i:Int)) (s.wi+1+(j:Int))=_
      rw [ZO8 nd hs,pl,show (s.hi+1+(i:Int)-s.hi-1).toNat=i by omega,show (s.wi+1+(j:Int)-s.wi-1).toNat=j by omega,ZGd hm',ZGd (List.getElem?_eq_getElem (by omega))]
    · rw [List.getElem?_eq_none (by rw [List.length_map,List.length_range];omega),List.getElem?_eq_none (by omega)]
  · rw [List.getElem?_eq_none (by rw [List.length_map,List.length_range];omega),List.getElem?_eq_none (by omega)]
theorem ZMg {H:Hp}{kvs:List (List Key×V)}{z:Str}{rows:List (List V)}{m:List (List Vl)}{h w:Nat}{u:V}(x:ZGa H kvs z rows h w u)(nm:Nm z)(vt:ZJR H rows m)(ml:m.length=h)(row:∀ r∈m,r.length=w)(h1:1≤h)(w1:1≤w):
    ∃ (a:Addr) (lf:Lf) (s:Sht),u=.ref a∧ZGt H a lf∧s.z=z∧s.m=m∧ZSQ H kvs s∧∀ T:List Sht,(T.map fun s=>s.z).Nodup→s∈T→(∃ z c d,ZFQ (ZRL T) lf z c d)∧lfT (gS T) lf=m:=by
  obtain ⟨a,lf,c,d,hi,wi,rfl,h2,h3,h4,h5,h6,h7,h8,h9,h10,h11,h12⟩:=x
  subst ml
  refine ⟨a,lf,⟨z,hi,wi,rows,m,w⟩,rfl,h2,rfl,rfl,⟨h12,vt,row⟩,fun T nd hs=>⟨⟨z,c,d,ZNZ h3 nm h4 h5 h6 h7 h8 h9 h10 h11 h1 w1 fun i j q1 q2 q3 q4=>⟨_,hs,rfl,q1,q2,q3,q4⟩⟩,?_⟩⟩
  rw [ZO1 h3 h4 h5 h6 h7]
  exact ZRM nd hs row
structure LB (H:Hp)(l:Addr)(bs:List Addr)(rows:List (List V))(m:List (List Vl)):Prop where
  ob:H l=some (.lst (bs.map V.ref))
  ls:ZMT H bs rows
  vt:ZJR H rows m
structure RD (H0 H:Hp)(l:Addr)(bs:List Addr)(rows:List (List V))(m:List (List Vl)):Prop where
  b:LB H l bs rows m
  nl:l∉bs
  s:ZAM H0 H
  fl:H0 l=none
  fb:∀ b∈bs,H0 b=none
section
variable {H0 H H':Hp}{l D:Addr}{bs:List Addr}{rows:List (List V)}{m:List (List Vl)}
end
def trT (m:List (List Vl)):Tr:=.tup (m.map fun r=>.tup (r.map trV))
structure TT (H:Hp)(p l:Addr)(bs:List Addr)(rows:List (List V))(m:List (List Vl))(h w:Nat):Prop where
  d:D3 H p l bs rows h w
  vt:ZJR H rows m
  ml:m.length=h
  ok:Oks m w
section
variable {p kn l:Addr}{H H':Hp}{h w:Nat}{m:List (List Vl)}{bs:List Addr}{rows:List (List V)}
theorem TT.one {b:Addr}{u:V}{v:Vl}(hl:H l=some (.lst [.ref b]))(hb:H b=some (.lst [u]))(hv:ZBT H u v)(ok:ZBi v)(n1:l≠p)(n2:b≠p):TT H p l [b] [[u]] [[v]] 1 1:=
  ⟨⟨hl,n1,by simpa using Ne.symm n2,.cons hb .nil,rfl,by decide,by decide,by decide,by decide,by simp⟩,.cons (.cons hv .nil) .nil,rfl,by
    intro r hr
    rw [List.mem_singleton.mp hr]
    exact ⟨rfl,fun v' h'=>by rw [List.mem_singleton.mp h'];exact ok⟩⟩
end
theorem ZD0.tr {H:Hp}{u:V}{v:Vl}(h:ZD0 H u [[v]]):ZHf H u (.tup [.tup [trV v]]) 4:=by
  obtain ⟨rows,⟨b,us,rfl,hb,pr⟩,vt⟩:=h
  cases vt with
  | cons v0 vt'=>
    cases vt'
    cases v0 with
    | cons y ys=>
      cases ys
      cases pr with
      | cons r0 rt=>
        cases rt
        obtain ⟨b0,rfl,hb0⟩:=r0
        exact .ofP (n:=3) hb (by simp) (.cons (.ofP (n:=2) hb0 (by simp) (.cons y.tr .nil)) .nil)
theorem ZO9 {A:Around}{k:Nat}(hr:ZES k A):A.units+2<cLine:=by have:=hr.un;omega
def ZSR (L:Addr)(H:Hp)(vs:List Vl):Prop:=∃ us,H L=some (.lst us)∧ZEG H us vs
theorem ZPA (L:Addr):ZIs L (ZSR L):=⟨fun H H' acc h kp ⟨us,e,v⟩=>⟨us,h _ e,ZEG.kp v kp⟩,fun H acc ⟨us,e,_⟩=>⟨us,e⟩⟩
theorem ZMh {L kn:Addr}{dom:Str→Int→Int→Prop}{g:Str→Int→Int→Vl}(h:kn≠L):ZMd L (DpF kn dom g):=fun H H' s kp ⟨kvs,e,d⟩=>⟨kvs,s _ _ h e rfl,fun z r c dm=>let ⟨x,hx,vx⟩:=d z r c dm;⟨x,hx,vx.kp kp⟩⟩
theorem ZMi {v:Vl}(h:ZBi v):Gd [[v]]:=⟨1,⟨by simp,by decide,by simp⟩,by decide,by simp,by simpa using h⟩
theorem ZMj {fo:Vl→Vl}{v:Vl}(h:ZBi v)(hf:ZBi (fo v)):ZBi (ouV fo v):=by
  unfold ouV
  by_cases c:isF v=true
  · rw [if_pos c];exact h
  · rw [if_neg c];exact hf
theorem ZNd {v:Vl}:(ouL v).length≤1:=by
  unfold ouL
  by_cases c:isF v=true
  · rw [if_pos c];exact Nat.zero_le 1
  · rw [if_neg c];exact Nat.le_refl 1
theorem ZNe {v w:Vl}(h:w∈ouL v):w=v∧isF w=false:=by
  unfold ouL at h
  by_cases c:isF v=true
  · rw [if_pos c] at h;cases h
  · rw [if_neg c] at h
    have:=List.mem_singleton.mp h
    subst this
    exact ⟨rfl,by simpa using c⟩
theorem ZDP:ZKV (.wd (zS "outer")) 1:=by show (zS "outer",1)∈WDS;decide +kernel
theorem ZKv {q:Str}{P L:Addr}{H H':Hp}(h:∀ b o,b≠P→b≠L→L2.del q H b=some o→H' b=some o):∀ b o,b≠P→b≠L→H b=some o→L2.put q H H' b=some o:=fun b o hb hb' e=>by
  cases w:kn q (H b) with
  | none=>rw [ZCJ w];exact h b o hb hb' (by rw [ZFJ w];exact e)
  | some u=>
    rw [ZIX w]
    rw [ZFI w] at e
    exact e
theorem ZPB {H H':Hp}{P P' L:Addr}{q:Str}{ps:Array Value}{us:List V}(x:ZCI H P q)(ne:P≠P')(hp:H P'=some (.tbl ps))(hl:H L=some (.lst us))(s:∀ b o,b≠P'→b≠L→H b=some o→H' b=some o):ZCI H' P q:=by
  obtain ⟨ps',e,t,k⟩:=x
  refine ⟨ps',s _ _ ne (ZCH e hl (by intro z;cases z)) e,t,fun pos cv z=>?_⟩
  obtain ⟨c,e1,e2⟩:=k pos cv z
  exact ⟨c,e1,e2.keep fun b o h=>s _ _ (ZCH h hp (by intro z;cases z)) (ZCH h hl (by intro z;cases z)) h⟩
theorem ZDN.lz {K:PySem.W.Frag}{S:Addr×List Int}{H0 H H':Hp}{p L PR:Addr}{k n:Nat}{ps:Array Value}(h0:ZDN K S H0 p k)(hD:H0 L=none)(h:ZDN K S H p n)(hP:H PR=some (.tbl ps))(s:∀ b o,b≠PR→b≠L→H b=some o→H' b=some o):ZDN K S H' p n:=by
  have ne:=h0.ne hD
  obtain ⟨_,_,_,_,q0,_⟩:=h0
  obtain ⟨b,c,r,e,q,z⟩:=h
  refine ⟨b,c,r,s _ _ (ZCH e hP (by intro z;cases z)) (Ne.symm ne) e,?_,z⟩
  rcases q0 with (q0 | ⟨o0,q0⟩) | q0
  · have na:=ZAY q0 hD
    rcases q with (q | ⟨o1,q⟩) | q
    · exact .inl (.inl (s _ _ (ZCH q hP (by intro z;cases z)) na q))
    · exact .inl (.inr ⟨o1,s _ _ (ZCH q hP (by intro z;cases z)) na q⟩)
    · exact .inr q
  · have na:=ZAY q0 hD
    rcases q with (q | ⟨o1,q⟩) | q
    · exact .inl (.inl (s _ _ (ZCH q hP (by intro z;cases z)) na q))
    · exact .inl (.inr ⟨o1,s _ _ (ZCH q hP (by intro z;cases z)) na q⟩)
    · exact .inr q
  · exact .inr q0
theorem ZBT.tps {H:Hp}{u:V}{v:Vl}(h:ZBT H u v):∃ q ys js,u=.ref q∧H q=some (.tup ys)∧Paired (ZFf H) ys js:=by
  obtain ⟨q,_,e,h1,h2⟩:=h.hd
  exact ⟨q,_,_,e,h1,h2⟩
theorem ZEG.tps {H:Hp}:∀ {us:List V} {vs:List Vl},ZEG H us vs→ZLd H us
  | _,_,.nil=>fun _ h=>by cases h
  | _,_,.cons h t=>fun u hu=>by
    rcases List.mem_cons.mp hu with rfl | hu
    · exact h.tps
    · exact ZEG.tps t u hu
theorem ZKw {H:Hp}{u:V}{v:Vl}(h:ZBT H u v):ZNC H (itm v) u=true:=by
  obtain ⟨q,_,rfl,h1,h2⟩:=h.hd
  rw [ZKI h1 h2]
  exact ZGR h2
theorem ZL5 {H:Hp}:∀ {us:List V} {vs:List Vl} {v:Vl},ZEG H us vs→v∈vs→us.any (ZNC H (itm v))=true:=by
  intro A B v h hv
  induction h with
  | nil=>cases hv
  | cons h t ih=>
    rw [List.any_cons]
    rcases List.mem_cons.mp hv with rfl | hv
    · rw [ZKw h];rfl
    · rw [ih hv,Bool.or_true]
def ZNt (t:Int):Int:=if t<0 then -t else t
def ZNf (t b:Int):Bool:=decide ((10:Int) ^ (20:Int).toNat<(if b>ZNt t then b else ZNt t))
def ZCA (k:Int):Vl→Vl
  | .num t b=>if ZNf t b=true then .txt (Str.ofString "far") else .num (ZDA (t+k*b) b) (ZCz (t+k*b) b)
  | .tru b=>.tru (!b)
  | .txt z=>.txt z
  | _=>.txt (Str.ofString "asked")
def ZPC:Sp:=fun vs H Q _=>∃ (u:V) (k:Int) (v:Vl),vs=[u,.int k]∧ZBT H u v∧ZBi v∧-4≤k∧k≤4∧∀ x H',ZBT H' x (ZCA k v)→ZAM H H'→Q x H'
theorem ZMk {t b:Int}(h:¬ ZNf t b=true):t.natAbs≤10 ^ 20∧b≤10 ^ 20:=by
  have h':¬ (10:Int) ^ 20<(if b>ZNt t then b else ZNt t):=fun z=>h (decide_eq_true z)
  have ea:ZNt t=(t.natAbs:Int):=by
    unfold ZNt
    by_cases c:t<0
    · rw [if_pos c];omega
    · rw [if_neg c];omega
  rw [ea] at h'
  by_cases c:b>(t.natAbs:Int)
  · rw [if_pos c] at h';omega
  · rw [if_neg c] at h';omega
theorem mul5 {k b:Int}(h1:-4≤k)(h2:k≤4)(hb:0≤b)(h:b≤10 ^ 20):(k*b)≤4*10 ^ 20∧-(4*10 ^ 20)≤k*b:=by
  have a1:k*b≤4*b:=Int.mul_le_mul_of_nonneg_right h2 hb
  have a2:-4*b≤k*b:=Int.mul_le_mul_of_nonneg_right h1 hb
  omega
theorem ZKx {k:Int}{v:Vl}(h1:-4≤k)(h2:k≤4)(h:ZBi v):ZBi (ZCA k v):=by
  cases v with
  | num t b=>
    show ZBi (if ZNf t b=true then .txt (Str.ofString "far") else .num (ZDA (t+k*b) b) (ZCz (t+k*b) b))
    by_cases c:ZNf t b=true
    · rw [if_pos c];exact ⟨by decide +kernel,by decide +kernel⟩
    · rw [if_neg c]
      have hb:=h.1.pos
      obtain ⟨g1,g2⟩:=ZMk c
      obtain ⟨g3,g4⟩:=mul5 h1 h2 (by omega) g2
      exact ZIk (by omega) (by omega) (by omega)
  | tru b=>trivial
  | txt z=>exact h
  | none=>exact ⟨by decide +kernel,by decide +kernel⟩
  | flt w z r c=>exact ⟨by decide +kernel,by decide +kernel⟩
def ZRN:Sp:=fun vs H Q _=>∃ (L:Addr) (us:List V) (u:V) (k:Int) (v:Vl),vs=[.ref L,u,.int k]∧H L=some (.lst us)∧us.length≤1000∧ZBT H u v∧ZBi v∧-4≤k∧k≤4∧∀ x H',ZBT H' x (ZCA k v)→H' L=some (.lst (us++[u]))→ZAl L H H'→Q x H'
def ZPD (k:Int):Vl→Vl
  | .flt w z r c=>.flt w z r c
  | .num t b=>ZCA k (.num t b)
  | _=>ZCA k (.num 0 1)
def ZRO:Sp:=fun vs H Q _=>∃ (u:V) (k:Int) (v:Vl),vs=[u,.int k]∧ZBT H u v∧ZBi v∧-4≤k∧k≤4∧∀ x H',ZBT H' x (ZPD k v)→ZAM H H'→Q x H'
def s06 (g:Str→Int→Int→Vl)(hm:Hm):Fm→List (List Vl)
  | .lf (.flt z)=>[[fltS z hm]]
  | .lf l=>lfT g l
  | _=>[]
def ZJT (fo:Vl→Vl)(g:Str→Int→Int→Vl)(hm:Hm)(S:Fm→List (List Vl)):Fm→List (List Vl)
  | .nd (.op s) [a,b]=>opT s (S a) (S b) hm
  | .nd .neg [a]=>opT (Str.ofString "-") [[.num 0 1]] (S a) hm
  | .nd (.wd z) [a]=>if z=zS "outer" then [[ouV fo (hd0 (S a))]] else [[ZEY (S a).flatten hm]]
  | f=>s06 g hm f
def ZGe (fo:Vl→Vl)(g:Str→Int→Int→Vl)(hm:Hm):Fm→List (List Vl):=ZJT fo g hm (ZJT fo g hm (s06 g hm))
def lg6 (fo:Vl→Vl)(g:Str→Int→Int→Vl)(hm:Hm):Fm→List Vl
  | .nd (.wd z) [a]=>if z=zS "outer" then ouL (hd0 (ZJT fo g hm (s06 g hm) a)) else []
  | _=>[]
theorem ZGf {s:Str}{x y:Vl}{hm:Hm}:opT s [[x]] [[y]] hm=[[opM s x y hm]]:=by
  show ZHP (fun j k=>opM s (cy .none [[x]] j k) (cy .none [[y]] j k) hm) 1 1=_
  show [[opM s (cy .none [[x]] 0 0) (cy .none [[y]] 0 0) hm]]=_
  rw [ZIm,ZIm]
theorem ZKy {g:Str→Int→Int→Vl}{hm:Hm}{l:Lf}{z:Str}{c d:Cor}{dom:Str→Int→Int→Prop}(h:ZFQ dom l z c d):s06 g hm (.lf l)=lfT g l:=by
  have b:=h.b
  cases l with
  | flt=>cases b
  | _=>rfl
theorem ZRP {x y:Vl}:ZQ9 [[x]] [[y]]:=.inl ⟨rfl,rfl⟩
structure Lv6 (dom:Str→Int→Int→Prop)(g:Str→Int→Int→Vl)(hm:Hm)(a:Lf)(v:Vl):Prop where
  ok:ZSO dom g a
  e:lfT g a=[[v]]
  v:ZBi v
section
variable {dom:Str→Int→Int→Prop}{g:Str→Int→Int→Vl}{fo:Vl→Vl}{hm:Hm}{a b:Lf}{z s:Str}{v w:Vl}{f f':Fm}
theorem Lv6.sm (h:Lv6 dom g hm a v):s06 g hm (.lf a)=[[v]]:=by obtain ⟨⟨⟨_,_,_,lg⟩,_⟩,e,_⟩:=h;rw [← e];exact ZKy lg
theorem Lv6.k (h:Lv6 dom g hm a v):ZKt dom g fo (ZGe fo g) (lg6 fo g) hm (.lf a):=.inl ⟨_,rfl,h.ok,by obtain ⟨⟨⟨_,_,_,lg⟩,_⟩,e,_⟩:=h;exact ZKy lg,rfl⟩
structure D16 (fo:Vl→Vl)(g:Str→Int→Int→Vl)(hm:Hm)(f:Fm)(v:Vl):Prop where
  e1:ZJT fo g hm (s06 g hm) f=[[v]]
  e2:ZGe fo g hm f=[[v]]
  ok:ZBi v
theorem Lv6.d (h:Lv6 dom g hm a v):D16 fo g hm (.lf a) v:=⟨h.sm,h.sm,h.v⟩
theorem ZPE (h:ZBi (fltS z hm)):D16 fo g hm (.lf (.flt z)) (fltS z hm):=⟨rfl,rfl,h⟩
theorem Lv6.out (h:Lv6 dom g hm a v)(hf:ZBi (fo v)):D16 fo g hm (.nd (.wd (zS "outer")) [.lf a]) (ouV fo v):=by
  refine ⟨?_,?_,ZMj h.v hf⟩
  · show (if zS "outer"=zS "outer" then [[ouV fo (hd0 (s06 g hm (.lf a)))]] else [[ZEY (s06 g hm (.lf a)).flatten hm]])=_
    rw [if_pos rfl,h.sm];rfl
  · show (if zS "outer"=zS "outer" then [[ouV fo (hd0 (s06 g hm (.lf a)))]] else [[ZEY (s06 g hm (.lf a)).flatten hm]])=_
    rw [if_pos rfl,h.sm];rfl
theorem ZHS:¬ zS "sum"=zS "outer":=by decide +kernel
theorem Lv6.sum (h:Lv6 dom g hm a v)(hs:ZBi (ZEY [v] hm)):D16 fo g hm (.nd (.wd (zS "sum")) [.lf a]) (ZEY [v] hm):=by
  refine ⟨?_,?_,hs⟩
  · show (if zS "sum"=zS "outer" then [[ouV fo (hd0 (s06 g hm (.lf a)))]] else [[ZEY (s06 g hm (.lf a)).flatten hm]])=_
    rw [if_neg ZHS,h.sm];rfl
  · show (if zS "sum"=zS "outer" then [[ouV fo (hd0 (s06 g hm (.lf a)))]] else [[ZEY (s06 g hm (.lf a)).flatten hm]])=_
    rw [if_neg ZHS,h.sm];rfl
theorem D16.gd (h:D16 fo g hm f v):Gd (ZGe fo g hm f):=by rw [h.e2];exact ZMi h.ok
theorem D16.outer (h:D16 fo g hm f v):ZKt dom g fo (ZGe fo g) (lg6 fo g) hm (.nd (.wd (zS "outer")) [f])∧ZGe fo g hm (.nd (.wd (zS "outer")) [f])=[[ouV fo v]]∧lg6 fo g hm (.nd (.wd (zS "outer")) [f])=ouL v:=by
  have a1:ZGe fo g hm (.nd (.wd (zS "outer")) [f])=[[ouV fo v]]:=by
    show (if zS "outer"=zS "outer" then [[ouV fo (hd0 (ZJT fo g hm (s06 g hm) f))]] else [[ZEY (ZJT fo g hm (s06 g hm) f).flatten hm]])=_
    rw [if_pos rfl,h.e1];rfl
  have a2:lg6 fo g hm (.nd (.wd (zS "outer")) [f])=ouL v:=by
    show (if zS "outer"=zS "outer" then ouL (hd0 (ZJT fo g hm (s06 g hm) f)) else [])=_
    rw [if_pos rfl,h.e1];rfl
  exact ⟨.inr (.inr (.inr (.inr (.inl ⟨f,rfl,h.gd,by rw [a1,h.e2];rfl,by rw [a2,h.e2];rfl⟩)))),a1,a2⟩
theorem D16.op (h:D16 fo g hm f v)(h':D16 fo g hm f' w):ZKt dom g fo (ZGe fo g) (lg6 fo g) hm (.nd (.op s) [f,f'])∧ZGe fo g hm (.nd (.op s) [f,f'])=[[opM s v w hm]]∧lg6 fo g hm (.nd (.op s) [f,f'])=[]:=by
  have a1:ZGe fo g hm (.nd (.op s) [f,f'])=[[opM s v w hm]]:=by
    show opT s (ZJT fo g hm (s06 g hm) f) (ZJT fo g hm (s06 g hm) f') hm=_
    rw [h.e1,h'.e1,ZGf]
  exact ⟨.inr (.inr (.inl ⟨s,f,f',rfl,h.gd,h'.gd,by rw [h.e2,h'.e2];exact ZRP,by rw [a1,h.e2,h'.e2,ZGf],rfl⟩)),a1,rfl⟩
theorem D16.neg (h:D16 fo g hm f v):ZKt dom g fo (ZGe fo g) (lg6 fo g) hm (.nd .neg [f])∧ZGe fo g hm (.nd .neg [f])=[[opM (Str.ofString "-") (.num 0 1) v hm]]∧lg6 fo g hm (.nd .neg [f])=[]:=by
  have a1:ZGe fo g hm (.nd .neg [f])=[[opM (Str.ofString "-") (.num 0 1) v hm]]:=by
    show opT (Str.ofString "-") [[.num 0 1]] (ZJT fo g hm (s06 g hm) f) hm=_
    rw [h.e1,ZGf]
  exact ⟨.inr (.inr (.inr (.inl ⟨f,rfl,h.gd,by rw [a1,h.e2,ZGf],rfl⟩))),a1,rfl⟩
theorem Lv6.okS (h:Lv6 dom g hm a v):ZKt dom g fo (ZGe fo g) (lg6 fo g) hm (.nd (.wd (zS "sum")) [.lf a])∧lg6 fo g hm (.nd (.wd (zS "sum")) [.lf a])=[]:=by
  have e:ZGe fo g hm (.lf a)=[[v]]:=h.sm
  refine ⟨.inr (.inr (.inr (.inr (.inr ⟨.lf a,100,100,rfl,by rw [e];exact ZMi h.v,?_,?_,?_⟩)))),?_⟩
  · rw [e]
    show ZNs 100 100 (ZDF [v])
    have hl:(ZDF [v]).length≤1:=List.length_filterMap_le _ _
    refine ⟨fun n hn=>?_,by omega,by omega⟩
    obtain ⟨x,hx,ex⟩:=List.mem_filterMap.mp hn
    cases List.mem_singleton.mp hx
    have hv:=h.v
    cases v with
    | num t b=>
      cases ex
      have:=hv.1.pos
      have p1:(10:Nat) ^ 30≤2 ^ 100:=by decide
      exact ⟨by show 0<b;omega,by show t.natAbs≤_;have:=hv.2.1;omega,by show b.natAbs≤_;have:=hv.2.2;omega⟩
    | none=>cases ex
    | txt z=>cases ex
    | tru b=>cases ex
    | flt w z r c=>cases ex
  · rw [e]
    show (if zS "sum"=zS "outer" then [[ouV fo (hd0 (s06 g hm (.lf a)))]] else [[ZEY (s06 g hm (.lf a)).flatten hm]])=_
    rw [if_neg ZHS,h.sm]
  · show (if zS "sum"=zS "outer" then ouL (hd0 (ZJT fo g hm (s06 g hm) (.lf a))) else [])=_
    rw [if_neg ZHS]
  · show (if zS "sum"=zS "outer" then ouL (hd0 (ZJT fo g hm (s06 g hm) (.lf a))) else [])=_
    rw [if_neg ZHS]
theorem ZRQ:ZKt dom g fo (ZGe fo g) (lg6 fo g) hm (.lf (.flt z)):=.inr (.inl ⟨_,rfl,rfl,rfl⟩)
end
theorem ZPF:∀ r∈[(0:Int),1,2,3,4,5,6],((atI (Str.ofString "+-*/&=<").cps.toList r).any fun c=>decide ((⟨#[c]⟩:Str)∈S7)&&decide ((⟨#[c]⟩:Str)∈OPS))=true:=by decide +kernel
theorem ZRR {r:Int}(h0:0≤r)(h1:r<7):∃ c,atI (Str.ofString "+-*/&=<").cps.toList r=some c∧(⟨#[c]⟩:Str)∈S7∧(⟨#[c]⟩:Str)∈OPS:=by
  have h:=ZPF r (by
    have:r=0∨r=1∨r=2∨r=3∨r=4∨r=5∨r=6:=by omega
    rcases this with rfl | rfl | rfl | rfl | rfl | rfl | rfl <;> simp)
  cases e:atI (Str.ofString "+-*/&=<").cps.toList r with
  | none=>rw [e] at h;cases h
  | some c=>
    rw [e] at h
    have h':(decide ((⟨#[c]⟩:Str)∈S7)&&decide ((⟨#[c]⟩:Str)∈OPS))=true:=h
    rw [Bool.and_eq_true,decide_eq_true_eq,decide_eq_true_eq] at h'
    exact ⟨c,rfl,h'⟩
theorem ZFh.k2 {K:PySem.W.Frag}{S:Addr×List Int}{PR PL p kn:Addr}{H H':Hp}{n n':Nat}{kvs:List (List Key×V)}(h:ZFh K S PR PL H p n)(hk:H kn=some (.dT kvs))(pen:ZDN K S H' p n')(kp:ZKl p kn H H'):ZFh K S PR PL H' p n':=by
  obtain ⟨vs,e⟩:=h.pen.ob
  have sf:SmF H H':=fun b o e' d=>kp b o (fun z=>by subst z;rw [e] at e';cases e';cases d) (fun z=>by subst z;rw [hk] at e';cases e';cases d) e'
  exact ⟨pen,ZD3 h.tR sf,ZD3 h.tL sf⟩
theorem ZFh.kp2 {K:PySem.W.Frag}{S:Addr×List Int}{PR PL p kn:Addr}{H H':Hp}{n:Nat}{kvs:List (List Key×V)}(h:ZFh K S PR PL H p n)(hk:H kn=some (.dT kvs))(kp:ZKl p kn H H'):Kp H H':=by
  obtain ⟨vs,e⟩:=h.pen.ob
  exact ZKl.kp kp e hk
def ZEQ (H:Hp)(u:V)(x:Fm×Vl):Prop:=∃ q f y,u=.ref q∧H q=some (.tup [f,y])∧ZB4 H f x.1∧ZBT H y x.2
theorem ZEQ.kp {H H':Hp}{u:V}{x:Fm×Vl}(h:ZEQ H u x)(s:Kp H H'):ZEQ H' u x:=by
  obtain ⟨q,f,y,e,e1,e2,e3⟩:=h
  exact ⟨q,f,y,e,s _ _ e1,ZB4.kp e2 s,e3.kp s⟩
theorem ZEQ.new {H:Hp}{q:Addr}{f y:V}{x:Fm×Vl}(hq:H q=none)(h1:ZB4 H f x.1)(h2:ZBT H y x.2):ZEQ (upd H q (.tup [f,y])) (.ref q) x:=⟨q,f,y,rfl,ZAE,ZB4.kp h1 (Kp.same (ZAM.new hq)),h2.kp (Kp.same (ZAM.new hq))⟩
def X6a (l0 l1:Lf)(z s:Str)(k:Int)(v1 v2:Vl)(hm:Hm):List (Fm×Vl):=[(.nd (.wd (zS "outer")) [.lf l0],ouV (ZCA k) v1),(.lf (.flt z),fltS z hm),(.nd (.op s) [.lf (.flt z),.lf l1],fltS z hm),(.nd (.op s) [.nd (.wd (zS "outer")) [.lf l0],.lf l1],opM s (ouV (ZCA k) v1) v2 hm),(.nd .neg [.nd (.wd (zS "outer")) [.lf l0]],opM (Str.ofString "-") (.num 0 1) (ouV (ZCA k) v1) hm),(.nd (.wd (zS "outer")) [.lf (.flt z)],fltS z hm),(.nd (.wd (zS "outer")) [.nd (.wd (zS "outer")) [.lf l0]],ouV (ZCA k) (ouV (ZCA k) v1)),(.nd (.wd (zS "outer")) [.nd (.wd (zS "sum")) [.lf l1]],ZPD k v2)]
theorem ZKz {t b:Int}:isF (.num t b)=false:=by show decide (V.str (Str.ofString "number")=vS "fault")=false;decide +kernel
theorem ZGg {w z:Str}{r c:Int}:isF (.flt w z r c)=true:=by show decide (V.str (Str.ofString "fault")=vS "fault")=true;decide +kernel
theorem ZK0 {z:Str}{hm:Hm}:isF (fltS z hm)=true:=ZGg
theorem ZNg {s z:Str}{v:Vl}{hm:Hm}:opM s (fltS z hm) v hm=fltS z hm:=by unfold opM;exact if_pos ZK0
theorem ZNh {fo:Vl→Vl}{z:Str}{hm:Hm}:ouV fo (fltS z hm)=fltS z hm:=by unfold ouV;exact if_pos ZK0
def s1V:Vl→Vl
  | .num t b=>.num t b
  | .flt w z r c=>.flt w z r c
  | _=>.num 0 1
theorem ZRS:Low 0 1:=⟨by decide,by decide⟩
theorem ZEK {t b:Int}{hm:Hm}(h:ZBi (.num t b)):ZIl (ZDA t b) (ZCz t b) hm=.num t b:=by
  rw [h.1.t,h.1.b]
  unfold ZIl
  rw [ZKg.mpr h.2.1,ZKg.mpr h.2.2]
  rfl
theorem ZNu:ZBi (.num 0 1):=⟨ZRS,by decide,by decide⟩
theorem ZSS {v:Vl}{hm:Hm}(h:ZBi v):ZEY [v] hm=s1V v:=by
  cases v with
  | num t b=>
    have e:fsl [(t,b)]=(t,b):=by
      show ((0:Int)*b+t*1,(1:Int)*b)=(t,b)
      rw [Int.zero_mul,Int.mul_one,Int.one_mul,Int.zero_add]
    have e2:ZEY [.num t b] hm=ZNr [(t,b)] hm:=by
      unfold ZEY
      rw [show List.find? isF [.num t b]=none from by rw [List.find?_cons,ZKz];rfl]
      rfl
    rw [e2]
    unfold ZNr
    rw [e]
    exact ZEK h
  | flt w z r c=>
    unfold ZEY
    rw [show List.find? isF [.flt w z r c]=some (.flt w z r c) from by rw [List.find?_cons,ZGg]]
    rfl
  | none=>
    have e2:ZEY [.none] hm=ZNr [] hm:=by
      unfold ZEY
      rw [show List.find? isF [.none]=none from by decide +kernel]
      rfl
    rw [e2]
    exact ZEK ZNu
  | txt z=>
    have e2:ZEY [.txt z] hm=ZNr [] hm:=by
      unfold ZEY
      rw [show List.find? isF [.txt z]=none from by rw [List.find?_cons,show isF (.txt z)=false from by show decide (V.str (Str.ofString "text")=vS "fault")=false;decide +kernel];rfl]
      rfl
    rw [e2]
    exact ZEK ZNu
  | tru b=>
    have e2:ZEY [.tru b] hm=ZNr [] hm:=by
      unfold ZEY
      rw [show List.find? isF [.tru b]=none from by rw [List.find?_cons,show isF (.tru b)=false from by show decide (V.str (Str.ofString "truth")=vS "fault")=false;decide +kernel];rfl]
      rfl
    rw [e2]
    exact ZEK ZNu
theorem ZNi {v:Vl}{hm:Hm}(h:ZBi v):ZBi (ZEY [v] hm):=by
  rw [ZSS h]
  cases v with
  | num t b=>exact h
  | flt w z r c=>exact h
  | none=>exact ZNu
  | txt z=>exact ZNu
  | tru b=>exact ZNu
theorem osm6 {k:Int}{v:Vl}{hm:Hm}(h:ZBi v):ouV (ZCA k) (ZEY [v] hm)=ZPD k v:=by
  have n:∀ t b,ouV (ZCA k) (.num t b)=ZCA k (.num t b):=fun t b=>by unfold ouV;rw [if_neg (by rw [ZKz];decide)]
  rw [ZSS h]
  cases v with
  | num t b=>exact n t b
  | flt w z r c=>unfold ouV;exact if_pos ZGg
  | none=>exact n 0 1
  | txt z=>exact n 0 1
  | tru b=>exact n 0 1
structure OkD (dom:Str→Int→Int→Prop)(g:Str→Int→Int→Vl)(fo:Vl→Vl)(hm:Hm)(x:Fm×Vl):Prop where
  f:FO 0 3 x.1
  a:∀ y∈alF x.1,ZKt dom g fo (ZGe fo g) (lg6 fo g) hm y
  e:ZGe fo g hm x.1=[[x.2]]
  n:szF x.1≤4
theorem fo1 {n:Nat}{k:Kd}{f:Fm}(h:ZKV k 1)(x:FO 0 n f):FO 0 (n+1) (.nd k [f]):=.nd (ps:=[f]) h (List.forall_mem_cons.mpr ⟨x,List.forall_mem_nil _⟩)
theorem fo2 {n:Nat}{k:Kd}{f f':Fm}(h:ZKV k 2)(x:FO 0 n f)(y:FO 0 n f'):FO 0 (n+1) (.nd k [f,f']):=.nd (ps:=[f,f']) h (List.forall_mem_cons.mpr ⟨x,List.forall_mem_cons.mpr ⟨y,List.forall_mem_nil _⟩⟩)
theorem ZPG:ZKV (.wd (zS "sum")) 1:=by show (zS "sum",1)∈WDS;decide +kernel
section
variable {dom:Str→Int→Int→Prop}{g:Str→Int→Int→Vl}{fo:Vl→Vl}{hm:Hm}{l0 l1:Lf}{z s:Str}{v1 v2:Vl}{k:Int}
theorem Lv6.fOk {n:Nat}(h:Lv6 dom g hm l0 v1):FO 0 (n+1) (.lf l0):=by
  obtain ⟨⟨⟨_,_,_,lg⟩,_⟩,_,_⟩:=h
  exact .lf (ZRB lg)
theorem ZMl {f:Fm}:lg6 fo g hm f=[]∨∃ v,lg6 fo g hm f=ouL v:=by
  unfold lg6
  split
  · split
    · exact .inr ⟨_,rfl⟩
    · exact .inl rfl
  · exact .inl rfl
theorem ZK1:∀ l:List Fm,(l.flatMap (lg6 fo g hm)).length≤l.length
  | []=>Nat.le_refl _
  | x::t=>by
    have h:=ZK1 t
    have h1:(lg6 fo g hm x).length≤1:=by
      rcases ZMl (fo:=fo) (g:=g) (hm:=hm) (f:=x) with e | ⟨v,e⟩
      · rw [e];exact Nat.zero_le 1
      · rw [e];exact ZNd
    rw [List.flatMap_cons,List.length_append,List.length_cons]
    omega
theorem ZPH {l:List Fm}{v:Vl}(h:v∈l.flatMap (lg6 fo g hm)):isF v=false:=by
  obtain ⟨x,_,hx⟩:=List.mem_flatMap.mp h
  rcases ZMl (fo:=fo) (g:=g) (hm:=hm) (f:=x) with e | ⟨u,e⟩
  · rw [e] at hx;cases hx
  · rw [e] at hx;exact (ZNe hx).2
theorem D6_1 (L0:Lv6 dom g hm l0 v1):OkD dom g fo hm (.nd (.wd (zS "outer")) [.lf l0],ouV fo v1):=by
  refine ⟨fo1 ZDP L0.fOk,fun y hy=>?_,(D16.outer (dom:=dom) L0.d).2.1,by simp [szF,szs]⟩
  have hy':y=.lf l0∨y=.nd (.wd (zS "outer")) [.lf l0]:=by simpa [alF,alL] using hy
  rcases hy' with rfl | rfl
  · exact L0.k
  · exact (D16.outer L0.d).1
theorem D6_2 (hz:z∈ZDS):OkD dom g fo hm (.lf (.flt z),fltS z hm):=by
  refine ⟨.lf hz,fun y hy=>?_,rfl,by simp [szF]⟩
  have hy':y=.lf (.flt z):=by simpa [alF] using hy
  rw [hy']
  exact ZRQ
theorem D6_3 (L1:Lv6 dom g hm l1 v2)(hz:z∈ZDS)(okf:ZBi (fltS z hm))(hs:s∈OPS):OkD dom g fo hm (.nd (.op s) [.lf (.flt z),.lf l1],fltS z hm):=by
  have h:=D16.op (dom:=dom) (s:=s) (fo:=fo) (ZPE (g:=g) okf) L1.d
  refine ⟨fo2 ⟨hs,rfl⟩ (.lf hz) L1.fOk,fun y hy=>?_,by rw [h.2.1,ZNg],by simp [szF,szs]⟩
  have hy':y=.lf (.flt z)∨y=.lf l1∨y=.nd (.op s) [.lf (.flt z),.lf l1]:=by simpa [alF,alL] using hy
  rcases hy' with rfl | rfl | rfl
  · exact ZRQ
  · exact L1.k
  · exact h.1
theorem D6_4 (L0:Lv6 dom g hm l0 v1)(L1:Lv6 dom g hm l1 v2)(hf:ZBi (fo v1))(hs:s∈OPS):OkD dom g fo hm (.nd (.op s) [.nd (.wd (zS "outer")) [.lf l0],.lf l1],opM s (ouV fo v1) v2 hm):=by
  have h:=D16.op (dom:=dom) (s:=s) (L0.out hf) L1.d
  refine ⟨fo2 ⟨hs,rfl⟩ (fo1 ZDP L0.fOk) L1.fOk,fun y hy=>?_,h.2.1,by simp [szF,szs]⟩
  have hy':y=.lf l0∨y=.nd (.wd (zS "outer")) [.lf l0]∨y=.lf l1∨y=.nd (.op s) [.nd (.wd (zS "outer")) [.lf l0],.lf l1]:=by simpa [alF,alL] using hy
  rcases hy' with rfl | rfl | rfl | rfl
  · exact L0.k
  · exact (D16.outer L0.d).1
  · exact L1.k
  · exact h.1
theorem D6_5 (L0:Lv6 dom g hm l0 v1)(hf:ZBi (fo v1)):OkD dom g fo hm (.nd .neg [.nd (.wd (zS "outer")) [.lf l0]],opM (Str.ofString "-") (.num 0 1) (ouV fo v1) hm):=by
  have h:=D16.neg (dom:=dom) (L0.out hf)
  refine ⟨fo1 (k:=.neg) rfl (fo1 ZDP L0.fOk),fun y hy=>?_,h.2.1,by simp [szF,szs]⟩
  have hy':y=.lf l0∨y=.nd (.wd (zS "outer")) [.lf l0]∨y=.nd .neg [.nd (.wd (zS "outer")) [.lf l0]]:=by simpa [alF,alL] using hy
  rcases hy' with rfl | rfl | rfl
  · exact L0.k
  · exact (D16.outer L0.d).1
  · exact h.1
theorem D6_6 (hz:z∈ZDS)(okf:ZBi (fltS z hm)):OkD dom g fo hm (.nd (.wd (zS "outer")) [.lf (.flt z)],fltS z hm):=by
  have h:=D16.outer (dom:=dom) (fo:=fo) (ZPE (g:=g) okf)
  refine ⟨fo1 ZDP (.lf hz),fun y hy=>?_,by rw [h.2.1,ZNh],by simp [szF,szs]⟩
  have hy':y=.lf (.flt z)∨y=.nd (.wd (zS "outer")) [.lf (.flt z)]:=by simpa [alF,alL] using hy
  rcases hy' with rfl | rfl
  · exact ZRQ
  · exact h.1
theorem D6_7 (L0:Lv6 dom g hm l0 v1)(hf:ZBi (fo v1)):OkD dom g fo hm (.nd (.wd (zS "outer")) [.nd (.wd (zS "outer")) [.lf l0]],ouV fo (ouV fo v1)):=by
  have h:=D16.outer (dom:=dom) (L0.out hf)
  refine ⟨fo1 ZDP (fo1 ZDP L0.fOk),fun y hy=>?_,h.2.1,by simp [szF,szs]⟩
  have hy':y=.lf l0∨y=.nd (.wd (zS "outer")) [.lf l0]∨y=.nd (.wd (zS "outer")) [.nd (.wd (zS "outer")) [.lf l0]]:=by simpa [alF,alL] using hy
  rcases hy' with rfl | rfl | rfl
  · exact L0.k
  · exact (D16.outer L0.d).1
  · exact h.1
theorem D6_8 (L1:Lv6 dom g hm l1 v2):OkD dom g (ZCA k) hm (.nd (.wd (zS "outer")) [.nd (.wd (zS "sum")) [.lf l1]],ZPD k v2):=by
  have h:=D16.outer (dom:=dom) (L1.sum (fo:=ZCA k) (ZNi L1.v))
  refine ⟨fo1 ZDP (fo1 ZPG L1.fOk),fun y hy=>?_,by rw [h.2.1,osm6 L1.v],by simp [szF,szs]⟩
  have hy':y=.lf l1∨y=.nd (.wd (zS "sum")) [.lf l1]∨y=.nd (.wd (zS "outer")) [.nd (.wd (zS "sum")) [.lf l1]]:=by simpa [alF,alL] using hy
  rcases hy' with rfl | rfl | rfl
  · exact L1.k
  · exact L1.okS.1
  · exact h.1
theorem ZRT (L0:Lv6 dom g hm l0 v1)(L1:Lv6 dom g hm l1 v2)(hz:z∈ZDS)(okf:ZBi (fltS z hm))(hs:s∈OPS)(h1:-4≤k)(h2:k≤4):∀ x∈X6a l0 l1 z s k v1 v2 hm,OkD dom g (ZCA k) hm x:=
  have hf:=ZKx h1 h2 L0.v
  List.forall_mem_cons.mpr ⟨D6_1 L0,List.forall_mem_cons.mpr ⟨D6_2 hz,List.forall_mem_cons.mpr ⟨D6_3 L1 hz okf hs,List.forall_mem_cons.mpr ⟨D6_4 L0 L1 hf hs,List.forall_mem_cons.mpr ⟨D6_5 L0 hf,List.forall_mem_cons.mpr ⟨D6_6 hz okf,List.forall_mem_cons.mpr ⟨D6_7 L0 hf,List.forall_mem_cons.mpr ⟨D6_8 L1,List.forall_mem_nil _⟩⟩⟩⟩⟩⟩⟩⟩
theorem ZPI (L0:Lv6 dom g hm l0 v1)(c:isF v1=false):v1∈(alF (.nd (.wd (zS "outer")) [.lf l0])).flatMap (lg6 fo g hm):=by
  refine List.mem_flatMap.mpr ⟨.nd (.wd (zS "outer")) [.lf l0],by simp [alF,alL],?_⟩
  rw [(D16.outer (dom:=dom) (fo:=fo) L0.d).2.2]
  unfold ouL
  rw [if_neg (by rw [c];decide)]
  exact List.mem_singleton.mpr rfl
end
structure Du (K:PySem.W.Frag)(S:Addr×List Int)(PR PL:Addr)(H:Hp)(p:Addr)(n:Nat)(kn:Addr)(kvs:List (List Key×V))(H0:Hp)(ld:Addr)(us:List V)(xs:List (Fm×Vl)):Prop where
  e:ZFh K S PR PL H p n
  k:H kn=some (.dT kvs)
  l:H ld=some (.lst us)
  n:ld≠p
  d:Paired (ZEQ H) us xs
  q:Kp H0 H
  h:∃ q r,us=.ref q::r
section
variable {K:PySem.W.Frag}{S:Addr×List Int}{PR PL p kn ld:Addr}{H H' H0:Hp}{n:Nat}{kvs:List (List Key×V)}{us:List V}{xs:List (Fm×Vl)}{u:V}{x:Fm×Vl}
theorem Du.add (h:Du K S PR PL H p n kn kvs H0 ld us xs)(s:ZAM H H')(d:ZEQ H' u x):Du K S PR PL (upd H' ld (.lst (us++[u]))) p n kn kvs H0 ld (us++[u]) (xs++[x]):=by
  obtain ⟨e,k,l,ne,pd,q,q0,r0,rfl⟩:=h
  have l':=s _ _ l
  have kA:Kp H' (upd H' ld (.lst (.ref q0::r0++[u]))):=ZFR l'
  have nk:kn≠ld:=ZCH k l (by intro z;cases z)
  exact ⟨(e.same s).row l' ne,by rw [ZAa nk];exact s _ _ k,ZAE,ne,ZHN (Paired.imp' (fun _ _ x=>ZEQ.kp x ((Kp.same s).trans kA)) pd) (d.kp kA),q.trans ((Kp.same s).trans kA),q0,r0++[u],rfl⟩
theorem Du.len (h:Du K S PR PL H p n kn kvs H0 ld us xs)(z:xs.length≤1000):us.length≤1000:=by rw [Paired.length h.d];exact z
end
def SmX (L:Addr)(H H':Hp):Prop:=∀ b o,b≠L→H b=some o→dat o=true→H' b=some o
theorem SmX.kp {L:Addr}{H H':Hp}{us:List V}(h:SmX L H H')(hl:H L=some (.lst us)):Kp H H':=fun a xs e=>h a _ (ZCH e hl (by intro z;cases z)) e rfl
theorem DpF.kq {kn:Addr}{dom:Str→Int→Int→Prop}{g:Str→Int→Int→Vl}{H H':Hp}{kvs:List (List Key×V)}(h:DpF kn dom g H)(h1:H kn=some (.dT kvs))(h2:H' kn=some (.dT kvs))(s:Kp H H'):DpF kn dom g H':=by
  obtain ⟨kv,e,d⟩:=h
  rw [h1] at e
  cases e
  exact ⟨kvs,h2,fun z r c dm=>let ⟨x,hx,vx⟩:=d z r c dm;⟨x,hx,vx.kp s⟩⟩
theorem ZK2 {a b c d e f g u:TS}{D:ZHd}{σ:St}{H:Hp}(x:∀ N:St→Hp→Prop,(∀ σ' H',u D σ' H'→N σ' H')→ZEl a (ZEl b (ZEl c (ZEl d (ZEl e (ZEl f g))))) { D with nx:=N } σ H):ZEl a (ZEl b (ZEl c (ZEl d (ZEl e (ZEl f (ZEl g u)))))) D σ H:=x (u D) fun _ _ h=>h
theorem ZK3 {a b c d e u:TS}{D:ZHd}{σ:St}{H:Hp}(x:∀ N:St→Hp→Prop,(∀ σ' H',u D σ' H'→N σ' H')→ZEl a (ZEl b (ZEl c (ZEl d e))) { D with nx:=N } σ H):ZEl a (ZEl b (ZEl c (ZEl d (ZEl e u)))) D σ H:=x (u D) fun _ _ h=>h
theorem ZEZ {t u:TS}{D:ZHd}{σ:St}{H:Hp}(J:St→Hp→Prop)(a:∀ N:St→Hp→Prop,(∀ σ' H',J σ' H'→N σ' H')→t { D with nx:=N } σ H)(ZEu:∀ σ' H',J σ' H'→u D σ' H'):ZEl t u D σ H:=a _ ZEu
end Fs
open PySem L2 Mx Fs
namespace Fs
def top (i:Nat):Stmt:=PySem.Challenge.pw_freshsheet_k36_faults_and_the_outside.main.body.getD i (.Pass ⟨0,0,0,0⟩)
abbrev ZCm:Stmt:=top 4
abbrev ZAv:Stmt:=top 5
abbrev ZCK:Stmt:=top 6
abbrev ZCL:Stmt:=top 7
abbrev ZDm:Stmt:=top 8
abbrev ZBL:Stmt:=top 9
abbrev ZB5:Stmt:=top 10
abbrev ZBm:Stmt:=top 11
abbrev ZDG:Stmt:=top 12
abbrev ZA5:Stmt:=top 21
abbrev ZA6:Stmt:=top 22
abbrev ZCM:Stmt:=top 28
abbrev ZBU:Stmt:=top 29
abbrev ZAw:Stmt:=top 30
abbrev ZCN:Stmt:=top 15
abbrev ZDH:Stmt:=top 23
abbrev ZBn:Stmt:=top 24
abbrev ZB6:Stmt:=top 25
abbrev ZCn:Stmt:=top 31
abbrev ZBV:Stmt:=top 32
abbrev ZDn:Stmt:=top 33
abbrev ZBo:Stmt:=top 35
abbrev ZBW:Stmt:=top 62
abbrev ZBX:Stmt:=top 36
abbrev ZBY:Stmt:=top 38
abbrev ZCO:Stmt:=top 39
abbrev ZBp:Stmt:=top 43
abbrev ZBM:Stmt:=top 44
abbrev ZB7:Stmt:=top 45
abbrev ZCP:Stmt:=top 46
abbrev ZCQ:Stmt:=top 47
abbrev ZBN:Stmt:=top 40
abbrev ZBZ:Stmt:=top 66
abbrev ZCo:Stmt:=top 16
abbrev ZBa:Stmt:=top 37
abbrev ZCp:Stmt:=top 55
abbrev ZBb:Stmt:=top 56
abbrev ZCR:Stmt:=top 57
abbrev ZBO:Stmt:=top 58
abbrev ZBq:Stmt:=top 61
abbrev ZBr:Stmt:=top 64
abbrev ZB8:Stmt:=top 65
abbrev ZBs:Stmt:=top 69
abbrev ZBc:Stmt:=top 70
abbrev ZBD:Stmt:=top 71
abbrev ZCq:Stmt:=top 72
abbrev ZBE:Stmt:=top 87
abbrev ZAx:Stmt:=top 86
abbrev ZBt:Stmt:=top 77
abbrev ZA7:Stmt:=top 88
abbrev ZBu:Stmt:=top 89
abbrev ZBd:Stmt:=top 74
abbrev ZCr:Stmt:=top 75
abbrev ZCS:Stmt:=top 76
abbrev ZA8:Stmt:=top 78
abbrev ZAy:Stmt:=top 79
abbrev ZAz:Stmt:=top 80
abbrev ZCT:Stmt:=top 82
abbrev ZBP:Stmt:=top 83
abbrev ZA0:Stmt:=top 84
abbrev ZBe:Stmt:=top 90
abbrev ZCU:Stmt:=top 91
abbrev ZBv:Stmt:=top 92
abbrev ZJI:Stmt:=top 93
theorem ZCY {α:Type}{us:List α}(h:us.length=1):∃ a0,us=[a0]:=match us,h with | [a0],_=>⟨a0,rfl⟩
theorem ZB9 {α:Type}{us:List α}(h:us.length=2):∃ a0 a1,us=[a0,a1]:=match us,h with | [a0,a1],_=>⟨a0,a1,rfl⟩
theorem ZNj {α:Type}{us:List α}(h:us.length=3):∃ a0 a1 a2,us=[a0,a1,a2]:=match us,h with | [a0,a1,a2],_=>⟨a0,a1,a2,rfl⟩
theorem ZHT {α:Type}{us:List α}(h:us.length=4):∃ a0 a1 a2 a3,us=[a0,a1,a2,a3]:=match us,h with | [a0,a1,a2,a3],_=>⟨a0,a1,a2,a3,rfl⟩
theorem ZPJ {α:Type}{us:List α}(h:us.length=5):∃ a0 a1 a2 a3 a4,us=[a0,a1,a2,a3,a4]:=match us,h with | [a0,a1,a2,a3,a4],_=>⟨a0,a1,a2,a3,a4,rfl⟩
set_option genInjectivity false in
set_option genSizeOf false in
structure Ad where
  f_is_whole:Addr
  d_is_whole:FuncData
  f_greatest_divisor:Addr
  d_greatest_divisor:FuncData
  f_is_number:Addr
  d_is_number:FuncData
  f_number_of:Addr
  d_number_of:FuncData
  f_sum_of:Addr
  d_sum_of:FuncData
  f_difference_of:Addr
  d_difference_of:FuncData
  f_product_of:Addr
  d_product_of:FuncData
  f_quotient_of:Addr
  d_quotient_of:FuncData
  f_is_less:Addr
  d_is_less:FuncData
  f_has_few_figures:Addr
  d_has_few_figures:FuncData
  f_is_short_number:Addr
  d_is_short_number:FuncData
  f_number_in:Addr
  d_number_in:FuncData
  f_number_value:Addr
  d_number_value:FuncData
  f_reckoned_numbers:Addr
  d_reckoned_numbers:FuncData
  f_cell_text:Addr
  d_cell_text:FuncData
  f_is_text:Addr
  d_is_text:FuncData
  f_number_text:Addr
  d_number_text:FuncData
  f_value_text:Addr
  d_value_text:FuncData
  f_signs_in:Addr
  d_signs_in:FuncData
  f_joined_texts:Addr
  d_joined_texts:FuncData
  f_signed:Addr
  d_signed:FuncData
  f_table_shape:Addr
  d_table_shape:FuncData
  f_fitted_shape:Addr
  d_fitted_shape:FuncData
  f_filled_table:Addr
  d_filled_table:FuncData
  f_spread_table:Addr
  d_spread_table:FuncData
  f_values_in:Addr
  d_values_in:FuncData
  f_first_fault:Addr
  d_first_fault:FuncData
  f_numbers_among:Addr
  d_numbers_among:FuncData
  f_sum_of_all:Addr
  d_sum_of_all:FuncData
  f_sum_among:Addr
  d_sum_among:FuncData
  f_summed_up:Addr
  d_summed_up:FuncData
  f_table_in_rows:Addr
  d_table_in_rows:FuncData
  f_signed_table:Addr
  d_signed_table:FuncData
  f_cells_of:Addr
  d_cells_of:FuncData
  f_table_of_one:Addr
  d_table_of_one:FuncData
  f_parts_of:Addr
  d_parts_of:FuncData
  f_block_led_to:Addr
  d_block_led_to:FuncData
  f_all_parts:Addr
  d_all_parts:FuncData
  f_told_by_parts:Addr
  d_told_by_parts:FuncData
  f_block_shape:Addr
  d_block_shape:FuncData
  f_shown_table:Addr
  d_shown_table:FuncData
  f_leaf_table:Addr
  d_leaf_table:FuncData
  f_outer_value:Addr
  d_outer_value:FuncData
  f_single_value:Addr
  d_single_value:FuncData
  f_table_by_parts:Addr
  d_table_by_parts:FuncData
  f_reckoned:Addr
  d_reckoned:FuncData
  f__law_in_bounds:Addr
  d__law_in_bounds:FuncData
  f__law_plain_signs:Addr
  d__law_plain_signs:FuncData
  f__law_lowest:Addr
  d__law_lowest:FuncData
  f__law_of_numbers:Addr
  d__law_of_numbers:FuncData
  f__law_of_two:Addr
  d__law_of_two:FuncData
  f__law_cell_at:Addr
  d__law_cell_at:FuncData
  f__law_pen:Addr
  d__law_pen:FuncData
  f__law_take:Addr
  d__law_take:FuncData
  f__law_drawn_cell:Addr
  d__law_drawn_cell:FuncData
  f__law_great_value:Addr
  d__law_great_value:FuncData
  f__law_drawn_value:Addr
  d__law_drawn_value:FuncData
  f__law_laid:Addr
  d__law_laid:FuncData
  f__law_put_down:Addr
  d__law_put_down:FuncData
  f__law_typed_alike:Addr
  d__law_typed_alike:FuncData
  f__law_outside:Addr
  d__law_outside:FuncData
  f__law_note:Addr
  d__law_note:FuncData
  f__law_of_sum:Addr
  d__law_of_sum:FuncData
  f_law:Addr
  d_law:FuncData
  c_reckoned:Addr
  P_reckoned:Addr
  c_law:Addr
  P_law:Addr
structure Txt (w:World)(K:PySem.W.Frag)(mg:Str→Option Value)(t:Ad):Prop where
  c_is_whole:Df K mg "is_whole" ZCm ["thing"] t.f_is_whole t.d_is_whole
  c_greatest_divisor:Df K mg "greatest_divisor" ZAv ["one","other"] t.f_greatest_divisor t.d_greatest_divisor
  c_is_number:Df K mg "is_number" ZCK ["top","bottom"] t.f_is_number t.d_is_number
  c_number_of:Df K mg "number_of" ZCL ["top","bottom"] t.f_number_of t.d_number_of
  c_sum_of:Df K mg "sum_of" ZDm ["a","b"] t.f_sum_of t.d_sum_of
  c_difference_of:Df K mg "difference_of" ZBL ["a","b"] t.f_difference_of t.d_difference_of
  c_product_of:Df K mg "product_of" ZB5 ["a","b"] t.f_product_of t.d_product_of
  c_quotient_of:Df K mg "quotient_of" ZBm ["a","b"] t.f_quotient_of t.d_quotient_of
  c_is_less:Df K mg "is_less" ZDG ["a","b"] t.f_is_less t.d_is_less
  c_has_few_figures:Df K mg "has_few_figures" ZA5 ["thing"] t.f_has_few_figures t.d_has_few_figures
  c_is_short_number:Df K mg "is_short_number" ZA6 ["top","bottom"] t.f_is_short_number t.d_is_short_number
  c_number_in:Df K mg "number_in" ZCM ["value"] t.f_number_in t.d_number_in
  c_number_value:Df K mg "number_value" ZBU ["number","cell"] t.f_number_value t.d_number_value
  c_reckoned_numbers:Df K mg "reckoned_numbers" ZAw ["sign","a","b","cell"] t.f_reckoned_numbers t.d_reckoned_numbers
  c_cell_text:Df K mg "cell_text" ZCN ["cell"] t.f_cell_text t.d_cell_text
  c_is_text:Df K mg "is_text" ZDH ["thing"] t.f_is_text t.d_is_text
  c_number_text:Df K mg "number_text" ZBn ["top","bottom"] t.f_number_text t.d_number_text
  c_value_text:Df K mg "value_text" ZB6 ["value"] t.f_value_text t.d_value_text
  c_signs_in:Df K mg "signs_in" ZCn ["value"] t.f_signs_in t.d_signs_in
  c_joined_texts:Df K mg "joined_texts" ZBV ["one","other","cell"] t.f_joined_texts t.d_joined_texts
  c_signed:Df K mg "signed" ZDn ["sign","one","other","cell"] t.f_signed t.d_signed
  c_table_shape:Df K mg "table_shape" ZBo ["table"] t.f_table_shape t.d_table_shape
  c_fitted_shape:Df K mg "fitted_shape" ZBW ["one","other"] t.f_fitted_shape t.d_fitted_shape
  c_filled_table:Df K mg "filled_table" ZBX ["shape","value"] t.f_filled_table t.d_filled_table
  c_spread_table:Df K mg "spread_table" ZBY ["table","shape"] t.f_spread_table t.d_spread_table
  c_values_in:Df K mg "values_in" ZCO ["table"] t.f_values_in t.d_values_in
  c_first_fault:Df K mg "first_fault" ZBp ["values"] t.f_first_fault t.d_first_fault
  c_numbers_among:Df K mg "numbers_among" ZBM ["values"] t.f_numbers_among t.d_numbers_among
  c_sum_of_all:Df K mg "sum_of_all" ZB7 ["numbers"] t.f_sum_of_all t.d_sum_of_all
  c_sum_among:Df K mg "sum_among" ZCP ["values","cell"] t.f_sum_among t.d_sum_among
  c_summed_up:Df K mg "summed_up" ZCQ ["table","cell"] t.f_summed_up t.d_summed_up
  c_table_in_rows:Df K mg "table_in_rows" ZBN ["values","wide"] t.f_table_in_rows t.d_table_in_rows
  c_signed_table:Df K mg "signed_table" ZBZ ["sign","one","other","cell"] t.f_signed_table t.d_signed_table
  c_cells_of:Df K mg "cells_of" ZCo ["block"] t.f_cells_of t.d_cells_of
  c_table_of_one:Df K mg "table_of_one" ZBa ["value"] t.f_table_of_one t.d_table_of_one
  c_parts_of:Df K mg "parts_of" ZCp ["formula"] t.f_parts_of t.d_parts_of
  c_block_led_to:Df K mg "block_led_to" ZBb ["reference"] t.f_block_led_to t.d_block_led_to
  c_all_parts:Df K mg "all_parts" ZCR ["formula"] t.f_all_parts t.d_all_parts
  c_told_by_parts:Df K mg "told_by_parts" ZBO ["row","tell_one"] t.f_told_by_parts t.d_told_by_parts
  c_block_shape:Df K mg "block_shape" ZBq ["block"] t.f_block_shape t.d_block_shape
  c_shown_table:Df K mg "shown_table" ZBr ["block","shows"] t.f_shown_table t.d_shown_table
  c_leaf_table:Df K mg "leaf_table" ZB8 ["leaf","cell","shows"] t.f_leaf_table t.d_leaf_table
  c_outer_value:Df K mg "outer_value" ZBs ["value","outer"] t.f_outer_value t.d_outer_value
  c_single_value:Df K mg "single_value" ZBc ["formula","tables","cell","outer"] t.f_single_value t.d_single_value
  c_table_by_parts:Df K mg "table_by_parts" ZBD ["formula","tables","cell","shows","outer"] t.f_table_by_parts t.d_table_by_parts
  c_reckoned:Df K mg "reckoned" ZCq ["opened","cell","shows","outer"] t.f_reckoned t.d_reckoned
  c__law_in_bounds:Df K mg "_law_in_bounds" ZBE ["_law_one","_law_home"] t.f__law_in_bounds t.d__law_in_bounds
  c__law_plain_signs:Df K mg "_law_plain_signs" ZAx ["_law_one"] t.f__law_plain_signs t.d__law_plain_signs
  c__law_lowest:Df K mg "_law_lowest" ZBt ["_law_top","_law_bottom"] t.f__law_lowest t.d__law_lowest
  c__law_of_numbers:Df K mg "_law_of_numbers" ZA7 ["_law_sign","_law_a","_law_b","_law_home"] t.f__law_of_numbers t.d__law_of_numbers
  c__law_of_two:Df K mg "_law_of_two" ZBu ["_law_sign","_law_a","_law_b","_law_home"] t.f__law_of_two t.d__law_of_two
  c__law_cell_at:Df K mg "_law_cell_at" ZBd ["_law_script","_law_k"] t.f__law_cell_at t.d__law_cell_at
  c__law_pen:Df K mg "_law_pen" ZCr ["_law_script"] t.f__law_pen t.d__law_pen
  c__law_take:Df K mg "_law_take" ZCS ["_law_pen_here","_law_most"] t.f__law_take t.d__law_take
  c__law_drawn_cell:Df K mg "_law_drawn_cell" ZA8 ["_law_pen_here"] t.f__law_drawn_cell t.d__law_drawn_cell
  c__law_great_value:Df K mg "_law_great_value" ZAy ["_law_pen_here"] t.f__law_great_value t.d__law_great_value
  c__law_drawn_value:Df K mg "_law_drawn_value" ZAz ["_law_pen_here"] t.f__law_drawn_value t.d__law_drawn_value
  c__law_laid:Df K mg "_law_laid" ZCT ["_law_known","_law_sheet","_law_table","_law_high","_law_wide"] t.f__law_laid t.d__law_laid
  c__law_put_down:Df K mg "_law_put_down" ZBP ["_law_pen_here","_law_known","_law_sheet","_law_table"] t.f__law_put_down t.d__law_put_down
  c__law_typed_alike:Df K mg "_law_typed_alike" ZA0 ["_law_told","_law_due"] t.f__law_typed_alike t.d__law_typed_alike
  c__law_outside:Df K mg "_law_outside" ZBe ["_law_one","_law_more"] t.f__law_outside t.d__law_outside
  c__law_note:Df K mg "_law_note" ZCU ["_law_asked","_law_own","_law_more"] t.f__law_note t.d__law_note
  c__law_of_sum:Df K mg "_law_of_sum" ZBv ["_law_other","_law_more"] t.f__law_of_sum t.d__law_of_sum
  c_law:Df K mg "law" ZJI ["_law_script"] t.f_law t.d_law
  len:mg "len"=none
  range:mg "range"=none
  isinstance:mg "isinstance"=none
  int:mg "int"=none
  bool:mg "bool"=none
  str:mg "str"=none
  tuple:mg "tuple"=none
  list:mg "list"=none
  reversed:mg "reversed"=none
  min:mg "min"=none
  all:mg "all"=none
  abs:mg "abs"=none
  enumerate:mg "enumerate"=none
  zip:mg "zip"=none
  max:mg "max"=none
  v_PART_PLACES:ZRt w K mg "PART_PLACES" PPK
  v_ONE_PLACE:ZQR K mg "ONE_PLACE" [V.int 1,V.int 1]
  v_GREATEST_WHOLE:ZQK mg "GREATEST_WHOLE" 999999999999999999999999999999
  v_SIGNS:ZQJ mg "SIGNS" (Str.ofString "abcdefghijklmnopqrstuvwxyz0123456789 ")
  v_MOST_SIGNS:ZQK mg "MOST_SIGNS" 20
  v_COLUMN_LETTERS:ZQJ mg "COLUMN_LETTERS" (Str.ofString "ABCDEFGHIJKLMNOPQRSTUVWXYZ")
  v_NOUGHT:ZQR K mg "NOUGHT" [V.str (Str.ofString "number"),V.int 0,V.int 1]
  kist:PySem.W.kitOne K (.type "str") (.type "tuple")=some false
  kiit:PySem.W.kitOne K (.type "int") (.type "tuple")=some false
  kib:PySem.W.kitOne K (.type "int") (.type "bool")=some false
  ki_bt:PySem.W.kitOne K (.type "bool") (.type "tuple")=some false
  ki_sb:PySem.W.kitOne K (.type "str") (.type "bool")=some false
  ki_si:PySem.W.kitOne K (.type "str") (.type "int")=some false
  kc_reckoned:t.d_reckoned.code=.ref t.c_reckoned
  kc_law:t.d_law.code=.ref t.c_law
  ne_reckoned_law:t.P_reckoned≠t.P_law
seal PE PT PW PA PS PSs PI PG PGs PF PO PJ OpR ZD9 IxR SlR
section
variable {P:Program}{w:World}{K:PySem.W.Frag}{mg:Str→Option Value}{base:Heap}{t:Ad}
theorem ZJJ:ZAS ["thing"] ["thing"] (ZAF ZCm):=⟨rfl,rfl,rfl,by decide +kernel,rfl,by decide +kernel,by decide +kernel⟩
theorem ZH8 (T:Txt w K mg t):ZBS P w K mg base CX0 1 t.f_is_whole t.d_is_whole ["thing"] ZNH:=by
  have D:=T.c_is_whole
  refine D.fn.ok ZJJ (fun vs H Q E h=>?_) (fun cdv A outer s H vs Q E hr h=>?_)
  · obtain ⟨i,rfl,_⟩:=h
    rfl
  · obtain ⟨i,rfl,k⟩:=h
    refine ⟨_,((ZAG (ZAK (ZDB (ZAU ZAi (by rfl) T.isinstance ZAV (ZAA (pv 0) (ZAA (ZBz T.int ZCh) ZAB))) (ZDW (ZL7 (ZAU ZAi (by rfl) T.isinstance ZAV (ZAA (pv 0) (ZAA (ZBz T.bool ZCD) ZAB))))))))),?_⟩
    refine ⟨_,rfl,_,_,_,_,true,rfl,.int _,rfl,(fun _=>.inr trivial),ZCe _ _,true,rfl,ZBR ?_⟩
    exact ⟨_,rfl,_,_,_,_,false,rfl,.int _,rfl,(fun _=>.inr trivial),T.kib,false,rfl,k⟩
theorem ZA1:ZAS ["one","other","greater","lesser","rest"] ["one","other"] (ZAF ZAv):=⟨rfl,rfl,rfl,by decide +kernel,rfl,by decide +kernel,by decide +kernel⟩
theorem ZCu (T:Txt w K mg t):ZBS P w K mg base CX0 1 t.f_greatest_divisor t.d_greatest_divisor ["one","other"] spGd:=by
  have D:=T.c_greatest_divisor
  refine D.fn.ok ZA1 (fun vs H Q E h=>?_) (fun cdv A outer s H vs Q E hr h=>?_)
  · obtain ⟨a,b,rfl,_⟩:=h
    rfl
  · obtain ⟨a,b,rfl,k⟩:=h
    refine ⟨_,((ZAD (ZAd (i:=2) ZA1.nd rfl (Or.inl rfl) (ZAU ZDg (by rfl) T.abs ZDj (ZAA (pv 0) ZAB)))
      (ZAD (ZAd (i:=3) ZA1.nd rfl (Or.inl rfl) (ZAU ZDg (by rfl) T.abs ZDj (ZAA (pv 1) ZAB)))
      (ZAD (ZGB PassesOwn.never (ZAL ZHk (pv 3) ZAC (ZAO _)) (ZAD (ZAd (i:=4) ZA1.nd rfl (Or.inl rfl) (ZAZ ZDD (pv 2) (pv 3)))
      (ZAD (ZAd (i:=2) ZA1.nd rfl (Or.inl rfl) (pv 3))
      (ZAG (ZAd (i:=3) ZA1.nd rfl (Or.inl rfl) (pv 4))))))
      (ZAG (ZAK (pv 2))))))),?_⟩
    refine ⟨_,rfl,a,rfl,_,rfl,b,rfl,?_⟩
    refine ZIL (fun σ H'=>H'=H∧∃ (m n:Nat) (r:Option V),σ=[some (.int a),some (.int b),some (.int m),some (.int n),r]∧Nat.gcd m n=Nat.gcd a.natAbs b.natAbs)
      (fun σ _=>ZOd σ) ⟨rfl,a.natAbs,b.natAbs,none,by rw [← ZIh a,← ZIh b];rfl,rfl⟩ ?_ (fun σ H Q Q' hq ⟨v,e,z,c,e2,q⟩=>⟨v,e,z,c,e2,hq _ _ q⟩)
    rintro σ H' ⟨rfl,m,n,r,rfl,hg⟩
    refine ⟨_,rfl,rfl,_,rfl,?_⟩
    refine ZDJ (fun hc=>?_) (fun hc=>?_)
    · have hn:n≠0:=by intro z;subst z;simp at hc
      refine ⟨_,rfl,_,rfl,_,_,rfl,rfl,(by show (0:Int)<(n:Int);omega),_,rfl,_,rfl,?_⟩
      refine ⟨⟨rfl,n,m%n,some (.int ((m:Int)%(n:Int))),?_,by rw [ZIg];exact hg⟩,?_⟩
      · rw [Int.natCast_emod];rfl
      · show ((m:Int)%(n:Int)).toNat<((n:Int)).toNat
        have h1:=Int.emod_lt_of_pos (m:Int) (show (0:Int)<n by omega)
        have h2:=Int.emod_nonneg (m:Int) (show (n:Int)≠0 by omega)
        omega
    · have hn:n=0:=by
        rcases Nat.eq_zero_or_pos n with z | z
        · exact z
        · exfalso;apply hc;simp;omega
      subst hn
      rw [Nat.gcd_zero_right] at hg
      rw [← hg] at k
      exact ⟨_,rfl,k⟩
theorem ZH9:ZAS ["top","bottom"] ["top","bottom"] (ZAF ZCK):=⟨rfl,rfl,rfl,by decide +kernel,rfl,by decide +kernel,by decide +kernel⟩
theorem ZHU (T:Txt w K mg t):ZBS P w K mg base CX0 2 t.f_is_number t.d_is_number ["top","bottom"] ZQS:=by
  have D:=T.c_is_number
  refine D.fn.ok ZH9 (fun vs H Q E h=>?_) (fun cdv A outer s H vs Q E hr h=>?_)
  · obtain ⟨t,b,rfl,_⟩:=h
    rfl
  · obtain ⟨t,b,rfl,lo,k⟩:=h
    refine ⟨_,((ZAG (ZAK (ZDB (ZBB ZMo (pv 1) ZAC (ZAO _)) (ZDW (ZBB ZAm (ZAW T.c_greatest_divisor (ZCu T) (hr.mono (by decide)) (ZAA (pv 0) (ZAA (pv 1) ZAB))) ZAC (ZAO _))))))),?_⟩
    have hp:=lo.pos
    refine ⟨_,rfl,_,_,rfl,rfl,true,(by simp;omega),ZBR ?_⟩
    exact ⟨_,rfl,_,rfl,t,b,rfl,rfl,rtv (eqI (by rw [lo.cop];rfl)) k⟩
theorem ZD4:ZAS ["top","bottom","divisor"] ["top","bottom"] (ZAF ZCL):=⟨rfl,rfl,rfl,by decide +kernel,rfl,by decide +kernel,by decide +kernel⟩
theorem ZCZ (T:Txt w K mg t):ZBS P w K mg base CX0 2 t.f_number_of t.d_number_of ["top","bottom"] ZQC:=by
  have D:=T.c_number_of
  refine D.fn.ok ZD4 (fun vs H Q E h=>?_) (fun cdv A outer s H vs Q E hr h=>?_)
  · obtain ⟨t,b,rfl,_⟩:=h
    rfl
  · obtain ⟨t,b,rfl,hb,hz,k⟩:=h
    refine ⟨_,((ZAD (ZAj (ZAL ZAm (pv 1) ZAC (ZAO _)) (ZAG ZCB) ZAP)
      (ZAD (ZAd (i:=2) ZD4.nd rfl (Or.inl rfl) (ZAW T.c_greatest_divisor (ZCu T) (hr.mono (by decide)) (ZAA (pv 0) (ZAA (pv 1) ZAB))))
      (ZAD (ZAj (ZAL ZGC (pv 1) ZAC (ZAO _)) (ZAG (ZAd (i:=2) ZD4.nd rfl (Or.inl rfl) (ZLD ZIM (pv 2)))) ZAP)
      (ZAG (ZAK (ZAb (ZAX (ZAZ ZED (pv 0) (pv 2)) (ZAX (ZAZ ZED (pv 1) (pv 2)) ZAB))))))))),?_⟩
    refine ⟨_,rfl,rfl,_,rfl,?_⟩
    refine ZDJ (fun hc=>absurd (by simpa using hc) hb) (fun _=>?_)
    refine ⟨_,rfl,_,rfl,t,b,rfl,?_⟩
    refine ⟨_,rfl,_,_,rfl,rfl,_,rfl,?_⟩
    have h0:=ZJC (t:=t) hb
    have h1:=ZOe (t:=t) hb hz
    unfold ZDA ZCz at k
    refine ZDJ (fun hc=>?_) (fun hc=>?_)
    · have hc':b<0:=by simpa using hc
      have e:dv t b = -((Nat.gcd t.natAbs b.natAbs:Nat):Int):=if_pos hc'
      rw [e] at k h0 h1
      exact ⟨_,rfl,_,rfl,_,rfl,_,rfl,_,_,rfl,rfl,⟨h0,h1⟩,_,rfl,_,rfl,_,_,rfl,rfl,⟨h0,h1⟩,ZAn,k⟩
    · have hc':¬ b<0:=by simpa using hc
      have e:dv t b=((Nat.gcd t.natAbs b.natAbs:Nat):Int):=if_neg hc'
      rw [e] at k h0 h1
      exact ⟨_,rfl,_,rfl,_,_,rfl,rfl,⟨h0,h1⟩,_,rfl,_,rfl,_,_,rfl,rfl,⟨h0,h1⟩,ZAn,k⟩
theorem ZL6:ZAS ["a","b"] ["a","b"] (ZAF ZDm):=⟨rfl,rfl,rfl,by decide +kernel,rfl,by decide +kernel,by decide +kernel⟩
theorem ZK4 (T:Txt w K mg t):ZBS P w K mg base CX0 3 t.f_sum_of t.d_sum_of ["a","b"] ZQD:=by
  have D:=T.c_sum_of
  refine D.fn.ok ZL6 (fun vs H Q E h=>?_) (fun cdv A outer s H vs Q E hr h=>?_)
  · obtain ⟨p,q,a,b,c,d,m,n,rfl,_⟩:=h
    rfl
  · obtain ⟨p,q,a,b,c,d,m,n,rfl,hp,hq,hmn,hC,k⟩:=h
    have hne:=ne2 hp.ne0 hq.ne0
    refine ⟨_,((ZAG (ZAK (ZAW T.c_number_of (ZCZ T) (hr.mono (by decide)) (ZAX (ZAZ ZA9 (ZAZ ZAq (ZAN ZAJ (pv 0) ZAC (fun _ _=>rfl)) (ZAN ZAJ (pv 1) ZAC (fun _ _=>rfl))) (ZAZ ZAq (ZAN ZAJ (pv 1) ZAC (fun _ _=>rfl)) (ZAN ZAJ (pv 0) ZAC (fun _ _=>rfl)))) (ZAX (ZAZ ZAq (ZAN ZAJ (pv 0) ZAC (fun _ _=>rfl)) (ZAN ZAJ (pv 1) ZAC (fun _ _=>rfl))) ZAB)))))),?_⟩
    refine ⟨_,rfl,p,_,_,_,rfl,rfl,SqT.of hp.ob,rfl,_,rfl,q,_,_,_,rfl,rfl,SqT.of hq.ob,rfl,_,_,rfl,rfl,⟨hp.sx.mono (by omega),hq.sy.mono (by omega)⟩,_,rfl,q,_,_,_,rfl,rfl,SqT.of hq.ob,rfl,_,rfl,p,_,_,_,rfl,rfl,SqT.of hp.ob,rfl,_,_,rfl,rfl,⟨hq.sx.mono (by omega),hp.sy.mono (by omega)⟩,_,_,rfl,rfl,_,rfl,p,_,_,_,rfl,rfl,SqT.of hp.ob,rfl,_,rfl,q,_,_,_,rfl,rfl,SqT.of hq.ob,rfl,_,_,rfl,rfl,⟨hp.sy.mono (by omega),hq.sy.mono (by omega)⟩,_,_,rfl,hne,(hp.sy.mul hq.sy).mono (by omega),fun r hr'=>?_⟩
    exact k r _ (ZAM.new hr') ⟨ZAE,ZC5 hne,ZGS hne (((hp.sx.mul hq.sy).add ((hq.sx.mul hp.sy).mono (Nat.le_of_eq (Nat.add_comm _ _))))),ZGT hne ((hp.sy.mul hq.sy).mono (Nat.le_succ _))⟩
theorem ZFU:ZAS ["a","b"] ["a","b"] (ZAF ZBL):=⟨rfl,rfl,rfl,by decide +kernel,rfl,by decide +kernel,by decide +kernel⟩
theorem ZEq (T:Txt w K mg t):ZBS P w K mg base CX0 3 t.f_difference_of t.d_difference_of ["a","b"] ZQE:=by
  have D:=T.c_difference_of
  refine D.fn.ok ZFU (fun vs H Q E h=>?_) (fun cdv A outer s H vs Q E hr h=>?_)
  · obtain ⟨p,q,a,b,c,d,m,n,rfl,_⟩:=h
    rfl
  · obtain ⟨p,q,a,b,c,d,m,n,rfl,hp,hq,hmn,hC,k⟩:=h
    have hne:=ne2 hp.ne0 hq.ne0
    refine ⟨_,((ZAG (ZAK (ZAW T.c_number_of (ZCZ T) (hr.mono (by decide)) (ZAX (ZAZ ZDC (ZAZ ZAq (ZAN ZAJ (pv 0) ZAC (fun _ _=>rfl)) (ZAN ZAJ (pv 1) ZAC (fun _ _=>rfl))) (ZAZ ZAq (ZAN ZAJ (pv 1) ZAC (fun _ _=>rfl)) (ZAN ZAJ (pv 0) ZAC (fun _ _=>rfl)))) (ZAX (ZAZ ZAq (ZAN ZAJ (pv 0) ZAC (fun _ _=>rfl)) (ZAN ZAJ (pv 1) ZAC (fun _ _=>rfl))) ZAB)))))),?_⟩
    refine ⟨_,rfl,p,_,_,_,rfl,rfl,SqT.of hp.ob,rfl,_,rfl,q,_,_,_,rfl,rfl,SqT.of hq.ob,rfl,_,_,rfl,rfl,⟨hp.sx.mono (by omega),hq.sy.mono (by omega)⟩,_,rfl,q,_,_,_,rfl,rfl,SqT.of hq.ob,rfl,_,rfl,p,_,_,_,rfl,rfl,SqT.of hp.ob,rfl,_,_,rfl,rfl,⟨hq.sx.mono (by omega),hp.sy.mono (by omega)⟩,_,_,rfl,rfl,_,rfl,p,_,_,_,rfl,rfl,SqT.of hp.ob,rfl,_,rfl,q,_,_,_,rfl,rfl,SqT.of hq.ob,rfl,_,_,rfl,rfl,⟨hp.sy.mono (by omega),hq.sy.mono (by omega)⟩,_,_,rfl,hne,(hp.sy.mul hq.sy).mono (by omega),fun r hr'=>?_⟩
    exact k r _ (ZAM.new hr') ⟨ZAE,ZC5 hne,ZGS hne (((hp.sx.mul hq.sy).sub ((hq.sx.mul hp.sy).mono (Nat.le_of_eq (Nat.add_comm _ _))))),ZGT hne ((hp.sy.mul hq.sy).mono (Nat.le_succ _))⟩
theorem ZHV:ZAS ["a","b"] ["a","b"] (ZAF ZB5):=⟨rfl,rfl,rfl,by decide +kernel,rfl,by decide +kernel,by decide +kernel⟩
theorem ZGh (T:Txt w K mg t):ZBS P w K mg base CX0 3 t.f_product_of t.d_product_of ["a","b"] ZQF:=by
  have D:=T.c_product_of
  refine D.fn.ok ZHV (fun vs H Q E h=>?_) (fun cdv A outer s H vs Q E hr h=>?_)
  · obtain ⟨p,q,a,b,c,d,m,n,rfl,_⟩:=h
    rfl
  · obtain ⟨p,q,a,b,c,d,m,n,rfl,hp,hq,hmn,hC,k⟩:=h
    have hne:=ne2 hp.ne0 hq.ne0
    refine ⟨_,((ZAG (ZAK (ZAW T.c_number_of (ZCZ T) (hr.mono (by decide)) (ZAX (ZAZ ZAq (ZAN ZAJ (pv 0) ZAC (fun _ _=>rfl)) (ZAN ZAJ (pv 1) ZAC (fun _ _=>rfl))) (ZAX (ZAZ ZAq (ZAN ZAJ (pv 0) ZAC (fun _ _=>rfl)) (ZAN ZAJ (pv 1) ZAC (fun _ _=>rfl))) ZAB)))))),?_⟩
    refine ⟨_,rfl,p,_,_,_,rfl,rfl,SqT.of hp.ob,rfl,_,rfl,q,_,_,_,rfl,rfl,SqT.of hq.ob,rfl,_,_,rfl,rfl,⟨hp.sx.mono (by omega),hq.sx.mono (by omega)⟩,_,rfl,p,_,_,_,rfl,rfl,SqT.of hp.ob,rfl,_,rfl,q,_,_,_,rfl,rfl,SqT.of hq.ob,rfl,_,_,rfl,rfl,⟨hp.sy.mono (by omega),hq.sy.mono (by omega)⟩,_,_,rfl,hne,(hp.sy.mul hq.sy).mono (by omega),fun r hr'=>?_⟩
    exact k r _ (ZAM.new hr') ⟨ZAE,ZC5 hne,ZGS hne ((hp.sx.mul hq.sx).mono (Nat.le_succ _)),ZGT hne ((hp.sy.mul hq.sy).mono (Nat.le_succ _))⟩
theorem ZGi:ZAS ["a","b"] ["a","b"] (ZAF ZBm):=⟨rfl,rfl,rfl,by decide +kernel,rfl,by decide +kernel,by decide +kernel⟩
theorem ZFn (T:Txt w K mg t):ZBS P w K mg base CX0 3 t.f_quotient_of t.d_quotient_of ["a","b"] ZQG:=by
  have D:=T.c_quotient_of
  refine D.fn.ok ZGi (fun vs H Q E h=>?_) (fun cdv A outer s H vs Q E hr h=>?_)
  · obtain ⟨p,q,a,b,c,d,m,n,rfl,_⟩:=h
    rfl
  · obtain ⟨p,q,a,b,c,d,m,n,rfl,hp,hq,hmn,hC,k⟩:=h
    have hne:=ne2 hp.ne0 hC
    refine ⟨_,((ZAG (ZAK (ZAW T.c_number_of (ZCZ T) (hr.mono (by decide)) (ZAX (ZAZ ZAq (ZAN ZAJ (pv 0) ZAC (fun _ _=>rfl)) (ZAN ZAJ (pv 1) ZAC (fun _ _=>rfl))) (ZAX (ZAZ ZAq (ZAN ZAJ (pv 0) ZAC (fun _ _=>rfl)) (ZAN ZAJ (pv 1) ZAC (fun _ _=>rfl))) ZAB)))))),?_⟩
    refine ⟨_,rfl,p,_,_,_,rfl,rfl,SqT.of hp.ob,rfl,_,rfl,q,_,_,_,rfl,rfl,SqT.of hq.ob,rfl,_,_,rfl,rfl,⟨hp.sx.mono (by omega),hq.sy.mono (by omega)⟩,_,rfl,p,_,_,_,rfl,rfl,SqT.of hp.ob,rfl,_,rfl,q,_,_,_,rfl,rfl,SqT.of hq.ob,rfl,_,_,rfl,rfl,⟨hp.sy.mono (by omega),hq.sx.mono (by omega)⟩,_,_,rfl,hne,(hp.sy.mul hq.sx).mono (by omega),fun r hr'=>?_⟩
    exact k r _ (ZAM.new hr') ⟨ZAE,ZC5 hne,ZGS hne ((hp.sx.mul hq.sy).mono (Nat.le_succ _)),ZGT hne ((hp.sy.mul hq.sx).mono (Nat.le_succ _))⟩
theorem ZK5:ZAS ["a","b"] ["a","b"] (ZAF ZDG):=⟨rfl,rfl,rfl,by decide +kernel,rfl,by decide +kernel,by decide +kernel⟩
theorem ZJK (T:Txt w K mg t):ZBS P w K mg base CX0 1 t.f_is_less t.d_is_less ["a","b"] ZOf:=by
  have D:=T.c_is_less
  refine D.fn.ok ZK5 (fun vs H Q E h=>?_) (fun cdv A outer s H vs Q E hr h=>?_)
  · obtain ⟨p,q,a,b,c,d,m,n,rfl,_⟩:=h
    rfl
  · obtain ⟨p,q,a,b,c,d,m,n,rfl,hp,hq,hmn,k⟩:=h
    refine ⟨_,((ZAG (ZAK (ZBB ZGC (ZAZ ZAq (ZAN ZAJ (pv 0) ZAC (fun _ _=>rfl)) (ZAN ZAJ (pv 1) ZAC (fun _ _=>rfl))) (ZAZ ZAq (ZAN ZAJ (pv 1) ZAC (fun _ _=>rfl)) (ZAN ZAJ (pv 0) ZAC (fun _ _=>rfl))) (ZAO _))))),?_⟩
    exact ⟨_,rfl,p,_,_,_,rfl,rfl,SqT.of hp.ob,rfl,_,rfl,q,_,_,_,rfl,rfl,SqT.of hq.ob,rfl,_,_,rfl,rfl,⟨hp.sx.mono (by omega),hq.sy.mono (by omega)⟩,_,rfl,q,_,_,_,rfl,rfl,SqT.of hq.ob,rfl,_,rfl,p,_,_,_,rfl,rfl,SqT.of hp.ob,rfl,_,_,rfl,rfl,⟨hq.sx.mono (by omega),hp.sy.mono (by omega)⟩,_,_,rfl,rfl,k⟩
theorem ZEa:ZAS ["thing"] ["thing"] (ZAF ZA5):=⟨rfl,rfl,rfl,by decide +kernel,rfl,by decide +kernel,by decide +kernel⟩
theorem ZC2 (T:Txt w K mg t):ZBS P w K mg base CX0 2 t.f_has_few_figures t.d_has_few_figures ["thing"] ZOw:=by
  have D:=T.c_has_few_figures
  refine D.fn.ok ZEa (fun vs H Q E h=>?_) (fun cdv A outer s H vs Q E hr h=>?_)
  · obtain ⟨i,rfl,_⟩:=h
    rfl
  · obtain ⟨i,rfl,k⟩:=h
    refine ⟨_,((ZAG (ZAK (ZDB (ZAW T.c_is_whole (ZH8 T) (hr.mono (by decide)) (ZAA (pv 0) ZAB)) (ZDW (ZBB ZPj (ZAU ZDg (by rfl) T.abs ZDj (ZAA (pv 0) ZAB)) (ZKN T.v_GREATEST_WHOLE) (ZAO _))))))),?_⟩
    refine ⟨_,rfl,i,rfl,true,rfl,ZBR ?_⟩
    exact ⟨_,rfl,i,rfl,_,_,rfl,rfl,k⟩
theorem ZEb:ZAS ["top","bottom"] ["top","bottom"] (ZAF ZA6):=⟨rfl,rfl,rfl,by decide +kernel,rfl,by decide +kernel,by decide +kernel⟩
theorem ZEL (T:Txt w K mg t):ZBS P w K mg base CX0 3 t.f_is_short_number t.d_is_short_number ["top","bottom"] ZQs:=by
  have D:=T.c_is_short_number
  refine D.fn.ok ZEb (fun vs H Q E h=>?_) (fun cdv A outer s H vs Q E hr h=>?_)
  · obtain ⟨t_,b,rfl,_⟩:=h
    rfl
  · obtain ⟨t_,b,rfl,low,k⟩:=h
    refine ⟨_,((ZAG (ZAK (ZDB (ZAW T.c_has_few_figures (ZC2 T) (hr.mono (by decide)) (ZAA (pv 0) ZAB)) (ZDB (ZAW T.c_has_few_figures (ZC2 T) (hr.mono (by decide)) (ZAA (pv 1) ZAB)) (ZDW (ZAW T.c_is_number (ZHU T) (hr.mono (by decide)) (ZAA (pv 0) (ZAA (pv 1) ZAB))))))))),?_⟩
    refine ⟨_,rfl,t_,rfl,few t_,rfl,?_⟩
    cases e1:few t_ with
    | false=>rw [e1] at k;exact ZAo k
    | true=>
      rw [e1] at k
      refine ZBR ⟨_,rfl,b,rfl,few b,rfl,?_⟩
      cases e2:few b with
      | false=>rw [e2] at k;exact ZAo k
      | true=>
        rw [e2] at k
        exact ZBR ⟨_,rfl,_,rfl,t_,b,rfl,low,k⟩
theorem ZIA:ZAS ["value"] ["value"] (ZAF ZCM):=⟨rfl,rfl,rfl,by decide +kernel,rfl,by decide +kernel,by decide +kernel⟩
theorem ZEj (T:Txt w K mg t):ZBS P w K mg base CX0 1 t.f_number_in t.d_number_in ["value"] (ZQt K):=by
  have D:=T.c_number_in
  refine D.fn.ok ZIA (fun vs H Q E h=>?_) (fun cdv A outer s H vs Q E hr h=>?_)
  · obtain ⟨u,v,rfl,_⟩:=h
    rfl
  · obtain ⟨u,v,rfl,hin,k⟩:=h
    refine ⟨_,((ZAD (ZAj (ZAL ZAm (ZAN ZAJ (pv 0) ZAC (fun _ _=>rfl)) ZAI (ZAO _)) (ZAG (ZAK (ZAb (ZAH ZAC (ZAH ZAC ZAB))))) ZAP)
      (ZAG (ZAK (ZCf (ZAL ZAm (ZAN ZAJ (pv 0) ZAC (fun _ _=>rfl)) ZAI (ZAO _)) (ZAb (ZAR (ZAN ZAJ (pv 0) ZAC (fun _ _=>rfl)) (ZAR (ZAN ZAJ (pv 0) ZAC (fun _ _=>rfl)) ZAB))) ZF0))))),?_⟩
    rcases hin with ⟨p,rfl,hv⟩ | ⟨rfl,q0,rfl,hc⟩
    case inr=>
      refine ⟨_,rfl,q0,_,_,_,rfl,rfl,hc _,rfl,rfl,false,(by decide +kernel),ZAo ?_⟩
      refine ⟨_,rfl,q0,_,_,_,rfl,rfl,hc _,rfl,rfl,true,(by decide +kernel),ZBR ?_⟩
      exact ⟨_,rfl,q0,_,_,_,rfl,rfl,hc _,rfl,_,rfl,q0,_,_,_,rfl,rfl,hc _,rfl,ZAn,fun q hq=>k _ _ ⟨q,rfl,ZAE⟩ (ZAM.new hq)⟩
    obtain ⟨xs,hp,_⟩:=hv.itm
    refine ⟨_,rfl,p,_,_,_,rfl,rfl,SqT.of hp,ZAc,rfl,_,rfl,ZDJ (fun c1=>?_) (fun c1=>?_)⟩
    · have e:v=.none:=by
        cases v with
        | none=>rfl
        | num t b=>exact absurd c1 (by show ¬ decide (V.str (Str.ofString "number")=vS "none")=true;decide +kernel)
        | txt z=>exact absurd c1 (by show ¬ decide (V.str (Str.ofString "text")=vS "none")=true;decide +kernel)
        | tru b=>exact absurd c1 (by show ¬ decide (V.str (Str.ofString "truth")=vS "none")=true;decide +kernel)
        | flt w z r c=>exact absurd c1 (by show ¬ decide (V.str (Str.ofString "fault")=vS "none")=true;decide +kernel)
      subst e
      exact ⟨ZAn,fun q hq=>k _ _ ⟨q,rfl,ZAE⟩ (ZAM.new hq)⟩
    · refine ⟨_,rfl,p,_,_,_,rfl,rfl,SqT.of hp,ZAc,rfl,_,rfl,ZDJ (fun c2=>?_) (fun c2=>?_)⟩
      · obtain ⟨t_,b_,rfl⟩:=hv.num_of c2
        have hp':H p=some (.tup [vS "number",.int t_,.int b_]):=hv
        exact ⟨_,rfl,p,_,_,_,rfl,rfl,SqT.of hp',rfl,_,rfl,p,_,_,_,rfl,rfl,SqT.of hp',rfl,ZAn,fun q hq=>k _ _ ⟨q,rfl,ZAE⟩ (ZAM.new hq)⟩
      · have e:ZCc v=none:=by
          cases v with
          | none=>exact absurd (by show decide (V.str (Str.ofString "none")=vS "none")=true;decide +kernel) c1
          | num t b=>exact absurd (by show decide (V.str (Str.ofString "number")=vS "number")=true;decide +kernel) c2
          | txt z=>rfl
          | tru b=>rfl
          | flt w z r c=>rfl
        rw [e] at k
        exact k _ _ rfl (ZAM.refl _)
theorem ZFo:ZAS ["number","cell"] ["number","cell"] (ZAF ZBU):=⟨rfl,rfl,rfl,by decide +kernel,rfl,by decide +kernel,by decide +kernel⟩
theorem ZBj (T:Txt w K mg t):ZBS P w K mg base CX0 4 t.f_number_value t.d_number_value ["number","cell"] ZQu:=by
  have D:=T.c_number_value
  refine D.fn.ok ZFo (fun vs H Q E h=>?_) (fun cdv A outer s H vs Q E hr h=>?_)
  · obtain ⟨p,t_,b,y,hm,rfl,_⟩:=h
    rfl
  · obtain ⟨p,t_,b,y,hm,rfl,hp,low,hy,k⟩:=h
    refine ⟨_,((ZAD (ZAj (ZCd (ZAW T.c_is_short_number (ZEL T) (hr.mono (by decide)) (ZAR (ZAN ZAJ (pv 0) ZAC (fun _ _=>rfl)) (ZAR (ZAN ZAJ (pv 0) ZAC (fun _ _=>rfl)) ZAB)))) (ZAG (ZAK (ZAb (ZAH ZAI (ZAR (ZAN ZAJ (pv 0) ZAC (fun _ _=>rfl)) (ZAR (ZAN ZAJ (pv 0) ZAC (fun _ _=>rfl)) ZAB)))))) ZAP)
      (ZAG (ZAK (ZAb (ZAH ZAI (ZAH ZAI (ZAA (pv 1) ZAB)))))))),?_⟩
    refine ⟨_,rfl,p,_,_,_,rfl,rfl,SqT.of hp,rfl,_,rfl,p,_,_,_,rfl,rfl,SqT.of hp,rfl,t_,b,rfl,low,few t_&&few b,rfl,?_⟩
    unfold ZIl at k
    cases e:(few t_&&few b) with
    | true=>
      rw [if_pos e] at k
      exact ZBR ⟨_,rfl,p,_,_,_,rfl,rfl,SqT.of hp,rfl,_,rfl,p,_,_,_,rfl,rfl,SqT.of hp,rfl,ZAk,fun q hq=>k _ _ ⟨q,rfl,ZAE⟩ (ZAM.new hq)⟩
    | false=>
      rw [if_neg (by rw [e];exact Bool.false_ne_true)] at k
      exact ZAo ⟨_,rfl,ZAk,fun q hq=>k _ _ (hy.flt hq) (ZAM.new hq)⟩
theorem ZEM:ZAS ["sign","a","b","cell"] ["sign","a","b","cell"] (ZAF ZAw):=⟨rfl,rfl,rfl,by decide +kernel,rfl,by decide +kernel,by decide +kernel⟩
theorem ZD5 (T:Txt w K mg t):ZBS P w K mg base CX0 5 t.f_reckoned_numbers t.d_reckoned_numbers ["sign","a","b","cell"] ZQv:=by
  have D:=T.c_reckoned_numbers
  refine D.fn.ok ZEM (fun vs H Q E h=>?_) (fun cdv A outer s H vs Q E hr h=>?_)
  · obtain ⟨sg,p,q,a,b,y,hm,rfl,_⟩:=h
    rfl
  · obtain ⟨sg,p,q,⟨a1,a2⟩,⟨b1,b2⟩,y,hm,rfl,hp,hq,hy,k⟩:=h
    refine ⟨_,((ZAD (ZAj (ZAL ZAm (pv 0) ZAI (ZAO _)) (ZAG (ZAK (ZAW T.c_number_value (ZBj T) (hr.mono (by decide)) (ZAg (ZAW T.c_sum_of (ZK4 T) (hr.mono (by decide)) (ZAA (pv 1) (ZAA (pv 2) ZAB))) (ZAA (pv 3) ZAB))))) ZAP)
      (ZAD (ZAj (ZAL ZAm (pv 0) ZAI (ZAO _)) (ZAG (ZAK (ZAW T.c_number_value (ZBj T) (hr.mono (by decide)) (ZAg (ZAW T.c_difference_of (ZEq T) (hr.mono (by decide)) (ZAA (pv 1) (ZAA (pv 2) ZAB))) (ZAA (pv 3) ZAB))))) ZAP)
      (ZAD (ZAj (ZAL ZAm (pv 0) ZAI (ZAO _)) (ZAG (ZAK (ZAW T.c_number_value (ZBj T) (hr.mono (by decide)) (ZAg (ZAW T.c_product_of (ZGh T) (hr.mono (by decide)) (ZAA (pv 1) (ZAA (pv 2) ZAB))) (ZAA (pv 3) ZAB))))) ZAP)
      (ZAD (ZAj (ZAL ZAm (pv 0) ZAI (ZAO _)) (ZAG (ZAK (ZCf (ZAL ZAm (ZAN ZAJ (pv 2) ZAC (fun _ _=>rfl)) ZAC (ZAO _)) (ZAb (ZAH ZAI (ZAH ZAI (ZAA (pv 3) ZAB)))) (ZAW T.c_number_value (ZBj T) (hr.mono (by decide)) (ZAg (ZAW T.c_quotient_of (ZFn T) (hr.mono (by decide)) (ZAA (pv 1) (ZAA (pv 2) ZAB))) (ZAA (pv 3) ZAB)))))) ZAP)
      (ZAG (ZAK (ZAb (ZAH ZAI (ZAg (ZAW T.c_is_less (ZJK T) (hr.mono (by decide)) (ZAA (pv 1) (ZAA (pv 2) ZAB))) ZAB)))))))))),?_⟩
    unfold opN at k
    dsimp only at k hp hq
    refine ⟨_,rfl,rfl,_,rfl,?_⟩
    rw [ZLB]
    by_cases c1:sg=Str.ofString "+"
    · rw [if_pos c1] at k
      rw [decide_eq_true c1]
      refine ZBR ?_
      refine ⟨_,rfl,_,rfl,p,q,_,_,_,_,100,100,rfl,hp,hq,(by decide),trivial,fun r H1 s1 n1=>⟨_,rfl,r,_,_,y,hm,rfl,n1.ob,n1.low,hy.kp (Kp.same s1),fun x H2 hx s2=>k x H2 hx (s1.trans s2)⟩⟩
    rw [if_neg c1] at k
    rw [decide_eq_false c1]
    refine ZAo ⟨_,rfl,rfl,_,rfl,?_⟩
    rw [ZLB]
    by_cases c2:sg=Str.ofString "-"
    · rw [if_pos c2] at k
      rw [decide_eq_true c2]
      refine ZBR ?_
      refine ⟨_,rfl,_,rfl,p,q,_,_,_,_,100,100,rfl,hp,hq,(by decide),trivial,fun r H1 s1 n1=>⟨_,rfl,r,_,_,y,hm,rfl,n1.ob,n1.low,hy.kp (Kp.same s1),fun x H2 hx s2=>k x H2 hx (s1.trans s2)⟩⟩
    rw [if_neg c2] at k
    rw [decide_eq_false c2]
    refine ZAo ⟨_,rfl,rfl,_,rfl,?_⟩
    rw [ZLB]
    by_cases c3:sg=Str.ofString "*"
    · rw [if_pos c3] at k
      rw [decide_eq_true c3]
      refine ZBR ?_
      refine ⟨_,rfl,_,rfl,p,q,_,_,_,_,100,100,rfl,hp,hq,(by decide),trivial,fun r H1 s1 n1=>⟨_,rfl,r,_,_,y,hm,rfl,n1.ob,n1.low,hy.kp (Kp.same s1),fun x H2 hx s2=>k x H2 hx (s1.trans s2)⟩⟩
    rw [if_neg c3] at k
    rw [decide_eq_false c3]
    refine ZAo ⟨_,rfl,rfl,_,rfl,?_⟩
    rw [ZLB]
    by_cases c4:sg=Str.ofString "/"
    · rw [if_pos c4] at k
      rw [decide_eq_true c4]
      refine ZBR ⟨_,rfl,q,_,_,_,rfl,rfl,SqT.of hq.ob,rfl,rfl,_,rfl,?_⟩
      by_cases c5:b1=0
      · rw [if_pos c5] at k
        rw [c5]
        exact ZBR ⟨_,rfl,ZAk,fun q' hq'=>k _ _ (hy.flt hq') (ZAM.new hq')⟩
      · rw [if_neg c5] at k
        rw [decide_eq_false (fun e=>c5 (by injection e))]
        refine ZAo ?_
        refine ⟨_,rfl,_,rfl,p,q,_,_,_,_,100,100,rfl,hp,hq,(by decide),c5,fun r H1 s1 n1=>⟨_,rfl,r,_,_,y,hm,rfl,n1.ob,n1.low,hy.kp (Kp.same s1),fun x H2 hx s2=>k x H2 hx (s1.trans s2)⟩⟩
    rw [if_neg c4] at k
    rw [decide_eq_false c4]
    refine ZAo ?_
    exact ⟨_,rfl,_,rfl,p,q,_,_,_,_,100,100,rfl,hp,hq,(by decide),ZAn,fun r hr'=>k _ _ ⟨r,rfl,ZAE⟩ (ZAM.new hr')⟩
theorem ZDQ:ZAS ["cell","sheet","row","letter"] ["cell"] (ZAF ZCN):=⟨rfl,rfl,rfl,by decide +kernel,rfl,by decide +kernel,by decide +kernel⟩
theorem ZHW (T:Txt w K mg t):ZBS P w K mg base CX0 1 t.f_cell_text t.d_cell_text ["cell"] spCT:=by
  have D:=T.c_cell_text
  refine D.fn.ok ZDQ (fun vs H Q E h=>?_) (fun cdv A outer s H vs Q E hr h=>?_)
  · obtain ⟨p,z,r,c,rfl,_⟩:=h
    rfl
  · obtain ⟨p,z,r,c,rfl,hp,k⟩:=h
    refine ⟨_,((ZAD (ZAd (i:=1) ZDQ.nd rfl (Or.inl rfl) (ZAN ZAJ (pv 0) ZAC (fun _ _=>rfl)))
      (ZAD (ZAd (i:=2) ZDQ.nd rfl (Or.inl rfl) (ZAN ZAJ (pv 0) ZAC (fun _ _=>rfl)))
      (ZAD (ZAd (i:=3) ZDQ.nd rfl (Or.inl rfl) (ZAN ZMA (ZKM T.v_COLUMN_LETTERS) (ZAZ ZDC (ZAN ZAJ (pv 0) ZAC (fun _ _=>rfl)) ZAC) (fun _ _=>rfl)))
      (ZAG (ZAK (ZHD (ZHC (pv 1) (ZME (ZHC (pv 3) (ZHC (pv 2) ZMD))))))))))),?_⟩
    have hz:z.length≤sizeLine:=ZC0 (Nat.le_trans hp.nm.hi (by decide))
    have hl:=ZIi (c:=c) hp.nm hp.r0 hp.r1
    have h6:=hp.nm.hi
    obtain ⟨a1,a2,a3⟩:=ZOl hp.c0 hp.c1
    have e1:(Str.ofString "!").length=1:=by rw [ZQL];rfl
    have e2:(ZOh c).length=1:=rfl
    have e3:=(ZMI hp.r0 hp.r1).2
    refine ⟨_,rfl,p,_,_,_,rfl,rfl,SqT.of hp.ob,rfl,_,rfl,p,_,_,_,rfl,rfl,SqT.of hp.ob,rfl,?_⟩
    refine ⟨_,rfl,p,_,_,_,rfl,rfl,SqT.of hp.ob,rfl,_,_,rfl,rfl,_,_,_,rfl,rfl,(by decide +kernel),a1,?_⟩
    refine ⟨_,rfl,z,⟨rfl,hz⟩,?_⟩
    rw [ZHM]
    refine ⟨hz,ZC0 (by rw [ZAs];omega),_,rfl,ZOh c,⟨rfl,(show (ZOh c).length≤sizeLine from ZC0 (by rw [e2];decide))⟩,ZC0 (by rw [ZAs,ZAs];omega),_,rfl,num r,⟨rfl,?_⟩,ZC0 (Nat.le_trans hl (by decide)),ZC0 (Nat.le_trans hl (by decide)),k⟩
    have:=hp.r0;have:=hp.r1
    exact Nat.lt_of_le_of_lt (Nat.log2_le_self _) (by omega)
theorem ZK6:ZAS ["thing"] ["thing"] (ZAF ZDH):=⟨rfl,rfl,rfl,by decide +kernel,rfl,by decide +kernel,by decide +kernel⟩
theorem ZJL (T:Txt w K mg t):ZBS P w K mg base CX0 1 t.f_is_text t.d_is_text ["thing"] ZOx:=by
  have D:=T.c_is_text
  refine D.fn.ok ZK6 (fun vs H Q E h=>?_) (fun cdv A outer s H vs Q E hr h=>?_)
  · obtain ⟨z,rfl,_⟩:=h
    rfl
  · obtain ⟨z,rfl,hz,k⟩:=h
    refine ⟨_,((ZAD (ZAj (ZFj (ZII (ZCd (ZAU ZAi (by rfl) T.isinstance ZAV (ZAA (pv 0) (ZAA (ZBz T.str ZDk) ZAB))))) (ZDq (ZAL ZIx (ZAU ZEe (by rfl) T.len PySem.boot_len (ZAA (pv 0) ZAB)) (ZKN T.v_MOST_SIGNS) (ZAO _)))).pt (ZAG (ZAK ZFi)) ZAP)
      (ZAG (ZAK (ZAU (ZGK rfl) (by rfl) T.all ZGL (ZDK (ZDZ (fv:=[]) (js:=[]) (cl:=[]) rfl (by with_unfolding_all rfl) ⟨rfl,by decide +kernel,by decide +kernel,rfl,by decide +kernel,by decide +kernel,(List.forall_mem_nil _),(List.forall_mem_nil _),.nil⟩ (ZMC (pv 0)) (fun _ _ _ _ _=>ZFG) (fun _ _ _ _ _=>(ZBB ZOg (pv 0) (ZKM T.v_SIGNS) rfl))) ZAB)))))),?_⟩
    have hzz:z.length≤sizeLine:=ZC0 hz
    refine ⟨_,rfl,_,_,_,_,true,rfl,.str _,rfl,(fun _=>.inr trivial),ZCe _ _,true,rfl,ZAo ?_⟩
    refine ⟨_,rfl,z,rfl,hzz,_,_,rfl,rfl,_,rfl,?_⟩
    unfold ZNp at k
    by_cases c0:(20:Int)<(z.length:Int)
    · rw [decide_eq_true c0] at k ⊢
      exact ZBR (k _ (ZAM.refl _))
    rw [decide_eq_false c0] at k ⊢
    refine ZAo ?_
    refine ⟨_,rfl,z,rfl,fun D hD=>?_⟩
    obtain ⟨W,w0,turn⟩:=ZJE (z:=z) (Str.ofString "abcdefghijklmnopqrstuvwxyz0123456789 ") hz hD
    refine ⟨W,w0,fun i m' H' w'=>?_⟩
    rcases turn i m' H' w' with ⟨st,rfl⟩ | h
    case inr=>exact .inr ⟨h.1,fun x H2 y=>h.2 _ _ x H2 y⟩
    refine .inl ⟨st,?_⟩
    exact ⟨D,_,rfl,SqL.of ZAE,k _ (ZAM.new hD)⟩
theorem ZGj:ZAS ["top","bottom"] ["top","bottom"] (ZAF ZBn):=⟨rfl,rfl,rfl,by decide +kernel,rfl,by decide +kernel,by decide +kernel⟩
theorem ZFp (T:Txt w K mg t):ZBS P w K mg base CX0 1 t.f_number_text t.d_number_text ["top","bottom"] spNT:=by
  have D:=T.c_number_text
  refine D.fn.ok ZGj (fun vs H Q E h=>?_) (fun cdv A outer s H vs Q E hr h=>?_)
  · obtain ⟨t,b,rfl,_⟩:=h
    rfl
  · obtain ⟨t,b,rfl,ht,hb,k⟩:=h
    refine ⟨_,((ZAD (ZAj (ZAL ZAm (pv 1) ZAC (ZAO _)) (ZAG (ZAK (ZI3 (pv 0)))) ZAP)
      (ZAG (ZAK (ZHD (ZHC (pv 0) (ZME (ZHC (pv 1) ZMD)))))))),?_⟩
    have l1:t.natAbs.log2<1920:=ZLj ht
    have l2:b.natAbs.log2<1920:=ZLj hb
    have n1:=ZDl ht
    have n2:=ZDl hb
    refine ⟨_,rfl,rfl,_,rfl,?_⟩
    refine ZDJ (fun hc=>?_) (fun hc=>?_)
    · have e:b=1:=by simpa using hc
      refine ⟨_,rfl,num t,⟨rfl,l1⟩,?_⟩
      have e2:ZHu t b=num t:=if_pos e
      rw [e2] at k
      exact k
    · have e:¬ b=1:=by simpa using hc
      have e2:ZHu t b=num t++Str.ofString "/"++num b:=if_neg e
      rw [e2] at k
      have es:(Str.ofString "/").length=1:=by rw [ZKT];rfl
      refine ⟨_,rfl,num t,⟨rfl,l1⟩,?_⟩
      rw [ZHM]
      exact ⟨ZC0 (by omega),ZC0 (by rw [ZAs];omega),_,rfl,num b,⟨rfl,l2⟩,ZC0 (by rw [ZAs,ZAs];omega),ZC0 (by rw [ZAs,ZAs];omega),k⟩
theorem ZEk:ZAS ["value","kind"] ["value"] (ZAF ZB6):=⟨rfl,rfl,rfl,by decide +kernel,rfl,by decide +kernel,by decide +kernel⟩
theorem ZGk (T:Txt w K mg t):ZBS P w K mg base CX0 2 t.f_value_text t.d_value_text ["value"] spVT:=by
  have D:=T.c_value_text
  refine D.fn.ok ZEk (fun vs H Q E h=>?_) (fun cdv A outer s H vs Q E hr h=>?_)
  · obtain ⟨p,v,rfl,_⟩:=h
    rfl
  · obtain ⟨p,v,rfl,ok,hp,k⟩:=h
    refine ⟨_,((ZAD (ZAd (i:=1) ZEk.nd rfl (Or.inl rfl) (ZAN ZAJ (pv 0) ZAC (fun _ _=>rfl)))
      (ZAD (ZAj (ZAL ZAm (pv 1) ZAI (ZAO _)) (ZAG (ZAK ZAI)) ZAP)
      (ZAD (ZAj (ZAL ZAm (pv 1) ZAI (ZAO _)) (ZAG (ZAK (ZAW T.c_number_text (ZFp T) (hr.mono (by decide)) (ZAR (ZAN ZAJ (pv 0) ZAC (fun _ _=>rfl)) (ZAR (ZAN ZAJ (pv 0) ZAC (fun _ _=>rfl)) ZAB))))) ZAP)
      (ZAD (ZAj (ZAL ZAm (pv 1) ZAI (ZAO _)) (ZAG (ZAK (ZAZ ZB3 ZAI (ZAN ZAJ (pv 0) ZAC (fun _ _=>rfl))))) ZAP)
      (ZAD (ZAj (ZAL ZAm (pv 1) ZAI (ZAO _)) (ZAG (ZAK (ZCf (ZCd (ZAN ZAJ (pv 0) ZAC (fun _ _=>rfl))) ZAI ZAI))) ZAP)
      (ZAG (ZAK (ZAZ ZB3 (ZAZ ZB3 (ZAZ ZB3 ZAI (ZAN ZAJ (pv 0) ZAC (fun _ _=>rfl))) ZAI) (ZAW T.c_cell_text (ZHW T) (hr.mono (by decide)) (ZAR (ZAN ZAJ (pv 0) ZAC (fun _ _=>rfl)) ZAB))))))))))),?_⟩
    have hl:=ZFN ok
    cases v with
    | none=>
      have ob:H p=some (.tup [.str (Str.ofString "none")]):=hp
      refine ⟨_,rfl,p,_,_,_,rfl,rfl,SqT.of ob,rfl,?_⟩
      exact ⟨_,rfl,rfl,true,(by decide +kernel),ZBR (k _ (ZAM.refl _))⟩
    | num t b=>
      have ob:H p=some (.tup [.str (Str.ofString "number"),.int t,.int b]):=hp
      refine ⟨_,rfl,p,_,_,_,rfl,rfl,SqT.of ob,rfl,?_⟩
      refine ⟨_,rfl,rfl,false,(by decide +kernel),ZAo ?_⟩
      refine ⟨_,rfl,rfl,true,(by decide +kernel),ZBR ?_⟩
      exact ⟨_,rfl,p,_,_,_,rfl,rfl,SqT.of ob,rfl,_,rfl,p,_,_,_,rfl,rfl,SqT.of ob,rfl,t,b,rfl,ok.2.1,ok.2.2,k _ (ZAM.refl _)⟩
    | txt z=>
      have ob:H p=some (.tup [.str (Str.ofString "text"),.str z]):=hp
      refine ⟨_,rfl,p,_,_,_,rfl,rfl,SqT.of ob,rfl,?_⟩
      refine ⟨_,rfl,rfl,false,(by decide +kernel),ZAo ?_⟩
      refine ⟨_,rfl,rfl,false,(by decide +kernel),ZAo ?_⟩
      refine ⟨_,rfl,rfl,true,(by decide +kernel),ZBR ?_⟩
      exact ⟨_,rfl,p,_,_,_,rfl,rfl,SqT.of ob,rfl,_,_,rfl,rfl,(by rw [← ZAs];exact ZC0 (Nat.le_trans hl (by decide))),k _ (ZAM.refl _)⟩
    | tru b=>
      have ob:H p=some (.tup [.str (Str.ofString "truth"),.bl b]):=hp
      refine ⟨_,rfl,p,_,_,_,rfl,rfl,SqT.of ob,rfl,?_⟩
      refine ⟨_,rfl,rfl,false,(by decide +kernel),ZAo ?_⟩
      refine ⟨_,rfl,rfl,false,(by decide +kernel),ZAo ?_⟩
      refine ⟨_,rfl,rfl,false,(by decide +kernel),ZAo ?_⟩
      refine ⟨_,rfl,rfl,true,(by decide +kernel),ZBR ?_⟩
      refine ⟨_,rfl,p,_,_,_,rfl,rfl,SqT.of ob,rfl,b,rfl,?_⟩
      cases b with
      | true=>exact ZBR (k _ (ZAM.refl _))
      | false=>exact ZAo (k _ (ZAM.refl _))
    | flt w z r c=>
      obtain ⟨hw,nm,r0,r1,c0,c1⟩:=ok
      obtain ⟨q,ob,oq⟩:=hp
      refine ⟨_,rfl,p,_,_,_,rfl,rfl,SqT.of ob,rfl,?_⟩
      refine ⟨_,rfl,rfl,false,(by decide +kernel),ZAo ?_⟩
      refine ⟨_,rfl,rfl,false,(by decide +kernel),ZAo ?_⟩
      refine ⟨_,rfl,rfl,false,(by decide +kernel),ZAo ?_⟩
      refine ⟨_,rfl,rfl,false,(by decide +kernel),ZAo ?_⟩
      have hl':(((Str.ofString "!"++w)++Str.ofString " ")++ZEg z r c).length≤64:=hl
      have hl2:=hl'
      rw [ZAs] at hl2
      have hl3:=hl2
      rw [ZAs] at hl3
      have hl4:=hl3
      rw [ZAs] at hl4
      refine ⟨_,rfl,p,_,_,_,rfl,rfl,SqT.of ob,rfl,_,_,rfl,rfl,ZC0 (by omega),_,_,rfl,rfl,ZC0 (by omega),?_⟩
      exact ⟨_,rfl,p,_,_,_,rfl,rfl,SqT.of ob,rfl,q,z,r,c,rfl,⟨oq,nm,r0,r1,c0,c1⟩,_,_,rfl,rfl,ZC0 (by omega),k _ (ZAM.refl _)⟩
theorem ZJM:ZAS ["value"] ["value"] (ZAF ZCn):=⟨rfl,rfl,rfl,by decide +kernel,rfl,by decide +kernel,by decide +kernel⟩
theorem ZFV (T:Txt w K mg t):ZBS P w K mg base CX0 4 t.f_signs_in t.d_signs_in ["value"] ZQw:=by
  have D:=T.c_signs_in
  refine D.fn.ok ZJM (fun vs H Q E h=>?_) (fun cdv A outer s H vs Q E hr h=>?_)
  · obtain ⟨u,v,rfl,_⟩:=h
    rfl
  · obtain ⟨u,v,rfl,⟨p,rfl,hv⟩,ok,k⟩:=h
    refine ⟨_,((ZAG (ZAK (ZCf (ZAL ZAm (ZAN ZAJ (pv 0) ZAC (fun _ _=>rfl)) ZAI (ZAO _)) (ZAN ZAJ (pv 0) ZAC (fun _ _=>rfl)) (ZAW T.c_value_text (ZGk T) (hr.mono (by decide)) (ZAA (pv 0) ZAB)))))),?_⟩
    obtain ⟨xs,hp,_⟩:=hv.itm
    refine ⟨_,rfl,p,_,_,_,rfl,rfl,SqT.of hp,ZAc,rfl,_,rfl,ZDJ (fun c1=>?_) (fun c1=>?_)⟩
    · have e:∃ z,v=.txt z:=by
        cases v with
        | txt z=>exact ⟨z,rfl⟩
        | none=>exact absurd c1 (by show ¬ decide (V.str (Str.ofString "none")=vS "text")=true;decide +kernel)
        | num t b=>exact absurd c1 (by show ¬ decide (V.str (Str.ofString "number")=vS "text")=true;decide +kernel)
        | tru b=>exact absurd c1 (by show ¬ decide (V.str (Str.ofString "truth")=vS "text")=true;decide +kernel)
        | flt w z r c=>exact absurd c1 (by show ¬ decide (V.str (Str.ofString "fault")=vS "text")=true;decide +kernel)
      obtain ⟨z,rfl⟩:=e
      have hp':H p=some (.tup [vS "text",.str z]):=hv
      exact ⟨_,rfl,p,_,_,_,rfl,rfl,SqT.of hp',rfl,k _ (ZAM.refl _)⟩
    · have e:sgn v=ZKS v:=by
        cases v with
        | txt z=>exact absurd (by show decide (V.str (Str.ofString "text")=vS "text")=true;decide +kernel) c1
        | none=>rfl
        | num t b=>rfl
        | tru b=>rfl
        | flt w z r c=>rfl
      rw [e] at k
      exact ⟨_,rfl,p,v,rfl,ok,hv,fun H' s=>k H' s⟩
theorem ZDt:ZAS ["one","other","cell","signs"] ["one","other","cell"] (ZAF ZBV):=⟨rfl,rfl,rfl,by decide +kernel,rfl,by decide +kernel,by decide +kernel⟩
theorem ZFW (T:Txt w K mg t):ZBS P w K mg base CX0 5 t.f_joined_texts t.d_joined_texts ["one","other","cell"] ZQx:=by
  have D:=T.c_joined_texts
  refine D.fn.ok ZDt (fun vs H Q E h=>?_) (fun cdv A outer s H vs Q E hr h=>?_)
  · obtain ⟨u,v,y,a,b,hm,rfl,_⟩:=h
    rfl
  · obtain ⟨u,v,y,a,b,hm,rfl,ha,hb,oa,ob,hy,k⟩:=h
    refine ⟨_,((ZAD (ZAd (i:=3) ZDt.nd rfl (Or.inl rfl) (ZAZ ZB3 (ZAW T.c_signs_in (ZFV T) (hr.mono (by decide)) (ZAA (pv 0) ZAB)) (ZAW T.c_signs_in (ZFV T) (hr.mono (by decide)) (ZAA (pv 1) ZAB))))
      (ZAG (ZAK (ZCf (ZCd (ZAW T.c_is_text (ZJL T) (hr.mono (by decide)) (ZAA (pv 3) ZAB))) (ZAb (ZAH ZAI (ZAA (pv 3) ZAB))) (ZAb (ZAH ZAI (ZAH ZAI (ZAA (pv 2) ZAB))))))))),?_⟩
    have l1:=ZGX oa
    have l2:=ZGX ob
    refine ⟨_,rfl,u,a,rfl,ha,oa,fun H1 s1=>⟨_,rfl,v,b,rfl,hb.kp (Kp.same s1),ob,fun H2 s2=>?_⟩⟩
    refine ⟨_,_,rfl,rfl,(by rw [← ZAs];exact ZC0 (by rw [ZAs];omega)),?_⟩
    have s12:=s1.trans s2
    unfold ZLp at k
    refine ⟨_,rfl,_,rfl,(by rw [ZAs];omega),fun H3 s3=>⟨_,rfl,?_⟩⟩
    have s13:=s12.trans s3
    by_cases c:ZNp (sgn a++sgn b)=true
    · rw [if_pos c] at k
      rw [c]
      exact ZBR ⟨_,rfl,ZAn,fun q hq=>k _ _ ⟨q,rfl,ZAE⟩ (s13.trans (ZAM.new hq))⟩
    · rw [if_neg c] at k
      rw [Bool.eq_false_iff.mpr c]
      exact ZAo ⟨_,rfl,ZAk,fun q hq=>k _ _ ((hy.kp (Kp.same s13)).flt hq) (s13.trans (ZAM.new hq))⟩
theorem ZE4:ZAS ["sign","one","other","cell","value","a","b"] ["sign","one","other","cell"] (ZAF ZDn):=⟨rfl,rfl,rfl,by decide +kernel,rfl,by decide +kernel,by decide +kernel⟩
theorem ZK7 (T:Txt w K mg t):ZBS P w K mg base CX0 6 t.f_signed t.d_signed ["sign","one","other","cell"] (ZQz K):=by
  have D:=T.c_signed
  refine D.fn.ok ZE4 (fun vs H Q E h=>?_) (fun cdv A outer s H vs Q E hr h=>?_)
  · obtain ⟨sg,u,v,y,r,hm,rfl,_⟩:=h
    rfl
  · obtain ⟨sg,u,v,y,r,hm,rfl,hin,hy,k⟩:=h
    have hu1:=ZHA hr
    refine ⟨_,((ZAD (ZC1 PassesOwn.never rfl (ZGy (ZAb (ZAA (pv 1) (ZAA (pv 2) ZAB)))) (ZA2 (i:=4) ZE4.nd rfl (Or.inl rfl))
      (ZAG (ZAj (ZAL ZAm (ZAN ZAJ (pv 4) ZAC (fun _ _=>rfl)) ZAI (ZAO _)) (ZAG (ZAK (pv 4))) ZAP)))
      (ZAD (ZAj (ZAL ZAm (pv 0) ZAI (ZAO _)) (ZAG (ZAK (ZAb (ZAH ZAI (ZCg (ZBB (ZMF hu1) (pv 1) (pv 2) (ZAO _)) ZAB))))) ZAP)
      (ZAD (ZAj (ZAL ZAm (pv 0) ZAI (ZAO _)) (ZAG (ZAK (ZAW T.c_joined_texts (ZFW T) (hr.mono (by decide)) (ZAA (pv 1) (ZAA (pv 2) (ZAA (pv 3) ZAB)))))) ZAP)
      (ZAD (ZAj (ZE7 (ZAL ZAm (pv 0) ZAI (ZAO _)) (ZE7 (ZAL ZAm (ZAN ZAJ (pv 1) ZAC (fun _ _=>rfl)) ZAI (ZAO _)) (ZE6 (ZAL ZAm (ZAN ZAJ (pv 2) ZAC (fun _ _=>rfl)) ZAI (ZAO _))))).pt (ZAG (ZAK (ZAb (ZAH ZAI (ZCg (ZBB ZG0 (ZAN ZAJ (pv 1) ZAC (fun _ _=>rfl)) (ZAN ZAJ (pv 2) ZAC (fun _ _=>rfl)) (ZAO _)) ZAB))))) ZAP)
      (ZAD (ZAd (i:=5) ZE4.nd rfl (Or.inl rfl) (ZAW T.c_number_in (ZEj T) (hr.mono (by decide)) (ZAA (pv 1) ZAB)))
      (ZAD (ZAd (i:=6) ZE4.nd rfl (Or.inl rfl) (ZAW T.c_number_in (ZEj T) (hr.mono (by decide)) (ZAA (pv 2) ZAB)))
      (ZAD (ZAj (ZFj (ZAL ZJh (pv 5) ZF0 (ZAO _)) (ZDq (ZAL ZJh (pv 6) ZF0 (ZAO _)))).pt (ZAG (ZAK (ZAb (ZAH ZAI (ZAH ZAI (ZAA (pv 3) ZAB)))))) ZAP)
      (ZAG (ZAK (ZAW T.c_reckoned_numbers (ZD5 T) (hr.mono (by decide)) (ZAA (pv 0) (ZAA (pv 5) (ZAA (pv 6) (ZAA (pv 3) ZAB))))))))))))))),?_⟩
    rcases hin with ⟨a,b,ha,hb,oa,ob,rfl⟩ | ⟨rfl,⟨qc,rfl,hcn⟩,b,hb,ob,rfl⟩
    case inr=>
      obtain ⟨qb,rfl,hqb⟩:=id hb
      refine ⟨_,rfl,_,rfl,ZAn,fun q hq=>?_⟩
      have s1:ZAM H (upd H q (.tup [.ref qc,.ref qb])):=ZAM.new hq
      have hq1:upd H q (.tup [.ref qc,.ref qb]) q=some (.tup [.ref qc,.ref qb]):=ZAE
      generalize upd H q (.tup [.ref qc,.ref qb])=H1 at *
      have hb1:=hb.kp (Kp.same s1)
      unfold opM at k
      have ca:¬ isF (.num 0 1)=true:=by decide +kernel
      rw [if_neg ca] at k
      refine ⟨q,rfl,⟨_,SqT.of hq1⟩,?_⟩
      refine ZFB (xs:=[.ref qc,.ref qb]) (fun i σ H5=>∃ x4,σ=[some (.str (Str.ofString "-")),some (.ref qc),some (.ref qb),some y,x4,none,none]∧H5=H1∧(2≤i→¬ isF b=true)) ⟨none,rfl,rfl,fun z=>by omega⟩ ?_ ?_ ?_
      · rintro i σ H5 _ ⟨x4,rfl,rfl,_⟩
        exact SqT.of hq1
      · rintro i x σ H5 hx ⟨x4,rfl,rfl,e2⟩
        have hi:i<2:=(List.getElem?_eq_some_iff.mp hx).1
        have hc:i=0∨i=1:=by omega
        rcases hc with rfl | rfl
        · cases hx
          refine ⟨_,rfl,qc,_,_,_,rfl,rfl,hcn _,rfl,rfl,false,(by decide +kernel),ZAo ?_⟩
          exact ⟨_,rfl,rfl,fun z=>by omega⟩
        · cases hx
          obtain ⟨q',xs,ee,hq',_⟩:=hb1.hd
          cases ee
          refine ⟨_,rfl,qb,_,_,_,rfl,rfl,SqT.of hq',ZAc,rfl,isF b,rfl,?_⟩
          refine ZDJ (fun c1=>?_) (fun c1=>?_)
          · exact ⟨_,rfl,k _ _ (by rw [if_pos c1];exact hb1) s1⟩
          · exact ⟨_,rfl,rfl,fun _=>c1⟩
      · rintro σ H5 ⟨x4,rfl,rfl,e2⟩
        have c2:=e2 (by simp)
        rw [if_neg c2,if_neg (by decide +kernel),if_neg (by decide +kernel),ZH6 (by decide +kernel)] at k
        refine ⟨_,rfl,rfl,false,(by decide +kernel),ZAo ?_⟩
        refine ⟨_,rfl,rfl,false,(by decide +kernel),ZAo ?_⟩
        refine ⟨_,rfl,rfl,false,(by decide +kernel),ZAo (ZAo ?_)⟩
        have kr:∀ x H',ZBT H' x (ZD2 (Str.ofString "-") (.num 0 1) b hm)→ZAM H H'→Q x H':=fun x H' hx s'=>k x H' hx s'
        refine ⟨_,rfl,.ref qc,.num 0 1,rfl,.inr ⟨rfl,qc,rfl,hcn⟩,fun xa' H6 hx6 s6=>?_⟩
        refine ⟨_,rfl,.ref qb,b,rfl,.inl (hb1.kp (Kp.same s6)),fun xb' H7 hx7 s7=>?_⟩
        have s17:=(s1.trans s6).trans s7
        unfold ZD2 at kr
        have en:ZCc (.num 0 1)=some (0,1):=rfl
        rw [en] at hx6 kr
        obtain ⟨p6,rfl,hp6⟩:=hx6
        refine ⟨_,rfl,rfl,false,(by simp),ZAo ?_⟩
        cases em:ZCc b with
        | none=>
          rw [em] at hx7 kr
          obtain rfl:xb'=.non:=hx7
          exact ⟨_,rfl,rfl,true,(by simp),ZBR ⟨_,rfl,ZAk,fun q' hq'=>kr _ _ ((hy.kp (Kp.same s17)).flt hq') (s17.trans (ZAM.new hq'))⟩⟩
        | some nn=>
          rw [em] at hx7 kr
          obtain ⟨p7,rfl,hp7⟩:=hx7
          refine ⟨_,rfl,rfl,false,(by simp),ZAo ?_⟩
          exact ⟨_,rfl,_,rfl,_,rfl,_,rfl,_,p6,p7,(0,1),nn,y,hm,rfl,ZEi (v:=.num 0 1) ⟨ZHw,by decide,by decide⟩ en (s7 _ _ hp6),ZEi ob em hp7,hy.kp (Kp.same s17),fun x H' hx s'=>kr x H' hx (s17.trans s')⟩
    obtain ⟨qa,rfl,hqa⟩:=id ha
    obtain ⟨qb,rfl,hqb⟩:=id hb
    refine ⟨_,rfl,_,rfl,ZAn,fun q hq=>?_⟩
    have s1:ZAM H (upd H q (.tup [.ref qa,.ref qb])):=ZAM.new hq
    have hq1:upd H q (.tup [.ref qa,.ref qb]) q=some (.tup [.ref qa,.ref qb]):=ZAE
    generalize upd H q (.tup [.ref qa,.ref qb])=H1 at *
    have ha1:=ha.kp (Kp.same s1)
    have hb1:=hb.kp (Kp.same s1)
    have hy1:=hy.kp (Kp.same s1)
    unfold opM at k
    refine ⟨q,rfl,⟨_,SqT.of hq1⟩,?_⟩
    refine ZFB (xs:=[.ref qa,.ref qb]) (fun i σ H5=>∃ x4,σ=[some (.str sg),some (.ref qa),some (.ref qb),some y,x4,none,none]∧H5=H1∧(1≤i→¬ isF a=true)∧(2≤i→¬ isF b=true)) ⟨none,rfl,rfl,fun z=>by omega,fun z=>by omega⟩ ?_ ?_ ?_
    · rintro i σ H5 _ ⟨x4,rfl,rfl,_⟩
      exact SqT.of hq1
    · rintro i x σ H5 hx ⟨x4,rfl,rfl,e1,e2⟩
      have hi:i<2:=(List.getElem?_eq_some_iff.mp hx).1
      have hc:i=0∨i=1:=by omega
      rcases hc with rfl | rfl
      · cases hx
        obtain ⟨q',xs,ee,hq',_⟩:=ha1.hd
        cases ee
        refine ⟨_,rfl,qa,_,_,_,rfl,rfl,SqT.of hq',ZAc,rfl,isF a,rfl,?_⟩
        refine ZDJ (fun c1=>?_) (fun c1=>?_)
        · exact ⟨_,rfl,k _ _ (by rw [if_pos c1];exact ha1) s1⟩
        · exact ⟨_,rfl,rfl,fun _=>c1,fun z=>by omega⟩
      · cases hx
        obtain ⟨q',xs,ee,hq',_⟩:=hb1.hd
        cases ee
        refine ⟨_,rfl,qb,_,_,_,rfl,rfl,SqT.of hq',ZAc,rfl,isF b,rfl,?_⟩
        refine ZDJ (fun c1=>?_) (fun c1=>?_)
        · exact ⟨_,rfl,k _ _ (by rw [if_neg (e1 (by omega)),if_pos c1];exact hb1) s1⟩
        · exact ⟨_,rfl,rfl,fun _=>e1 (by omega),fun _=>c1⟩
    · rintro σ H5 ⟨x4,rfl,rfl,e1,e2⟩
      have c1:=e1 (by simp)
      have c2:=e2 (by simp)
      rw [if_neg c1,if_neg c2] at k
      obtain ⟨_,xa,ea,hxa,ia⟩:=ha1.hd
      cases ea
      obtain ⟨_,xb,eb,hxb,ib⟩:=hb1.hd
      cases eb
      refine ⟨_,rfl,rfl,_,rfl,?_⟩
      rw [ZLB]
      by_cases d1:sg=Str.ofString "="
      · rw [if_pos d1] at k
        rw [decide_eq_true d1]
        exact ZBR ⟨_,rfl,_,rfl,qa,qb,_,_,_,_,rfl,rfl,hxa,hxb,ia,ib,ZAn,fun q' hq'=>k _ _ ⟨q',rfl,ZAE⟩ (s1.trans (ZAM.new hq'))⟩
      rw [if_neg d1] at k
      rw [decide_eq_false d1]
      refine ZAo ⟨_,rfl,rfl,_,rfl,?_⟩
      rw [ZLB]
      by_cases d2:sg=Str.ofString "&"
      · rw [if_pos d2] at k
        rw [decide_eq_true d2]
        exact ZBR ⟨_,rfl,_,rfl,_,rfl,_,_,_,a,b,hm,rfl,ha1,hb1,oa,ob,hy1,fun x H' hx s'=>k x H' hx (s1.trans s')⟩
      rw [if_neg d2] at k
      rw [decide_eq_false d2]
      refine ZAo ?_
      refine ⟨_,rfl,rfl,_,rfl,?_⟩
      rw [ZLB]
      by_cases d3:sg=Str.ofString "<"
      · rw [decide_eq_true d3]
        refine ZBR ⟨_,rfl,qa,_,_,_,rfl,rfl,SqT.of hxa,ZAc,rfl,_,rfl,ZDJ (fun t1=>?_) (fun t1=>ZAo ?_)⟩
        · refine ⟨_,rfl,qb,_,_,_,rfl,rfl,SqT.of hxb,ZAc,rfl,_,rfl,ZDJ (fun t2=>?_) (fun t2=>?_)⟩
          · obtain ⟨z1,rfl⟩:=ZGY t1
            obtain ⟨z2,rfl⟩:=ZGY t2
            have e1:H5 qa=some (.tup [vS "text",.str z1]):=by obtain ⟨_,e,h⟩:=ha1;cases e;exact h
            have e2:H5 qb=some (.tup [vS "text",.str z2]):=by obtain ⟨_,e,h⟩:=hb1;cases e;exact h
            have ek:ZMU sg (.txt z1) (.txt z2)=some (decide (z1.cps.toList<z2.cps.toList)):=if_pos d3
            rw [ek] at k
            exact ⟨_,rfl,qa,_,_,_,rfl,rfl,SqT.of e1,rfl,_,rfl,qb,_,_,_,rfl,rfl,SqT.of e2,rfl,_,_,rfl,rfl,ZAn,fun q' hq'=>k _ _ ⟨q',rfl,ZAE⟩ (s1.trans (ZAM.new hq'))⟩
          · have kr:∀ x H',ZBT H' x (ZD2 sg a b hm)→ZAM H H'→Q x H':=fun x H' hx s'=>k x H' (by rw [ZMW t2];exact hx) s'
            refine ⟨_,rfl,.ref qa,a,rfl,.inl ha1,fun xa' H6 hx6 s6=>?_⟩
            refine ⟨_,rfl,.ref qb,b,rfl,.inl (hb1.kp (Kp.same s6)),fun xb' H7 hx7 s7=>?_⟩
            have s17:=(s1.trans s6).trans s7
            unfold ZD2 at kr
            cases en:ZCc a with
            | none=>
              rw [en] at hx6 kr
              obtain rfl:xa'=.non:=hx6
              exact ⟨_,rfl,rfl,true,(by simp),ZBR (ZBR ⟨_,rfl,ZAk,fun q' hq'=>kr _ _ ((hy.kp (Kp.same s17)).flt hq') (s17.trans (ZAM.new hq'))⟩)⟩
            | some mm=>
              rw [en] at hx6 kr
              obtain ⟨p6,rfl,hp6⟩:=hx6
              refine ⟨_,rfl,rfl,false,(by simp),ZAo ?_⟩
              cases em:ZCc b with
              | none=>
                rw [em] at hx7 kr
                obtain rfl:xb'=.non:=hx7
                exact ⟨_,rfl,rfl,true,(by simp),ZBR ⟨_,rfl,ZAk,fun q' hq'=>kr _ _ ((hy.kp (Kp.same s17)).flt hq') (s17.trans (ZAM.new hq'))⟩⟩
              | some nn=>
                rw [em] at hx7 kr
                obtain ⟨p7,rfl,hp7⟩:=hx7
                refine ⟨_,rfl,rfl,false,(by simp),ZAo ?_⟩
                exact ⟨_,rfl,_,rfl,_,rfl,_,rfl,sg,p6,p7,mm,nn,y,hm,rfl,ZEi oa en (s7 _ _ hp6),ZEi ob em hp7,hy.kp (Kp.same s17),fun x H' hx s'=>kr x H' hx (s17.trans s')⟩
        · have kr:∀ x H',ZBT H' x (ZD2 sg a b hm)→ZAM H H'→Q x H':=fun x H' hx s'=>k x H' (by rw [ZMV t1];exact hx) s'
          refine ⟨_,rfl,.ref qa,a,rfl,.inl ha1,fun xa' H6 hx6 s6=>?_⟩
          refine ⟨_,rfl,.ref qb,b,rfl,.inl (hb1.kp (Kp.same s6)),fun xb' H7 hx7 s7=>?_⟩
          have s17:=(s1.trans s6).trans s7
          unfold ZD2 at kr
          cases en:ZCc a with
          | none=>
            rw [en] at hx6 kr
            obtain rfl:xa'=.non:=hx6
            exact ⟨_,rfl,rfl,true,(by simp),ZBR (ZBR ⟨_,rfl,ZAk,fun q' hq'=>kr _ _ ((hy.kp (Kp.same s17)).flt hq') (s17.trans (ZAM.new hq'))⟩)⟩
          | some mm=>
            rw [en] at hx6 kr
            obtain ⟨p6,rfl,hp6⟩:=hx6
            refine ⟨_,rfl,rfl,false,(by simp),ZAo ?_⟩
            cases em:ZCc b with
            | none=>
              rw [em] at hx7 kr
              obtain rfl:xb'=.non:=hx7
              exact ⟨_,rfl,rfl,true,(by simp),ZBR ⟨_,rfl,ZAk,fun q' hq'=>kr _ _ ((hy.kp (Kp.same s17)).flt hq') (s17.trans (ZAM.new hq'))⟩⟩
            | some nn=>
              rw [em] at hx7 kr
              obtain ⟨p7,rfl,hp7⟩:=hx7
              refine ⟨_,rfl,rfl,false,(by simp),ZAo ?_⟩
              exact ⟨_,rfl,_,rfl,_,rfl,_,rfl,sg,p6,p7,mm,nn,y,hm,rfl,ZEi oa en (s7 _ _ hp6),ZEi ob em hp7,hy.kp (Kp.same s17),fun x H' hx s'=>kr x H' hx (s17.trans s')⟩
      · rw [decide_eq_false d3]
        refine ZAo (ZAo ?_)
        have kr:∀ x H',ZBT H' x (ZD2 sg a b hm)→ZAM H H'→Q x H':=fun x H' hx s'=>k x H' (by rw [ZH6 d3];exact hx) s'
        refine ⟨_,rfl,.ref qa,a,rfl,.inl ha1,fun xa' H6 hx6 s6=>?_⟩
        refine ⟨_,rfl,.ref qb,b,rfl,.inl (hb1.kp (Kp.same s6)),fun xb' H7 hx7 s7=>?_⟩
        have s17:=(s1.trans s6).trans s7
        unfold ZD2 at kr
        cases en:ZCc a with
        | none=>
          rw [en] at hx6 kr
          obtain rfl:xa'=.non:=hx6
          exact ⟨_,rfl,rfl,true,(by simp),ZBR (ZBR ⟨_,rfl,ZAk,fun q' hq'=>kr _ _ ((hy.kp (Kp.same s17)).flt hq') (s17.trans (ZAM.new hq'))⟩)⟩
        | some mm=>
          rw [en] at hx6 kr
          obtain ⟨p6,rfl,hp6⟩:=hx6
          refine ⟨_,rfl,rfl,false,(by simp),ZAo ?_⟩
          cases em:ZCc b with
          | none=>
            rw [em] at hx7 kr
            obtain rfl:xb'=.non:=hx7
            exact ⟨_,rfl,rfl,true,(by simp),ZBR ⟨_,rfl,ZAk,fun q' hq'=>kr _ _ ((hy.kp (Kp.same s17)).flt hq') (s17.trans (ZAM.new hq'))⟩⟩
          | some nn=>
            rw [em] at hx7 kr
            obtain ⟨p7,rfl,hp7⟩:=hx7
            refine ⟨_,rfl,rfl,false,(by simp),ZAo ?_⟩
            exact ⟨_,rfl,_,rfl,_,rfl,_,rfl,sg,p6,p7,mm,nn,y,hm,rfl,ZEi oa en (s7 _ _ hp6),ZEi ob em hp7,hy.kp (Kp.same s17),fun x H' hx s'=>kr x H' hx (s17.trans s')⟩
theorem ZGl:ZAS ["table"] ["table"] (ZAF ZBo):=⟨rfl,rfl,rfl,by decide +kernel,rfl,by decide +kernel,by decide +kernel⟩
theorem ZC7 (T:Txt w K mg t):ZBS P w K mg base CX0 1 t.f_table_shape t.d_table_shape ["table"] ZQ1:=by
  have D:=T.c_table_shape
  refine D.fn.ok ZGl (fun vs H Q E h=>?_) (fun cdv A outer s H vs Q E hr h=>?_)
  · obtain ⟨x,m,w_,rfl,_⟩:=h
    rfl
  · obtain ⟨x,m,w_,rfl,ht,rc,k⟩:=h
    refine ⟨_,((ZAG (ZAK (ZAb (ZAg (ZAU ZAe (by rfl) T.len PySem.boot_len (ZAA (pv 0) ZAB)) (ZAg (ZAU ZAe (by rfl) T.len PySem.boot_len (ZAR (ZAN ZAJ (pv 0) ZAC (fun _ _=>rfl)) ZAB)) ZAB)))))),?_⟩
    obtain ⟨b,us,b0,rt,rfl,hb,hl,hb0,hr0⟩:=ht.row0 rc
    have e1:(((V.ref b0::us).length:Nat):Int)=(m.length:Int):=by rw [← hl];rfl
    have e2:(((hdV m::rt).length:Nat):Int)=(w_:Int):=by rw [← hr0];rfl
    refine ⟨_,rfl,b,_,rfl,.inr (SqT.of hb),_,rfl,b,_,_,_,rfl,rfl,SqT.of hb,ZAc,b0,_,rfl,.inr (SqT.of hb0),ZAn,fun r hr'=>?_⟩
    rw [e1,e2]
    exact k r hr'
theorem ZFq:ZAS ["one","other"] ["one","other"] (ZAF ZBW):=⟨rfl,rfl,rfl,by decide +kernel,rfl,by decide +kernel,by decide +kernel⟩
theorem ZFX (T:Txt w K mg t):ZBS P w K mg base CX0 1 t.f_fitted_shape t.d_fitted_shape ["one","other"] (ZQ0 K):=by
  have D:=T.c_fitted_shape
  refine D.fn.ok ZFq (fun vs H Q E h=>?_) (fun cdv A outer s H vs Q E hr h=>?_)
  · obtain ⟨u,v,a,b,rfl,_⟩:=h
    rfl
  · obtain ⟨u,v,a,b,rfl,⟨p,e1,hp⟩,⟨q,e2,hq⟩,k⟩:=h
    have hu:=hr.units0
    refine ⟨_,((ZAD (ZAj (ZFj (ZAL (ZIP hu) (pv 0) (pv 1) (ZAO _)) (ZDq (ZAL (ZIP hu) (pv 1) (ZHv T.v_ONE_PLACE) (ZAO _)))).pt (ZAG (ZAK (pv 0))) ZAP)
      (ZAG (ZAK (ZCf (ZAL (ZIP hu) (pv 0) (ZHv T.v_ONE_PLACE) (ZAO _)) (pv 1) ZF0))))),?_⟩
    subst e1
    subst e2
    unfold fit at k
    refine ⟨_,rfl,_,rfl,p,q,_,_,rfl,rfl,hp,hq,rfl,rfl,decide (a=b),congrArg V.bl (ZPV a b),ZDJ (fun c1=>ZBR ⟨_,rfl,?_⟩) (fun c1=>?_)⟩
    · rw [if_pos (of_decide_eq_true c1)] at k
      exact k _ _ ⟨p,rfl,hp⟩ (ZAM.refl _)
    have c1':=fun z=>c1 (decide_eq_true z)
    rw [if_neg c1'] at k
    refine ⟨_,rfl,fun o ho=>⟨q,o,_,_,rfl,rfl,hq,(ho _),rfl,rfl,decide (b=(1,1)),congrArg V.bl (ZPV b (1,1)),ZDJ (fun c2=>⟨_,rfl,?_⟩) (fun c2=>?_)⟩⟩
    · rw [if_pos (of_decide_eq_true c2)] at k
      exact k _ _ ⟨p,rfl,hp⟩ (ZAM.refl _)
    rw [if_neg fun z=>c2 (decide_eq_true z)] at k
    refine ⟨_,rfl,fun o ho=>⟨p,o,_,_,rfl,rfl,hp,(ho _),rfl,rfl,decide (a=(1,1)),congrArg V.bl (ZPV a (1,1)),ZDJ (fun c3=>⟨_,rfl,?_⟩) (fun c3=>?_)⟩⟩
    · rw [if_pos (of_decide_eq_true c3)] at k
      exact k _ _ ⟨q,rfl,hq⟩ (ZAM.refl _)
    · rw [if_neg fun z=>c3 (decide_eq_true z)] at k
      exact k _ _ rfl (ZAM.refl _)
theorem ZFr:ZAS ["shape","value"] ["shape","value"] (ZAF ZBX):=⟨rfl,rfl,rfl,by decide +kernel,rfl,by decide +kernel,by decide +kernel⟩
theorem ZFY (T:Txt w K mg t):ZBS P w K mg base CX0 1 t.f_filled_table t.d_filled_table ["shape","value"] (ZQ2 K):=by
  have D:=T.c_filled_table
  refine D.fn.ok ZFr (fun vs H Q E h=>?_) (fun cdv A outer s H vs Q E hr h=>?_)
  · obtain ⟨p,u,h_,w_,rfl,_⟩:=h
    rfl
  · obtain ⟨p,u,h_,w_,rfl,⟨a,rfl,hp⟩,h1,h2,w1,w2,k⟩:=h
    refine ⟨_,((ZAG (ZAK (ZAZ ZKH (ZAb (ZAX (ZAZ ZKH (ZAb (ZAA (pv 1) ZAB)) (ZAN ZAJ (pv 0) ZAC (fun _ _=>rfl))) ZAB)) (ZAN ZAJ (pv 0) ZAC (fun _ _=>rfl)))))),?_⟩
    refine ⟨_,rfl,(by show 1≤sizeLine;decide),fun q1 hq1=>?_⟩
    have s1:=ZAM.new (o:=.tup [u]) hq1
    have e1:upd H q1 (.tup [u]) q1=some (.tup [u]):=ZAE
    generalize upd H q1 (.tup [u])=H1 at *
    refine ⟨_,rfl,a,_,_,_,rfl,rfl,SqT.sm hp s1,rfl,q1,u,w_,rfl,rfl,e1,w1,w2,fun q2 H2 e2 s2=>⟨(by show 1≤sizeLine;decide),fun q3 hq3=>?_⟩⟩
    have s3:=ZAM.new (o:=.tup [.ref q2]) hq3
    have e3:upd H2 q3 (.tup [.ref q2]) q3=some (.tup [.ref q2]):=ZAE
    generalize upd H2 q3 (.tup [.ref q2])=H3 at *
    have s13:=(s1.trans s2).trans s3
    refine ⟨_,rfl,a,_,_,_,rfl,rfl,SqT.sm hp s13,rfl,q3,.ref q2,h_,rfl,rfl,e3,h1,h2,fun q4 H4 e4 s4=>?_⟩
    exact k _ _ ⟨q4,_,rfl,e4,ZGA ⟨q2,rfl,s4 _ _ (s3 _ _ e2)⟩ h_⟩ (s13.trans s4)
theorem ZFs:ZAS ["table","shape"] ["table","shape"] (ZAF ZBY):=⟨rfl,rfl,rfl,by decide +kernel,rfl,by decide +kernel,by decide +kernel⟩
theorem ZDc (T:Txt w K mg t):ZBS P w K mg base CX0 2 t.f_spread_table t.d_spread_table ["table","shape"] (ZQ3 K):=by
  have D:=T.c_spread_table
  refine D.fn.ok ZFs (fun vs H Q E h=>?_) (fun cdv A outer s H vs Q E hr h=>?_)
  · obtain ⟨x,p,m,w_,h2,w2,rfl,_⟩:=h
    rfl
  · obtain ⟨x,p,m,w_,h2,w2,rfl,ht,rc,hp,h21,h22,w21,w22,k⟩:=h
    have hu:=hr.units0
    refine ⟨_,((ZAG (ZAK (ZCf (ZAL (ZIP hu) (ZAW T.c_table_shape (ZC7 T) (hr.mono (by decide)) (ZAA (pv 0) ZAB)) (ZAb (ZAH ZAC (ZAH ZAC ZAB))) (ZAO _)) (ZAW T.c_filled_table (ZFY T) (hr.mono (by decide)) (ZAA (pv 1) (ZAR (ZAN ZAJ (ZAN ZAJ (pv 0) ZAC (fun _ _=>rfl)) ZAC (fun _ _=>rfl)) ZAB))) (pv 0))))),?_⟩
    refine ⟨_,rfl,x,m,w_,rfl,ht,rc,fun r hr'=>?_⟩
    have s1:=ZAM.new (o:=.tup [.int m.length,.int w_]) hr'
    have e1:upd H r (.tup [.int m.length,.int w_]) r=some (.tup [.int m.length,.int w_]):=ZAE
    generalize upd H r (.tup [.int m.length,.int w_])=H1 at *
    refine ⟨ZAn,fun q hq=>?_⟩
    have s2:=ZAM.new (o:=.tup [.int 1,.int 1]) hq
    have e2:upd H1 q (.tup [.int 1,.int 1]) q=some (.tup [.int 1,.int 1]):=ZAE
    have e12:=s2 _ _ e1
    generalize upd H1 q (.tup [.int 1,.int 1])=H2 at *
    have s12:=s1.trans s2
    refine ⟨r,q,_,_,rfl,rfl,SqT.of e12,SqT.of e2,rfl,rfl,decide (((m.length:Int),(w_:Int))=(1,1)),congrArg V.bl (ZPV ((m.length:Int),(w_:Int)) (1,1)),?_⟩
    have ht2:=ht.kp (Kp.same s12)
    unfold ZH7 at k
    by_cases c:((m.length:Int),(w_:Int))=(1,1)
    · have c':(m.length,w_)=(1,1):=by
        injection c with c1 c2
        have d1:m.length=1:=by omega
        have d2:w_=1:=by omega
        rw [d1,d2]
      rw [if_pos c'] at k
      rw [decide_eq_true c]
      obtain ⟨b,us,b0,rt,rfl,hb,_,hb0,_⟩:=ht2.row0 rc
      refine ZBR ⟨_,rfl,_,rfl,b,_,_,_,rfl,rfl,SqT.of hb,ZAc,b0,_,_,_,rfl,rfl,SqT.of hb0,ZAc,?_⟩
      exact ⟨p,hdV m,h2,w2,rfl,ZJS.same hp s12,h21,h22,w21,w22,fun x' H' hx s'=>k x' H' hx (s12.trans s')⟩
    · have c':¬ (m.length,w_)=(1,1):=fun z=>c (by injection z with z1 z2;rw [z1,z2];rfl)
      rw [if_neg c'] at k
      rw [decide_eq_false c]
      exact ZAo ⟨_,rfl,k _ _ ht2 s12⟩
theorem ZD6:ZAS ["table","values","row"] ["table"] (ZAF ZCO):=⟨rfl,rfl,rfl,by decide +kernel,rfl,by decide +kernel,by decide +kernel⟩
theorem ZDd (T:Txt w K mg t):ZBS P w K mg base CX0 1 t.f_values_in t.d_values_in ["table"] ZQ4:=by
  have D:=T.c_values_in
  refine D.fn.ok ZD6 (fun vs H Q E h=>?_) (fun cdv A outer s H vs Q E hr h=>?_)
  · obtain ⟨x,m,w_,rfl,_⟩:=h
    rfl
  · obtain ⟨x,m,w_,rfl,⟨b,us,rfl,hb,pr⟩,rc,w30,m30,k⟩:=h
    refine ⟨_,((ZAD (ZAd (i:=1) ZD6.nd rfl (Or.inl rfl) (ZBh ZAB))
      (ZAD (ZC1 PassesOwn.never rfl (ZGy (pv 0)) (ZA2 (i:=2) ZD6.nd rfl (Or.inl rfl))
      (ZAG (ZCa (ZEn PySem.F.plainAttrs_list PySem.F.slot_list_extend PySem.F.type_list_extend ZJA (pv 1) (ZAA (pv 2) ZAB)))))
      (ZAG (ZAK (pv 1)))))),?_⟩
    have hul:us.length=m.length:=Paired.length pr
    refine ⟨Nat.zero_le _,fun d hd=>?_⟩
    have s0:=ZAM.new (o:=.lst []) hd
    refine ⟨_,rfl,b,rfl,⟨_,SqT.of (s0 _ _ hb)⟩,?_⟩
    refine ZFB (xs:=us) (fun i σ H5=>∃ x2,σ=[some (.ref b),some (.ref d),x2]∧H5 d=some (.lst (m.take i).flatten)∧ZAM H H5) ⟨none,rfl,ZAE,s0⟩ ?_ ?_ ?_
    · rintro i σ H5 _ ⟨x2,rfl,_,s5⟩
      exact SqT.of (s5 _ _ hb)
    · rintro i x σ H5 hx ⟨x2,rfl,hd5,s5⟩
      obtain ⟨row,hrow,br,rfl,hbr⟩:=ZBA pr hx
      have lr:row.length=w_:=rc.row row (List.mem_of_getElem? hrow)
      have hi:i<m.length:=(List.getElem?_eq_some_iff.mp hrow).1
      have hiw:i*w_≤30*30:=Nat.mul_le_mul (by omega) w30
      have fl:(m.take i).flatten.length=i*w_:=by rw [ZE1 (w:=w_) fun r hr'=>rc.row r (List.mem_of_mem_take hr'),List.length_take,Nat.min_eq_left (by omega)]
      refine ⟨_,rfl,.inl ⟨rfl,_,SqL.of hd5⟩,_,rfl,d,br,_,row,rfl,rfl,hd5,s5 _ _ hbr,ZC0 (by omega),?_⟩
      refine ⟨_,rfl,?_,fun b' o e=>?_⟩
      · rw [ZAE,List.take_add_one,hrow,List.flatten_append]
        simp
      · rw [ZAa (ZAY e hd)];exact s5 _ _ e
    · rintro σ H5 ⟨x2,rfl,hd5,s5⟩
      rw [hul,List.take_length] at hd5
      exact ⟨_,rfl,k d H5 hd hd5 s5⟩
theorem ZEN:ZAS ["values","value"] ["values"] (ZAF ZBp):=⟨rfl,rfl,rfl,by decide +kernel,rfl,by decide +kernel,by decide +kernel⟩
theorem ZFt (T:Txt w K mg t):ZBS P w K mg base CX0 1 t.f_first_fault t.d_first_fault ["values"] (ZQd K):=by
  have D:=T.c_first_fault
  refine D.fn.ok ZEN (fun vs H Q E h=>?_) (fun cdv A outer s H vs Q E hr h=>?_)
  · obtain ⟨l,us,ms,rfl,_⟩:=h
    rfl
  · obtain ⟨l,us,ms,rfl,hl,vs_,h1,k⟩:=h
    refine ⟨_,((ZAD (ZC1 PassesOwn.never rfl (ZDw (pv 0)) (ZA2 (i:=1) ZEN.nd rfl (Or.inl rfl))
      (ZAG (ZAj (ZAL ZAm (ZAN ZAJ (pv 1) ZAC (fun _ _=>rfl)) ZAI (ZAO _)) (ZAG (ZAK (pv 1))) ZAP)))
      (ZAG (ZAK ZF0)))),?_⟩
    refine ⟨_,rfl,l,rfl,⟨_,SqL.of hl⟩,?_⟩
    refine ZEw (xs:=us) (fun i σ H5=>∃ x1,σ=[some (.ref l),x1]∧H5=H∧ZIj us ms=ZIj (us.drop i) (ms.drop i)) ⟨none,rfl,rfl,rfl⟩ ?_ ?_ ?_
    · rintro i σ H5 _ ⟨x1,rfl,rfl,_⟩
      exact SqL.of hl
    · rintro i x σ H5 hx ⟨x1,rfl,rfl,e⟩
      obtain ⟨v,hv,xv⟩:=ZBA vs_ hx
      obtain ⟨q,xs,rfl,hq,_⟩:=xv.hd
      rw [ZKc hx hv] at e
      refine ⟨_,rfl,q,_,_,_,rfl,rfl,SqT.of hq,ZAc,rfl,isF v,rfl,?_⟩
      refine ZDJ (fun hf=>?_) (fun hf=>?_)
      · rw [if_pos hf] at e
        exact ⟨_,rfl,by rw [← e];exact k⟩
      · rw [if_neg hf] at e
        exact ⟨_,rfl,rfl,e⟩
    · rintro σ H5 ⟨x1,rfl,rfl,e⟩
      have e2:ZIj (us.drop us.length) (ms.drop us.length)=.non:=by rw [List.drop_length,List.drop_eq_nil_of_le (Nat.le_of_eq (Paired.length vs_).symm)];rfl
      rw [e2] at e
      show Q .non _
      rw [← e];exact k
theorem ZFZ:ZAS ["values"] ["values"] (ZAF ZBM):=⟨rfl,rfl,rfl,by decide +kernel,rfl,by decide +kernel,by decide +kernel⟩
theorem ZEr (T:Txt w K mg t):ZBS P w K mg base CX0 1 t.f_numbers_among t.d_numbers_among ["values"] (ZRC K):=by
  have D:=T.c_numbers_among
  refine D.fn.ok ZFZ (fun vs H Q E h=>?_) (fun cdv A outer s H vs Q E hr h=>?_)
  · obtain ⟨l,us,ms,rfl,_⟩:=h
    rfl
  · obtain ⟨l,us,ms,rfl,hl,vs_,h1000,k⟩:=h
    refine ⟨_,((ZAG (ZAK (ZDZ (fv:=[]) (js:=[]) (cl:=[]) rfl (by with_unfolding_all rfl) ⟨rfl,by decide +kernel,by decide +kernel,rfl,by decide +kernel,by decide +kernel,(List.forall_mem_nil _),(List.forall_mem_nil _),.nil⟩ (ZDw (pv 0)) (fun _ _ _ _ _=>(ZJt (ZAL ZAm (ZAN ZDL (pv 0) ZAC (fun _ _=>rfl)) ZAI (ZAO _)))) (fun _ _ _ _ _=>(ZAb (ZAR (ZAN ZDL (pv 0) ZAC (fun _ _=>rfl)) (ZAR (ZAN ZDL (pv 0) ZAC (fun _ _=>rfl)) ZAB)))))))),?_⟩
    have ul:us.length=ms.length:=Paired.length vs_
    refine ⟨_,rfl,l,rfl,⟨_,SqL.of hl⟩,fun D hD=>?_⟩
    refine ⟨fun i m H5=>m=us.length-i∧i≤us.length∧∃ ps,H5 D=some (.lst ps)∧ps.length≤i∧ZFm H5 ps (ZDF (ms.take i))∧ZAM H H5,⟨us.length,rfl,Nat.zero_le _,[],ZAE,Nat.le_refl _,.nil,ZAM.new hD⟩,?_⟩
    rintro i m H5 ⟨rfl,hi,ps,hD5,pl5,pr5,s5⟩
    by_cases hlt:i<us.length
    · have hx:us[i]?=some us[i]:=List.getElem?_eq_getElem hlt
      obtain ⟨v,hv,xv⟩:=ZBA vs_ hx
      have xv5:=xv.kp (Kp.same s5)
      refine .inr ⟨⟨_,_,SqL.of (s5 _ _ hl),hx⟩,fun x H6 y=>?_⟩
      obtain ⟨e4,y⟩:=y
      subst e4
      have hx':=y _ (SqL.of (s5 _ _ hl))
      rw [hx] at hx'
      cases hx'
      obtain ⟨q,xs,eq,hq,_⟩:=xv5.hd
      rw [eq] at xv5 ⊢
      refine ⟨_,rfl,q,_,_,_,rfl,rfl,SqT.of hq,ZAc,rfl,_,rfl,ZDJ (fun c=>?_) (fun c=>?_)⟩
      · obtain ⟨_,ez,hz⟩:=xv5
        cases ez
        obtain ⟨a,b,rfl⟩:=hz.num_of c
        have hq':H6 q=some (.tup [vS "number",.int a,.int b]):=hz
        refine ⟨_,rfl,q,_,_,_,rfl,rfl,SqT.of hq',rfl,_,rfl,q,_,_,_,rfl,rfl,SqT.of hq',rfl,ZAn,fun pp hpp=>?_⟩
        have s6:=ZAM.new (o:=.tup [.int a,.int b]) hpp
        have hp6:upd H6 pp (.tup [.int a,.int b]) pp=some (.tup [.int a,.int b]):=ZAE
        generalize upd H6 pp (.tup [.int a,.int b])=H7 at *
        have hD7:=s6 _ _ hD5
        have kd:=ZFR (vs:=ps++[.ref pp]) hD7
        refine ⟨ps,hD7,ZDM (by omega),us.length-(i+1),(by omega),rfl,hlt,ps++[.ref pp],ZAE,(by rw [List.length_append,List.length_singleton];omega),?_,fun b' o e=>by rw [ZAa (ZAY e hD)];exact s6 _ _ (s5 _ _ e)⟩
        unfold ZDF
        rw [ZEJ hv,List.filterMap_append]
        exact ZHN (ZFm.kp pr5 ((Kp.same s6).trans kd)) ⟨pp,rfl,kd _ _ hp6⟩
      · refine ⟨us.length-(i+1),(by omega),rfl,hlt,ps,hD5,(by omega),?_,s5⟩
        unfold ZDF
        rw [ZEJ hv,List.filterMap_append]
        have e0:[v].filterMap ZSP=[]:=by
          cases v with
          | num t b=>exact absurd (by show decide (V.str (Str.ofString "number")=vS "number")=true;decide +kernel) c
          | none=>rfl
          | txt z=>rfl
          | tru b=>rfl
          | flt w z r c=>rfl
        rw [e0,List.append_nil]
        exact pr5
    · have ei:i=us.length:=by omega
      subst ei
      rw [ul,List.take_length] at pr5
      exact .inl ⟨⟨_,SqL.of (s5 _ _ hl),Nat.le_refl _⟩,k D ps H5 hD5 pr5 s5⟩
theorem ZBF:ZAS ["numbers","tops","top","bottom","whole_top","whole_bottom"] ["numbers"] (ZAF ZB7):=⟨rfl,rfl,rfl,by decide +kernel,rfl,by decide +kernel,by decide +kernel⟩
theorem ZGm (T:Txt w K mg t):ZBS P w K mg base CX0 3 t.f_sum_of_all t.d_sum_of_all ["numbers"] ZRD:=by
  have D:=T.c_sum_of_all
  refine D.fn.ok ZBF (fun vs H Q E h=>?_) (fun cdv A outer s H vs Q E hr h=>?_)
  · obtain ⟨l,us,ns,β,γ,rfl,_⟩:=h
    rfl
  · obtain ⟨l,us,ns,β,γ,rfl,hl,pr,⟨nok,nlen,nsz⟩,k⟩:=h
    have hu1:=ZHA hr
    refine ⟨_,((ZAD (ZAd (i:=1) ZBF.nd rfl (Or.inl rfl) ZLL)
      (ZAD (ZC1 PassesOwn.never rfl (ZDw (pv 0)) (ZGx rfl (ZB0 (ZA2 (i:=2) ZBF.nd rfl (Or.inl rfl)) (ZB0 (ZA2 (i:=3) ZBF.nd rfl (Or.inl rfl)) ZER)))
      (ZAG (ZJ2 hu1 (pv 1) (pv 3) (ZAZ ZA9 (ZLR hu1 (pv 1) (pv 3) ZAC ⟨rfl,rfl,rfl,rfl⟩) (pv 2)) rfl)))
      (ZAD (ZAd (i:=4) ZBF.nd rfl (Or.inl rfl) ZAC)
      (ZAD (ZAd (i:=5) ZBF.nd rfl (Or.inl rfl) ZAC)
      (ZAD (ZC1 PassesOwn.never rfl (ZQB (pv 1)) (ZA2 (i:=3) ZBF.nd rfl (Or.inl rfl))
      (ZAD (ZAd (i:=4) ZBF.nd rfl (Or.inl rfl) (ZAZ ZA9 (ZAZ ZAq (pv 4) (pv 3)) (ZAZ ZAq (ZJ1 hu1 (pv 1) (pv 3) (fun _ _=>rfl)) (pv 5))))
      (ZAG (ZAd (i:=5) ZBF.nd rfl (Or.inl rfl) (ZAZ ZAq (pv 5) (pv 3))))))
      (ZAG (ZAK (ZAW T.c_number_of (ZCZ T) (hr.mono (by decide)) (ZAA (pv 4) (ZAA (pv 5) ZAB))))))))))),?_⟩
    have ul:us.length=ns.length:=Paired.length pr
    have hpos:∀ n∈ns,0<n.2:=fun n h=>(nok n h).1
    have hpr:=ZKp hpos
    obtain ⟨c,hc⟩:∃ c,c=cB ns:=⟨_,rfl⟩
    obtain ⟨B,hB⟩:∃ B,B=prB ns:=⟨_,rfl⟩
    have hcB:∀ n∈ns,n.2*c n.2=B:=fun n h=>by rw [hc,hB];exact ZO5 h
    refine fun d hd=>?_
    have s0:=ZAM.new (o:=.dK []) hd
    have hd0:upd H d (.dK []) d=some (.dK (dK [])):=ZAE
    generalize upd H d (.dK [])=H0 at *
    refine ⟨_,rfl,l,rfl,⟨_,SqL.of (s0 _ _ hl)⟩,?_⟩
    refine ZEw (xs:=us) (fun i σ H5=>∃ x2 x3 ds,σ=[some (.ref l),some (.ref d),x2,x3,none,none]∧H5 d=some (.dK (dK ds))∧(ds.map (·.1)).Nodup∧ds.length≤i∧Sm c (ds.map sw)=Sm c (ns.take i)∧(∀ e∈ds,e.1*c e.1=B∧0<e.1∧e.1.natAbs≤2 ^ β∧e.2.natAbs≤i*2 ^ γ)∧ZAM H H5)
      ⟨none,none,[],rfl,hd0,List.nodup_nil,Nat.le_refl _,rfl,fun e z=>absurd z (by simp),s0⟩ ?_ ?_ ?_
    · rintro i σ H5 _ ⟨x2,x3,ds,rfl,_,_,_,_,_,s5⟩
      exact SqL.of (s5 _ _ hl)
    · rintro i x σ H5 hx ⟨x2,x3,ds,rfl,hd5,nd5,len5,sm5,ok5,s5⟩
      obtain ⟨n,hn,q,rfl,hq⟩:=ZBA pr hx
      have hq5:=s5 _ _ hq
      have hnm:=List.mem_of_getElem? hn
      obtain ⟨n1,n2,n3⟩:=nok n hnm
      have hi:i<ns.length:=(List.getElem?_eq_some_iff.mp hn).1
      refine ⟨q,_,rfl,SqT.of hq5,rfl,_,_,rfl,_,_,rfl,rfl,?_⟩
      have hdl:(dK ds).length=ds.length:=by unfold dK;rw [List.length_map]
      refine ⟨_,rfl,d,rfl,.inl ⟨_,.inl hd5⟩,_,rfl,_,ZHe.k (k:=.inl n.2) hd5,_,rfl,(ZC6 ds n.2).getD 0,n.1,(by rw [ZIo];cases ZC6 ds n.2 <;> rfl),rfl,?_⟩
      refine ⟨_,rfl,_,rfl,d,_,rfl,ZLI.k (k:=.inl n.2) hd5 (ZDM (by omega)),?_⟩
      obtain ⟨p1,p2⟩:=ZIp ds n.2 ((ZC6 ds n.2).getD 0+n.1) nd5
      refine ⟨_,_,ZGc ds n.2 ((ZC6 ds n.2).getD 0+n.1),rfl,(by rw [ZAE,ZMb _ _ _ nd5]),p1,Nat.le_trans (ZKm _ _ _) (by omega),?_,fun e he=>?_,fun b' o e'=>by rw [ZAa (ZAY e' hd)];exact s5 _ _ e'⟩
      · rw [ZO4,sm5,ZEJ hn]
        unfold Sm
        rw [List.map_append,List.sum_append]
        simp
      · rcases ZKn _ _ _ _ he with z | z
        · obtain ⟨z1,z2,z3,z4⟩:=ok5 e z
          refine ⟨z1,z2,z3,Nat.le_trans z4 (Nat.mul_le_mul_right _ (Nat.le_succ _))⟩
        · subst z
          refine ⟨hcB n hnm,n1,n3,?_⟩
          have hb:((ZC6 ds n.2).getD 0).natAbs≤i*2 ^ γ:=by
            cases e:ZC6 ds n.2 with
            | none=>exact Nat.zero_le _
            | some v=>exact (ok5 _ (ZIq e)).2.2.2
          show ((ZC6 ds n.2).getD 0+n.1).natAbs≤(i+1)*2 ^ γ
          rw [Nat.succ_mul]
          exact Nat.le_trans (Int.natAbs_add_le _ _) (Nat.add_le_add hb n2)
    · rintro σ H5 ⟨x2,x3,ds,rfl,hd5,nd5,len5,sm5,ok5,s5⟩
      rw [ul] at len5 sm5 ok5
      rw [List.take_length] at sm5
      have bd:∀ n∈ds.map sw,n.1.natAbs≤2 ^ (γ+10)∧n.2.natAbs≤2 ^ β:=fun n hn=>by
        obtain ⟨e,he,rfl⟩:=List.mem_map.mp hn
        obtain ⟨_,_,z3,z4⟩:=ok5 e he
        refine ⟨Nat.le_trans z4 ?_,z3⟩
        rw [Nat.pow_add,Nat.mul_comm]
        exact Nat.mul_le_mul_left _ (by omega)
      have szs:∀ i,i≤ds.length→Sz 4000 (fsl ((ds.take i).map sw)).1∧Sz 4000 (fsl ((ds.take i).map sw)).2:=fun i hi=>by
        obtain ⟨q1,q2⟩:=ZO6 (l:=(ds.take i).map sw) fun n hn=>bd n (by
          obtain ⟨e,he,rfl⟩:=List.mem_map.mp hn
          exact List.mem_map.mpr ⟨e,List.mem_of_mem_take he,rfl⟩)
        rw [List.length_map,List.length_take,Nat.min_eq_left hi] at q1 q2
        have b1:β*i≤β*ns.length:=Nat.mul_le_mul_left _ (by omega)
        exact ⟨ZL2 q1 (by omega) (by omega),ZL2 (k:=1) (by rw [Nat.one_mul];exact q2) (by decide) (by omega)⟩
      refine ⟨_,rfl,d,_,rfl,hd5,fun o=>?_⟩
      have hf6:upd H5 d (.frz o (.dK (dK ds))) d=some (.frz o (.dK (dK ds))):=ZAE
      have s6:ZAM H (upd H5 d (.frz o (.dK (dK ds)))):=fun b' o' e'=>by rw [ZAa (ZAY e' hd)];exact s5 _ _ e'
      generalize upd H5 d (.frz o (.dK (dK ds)))=H6 at *
      have hdl:(dK ds).length=ds.length:=by unfold dK;rw [List.length_map]
      refine ZOa (kvs:=dK ds) (fun i σ H7=>H7=H6∧∃ x2 x3,σ=[some (.ref l),some (.ref d),x2,x3,some (.int (fsl ((ds.take i).map sw)).1),some (.int (fsl ((ds.take i).map sw)).2)]) ⟨rfl,_,_,rfl⟩ ?_ ?_ ?_
      · rintro i σ H7 _ ⟨rfl,_⟩
        exact hf6
      · rintro i kk v σ H7 hk ⟨rfl,x2,x3,rfl⟩
        unfold dK at hk
        rw [List.getElem?_map] at hk
        obtain ⟨e,he,hke⟩:∃ e,ds[i]?=some e∧kk=.inl e.1:=by
          cases q:ds[i]? with
          | none=>rw [q] at hk;cases hk
          | some e=>rw [q] at hk;cases hk;exact ⟨e,rfl,rfl⟩
        subst hke
        have hi:i<ds.length:=(List.getElem?_eq_some_iff.mp he).1
        have hem:=List.mem_of_getElem? he
        obtain ⟨_,_,z3,z4⟩:=ok5 e hem
        obtain ⟨t1,t2⟩:=szs i (by omega)
        have t3:Sz 4000 e.1:=ZL2 (k:=1) (m:=β) (by rw [Nat.one_mul];exact z3) (by decide) (by
          have:β*1≤β*ns.length:=Nat.mul_le_mul_left _ (by omega)
          omega)
        have t4:Sz 4000 e.2:=ZL2 z4 (by omega) (by omega)
        have dg:ZHe H7 d (.int e.1) (some (.int e.2)):=.inl ⟨dK ds,.inl e.1,.inr ⟨o,hf6⟩,rfl,by rw [ZIo,ZKo nd5 hem];rfl⟩
        refine ⟨_,rfl,_,rfl,_,_,rfl,rfl,⟨t1,t3⟩,_,rfl,_,rfl,d,_,rfl,dg,_,rfl,_,_,rfl,rfl,⟨t4,t2⟩,_,_,rfl,rfl,?_⟩
        refine ⟨_,rfl,_,rfl,_,_,rfl,rfl,⟨t2,t3⟩,?_⟩
        refine ⟨rfl,x2,some (kV (Sum.inl e.1)),?_⟩
        rw [ZEJ he,List.map_append,show [e].map sw=[sw e] from rfl,ZL1]
        rfl
      · rintro σ H7 ⟨rfl,x2,x3,rfl⟩
        rw [hdl,List.take_length]
        have tz:=szs ds.length (Nat.le_refl _)
        rw [List.take_length] at tz
        have hdp:∀ n∈ds.map sw,n.2*cB ns n.2=prB ns∧0<n.2:=fun n hn=>by
          obtain ⟨e,he,rfl⟩:=List.mem_map.mp hn
          obtain ⟨z1,z2,_⟩:=ok5 e he
          rw [hc,hB] at z1
          exact ⟨z1,z2⟩
        have p1:=ZGb (l:=ds.map sw) fun n h=>(hdp n h).2
        rw [hc] at sm5
        obtain ⟨w1,w2⟩:=ZNb hpos hdp sm5
        refine ⟨_,rfl,_,rfl,_,_,rfl,(by omega),tz.2,fun p hp=>?_⟩
        exact k p _ (by rw [ZAE,w1,w2]) (s6.trans (ZAM.new hp))
theorem ZFa:ZAS ["values","cell","fault"] ["values","cell"] (ZAF ZCP):=⟨rfl,rfl,rfl,by decide +kernel,rfl,by decide +kernel,by decide +kernel⟩
theorem ZHX (T:Txt w K mg t):ZBS P w K mg base CX0 5 t.f_sum_among t.d_sum_among ["values","cell"] (ZRE K):=by
  have D:=T.c_sum_among
  refine D.fn.ok ZFa (fun vs H Q E h=>?_) (fun cdv A outer s H vs Q E hr h=>?_)
  · obtain ⟨l,us,ms,y,hm,β,γ,rfl,_⟩:=h
    rfl
  · obtain ⟨l,us,ms,y,hm,β,γ,rfl,hl,vs_,h1000,nok,hy,k⟩:=h
    refine ⟨_,((ZAD (ZAd (i:=2) ZFa.nd rfl (Or.inl rfl) (ZAW T.c_first_fault (ZFt T) (hr.mono (by decide)) (ZAA (pv 0) ZAB)))
      (ZAG (ZAK (ZCf (ZAL ZJh (pv 2) ZF0 (ZAO _)) (ZAW T.c_number_value (ZBj T) (hr.mono (by decide)) (ZAg (ZAW T.c_sum_of_all (ZGm T) (hr.mono (by decide)) (ZAg (ZAW T.c_numbers_among (ZEr T) (hr.mono (by decide)) (ZAA (pv 0) ZAB)) ZAB)) (ZAA (pv 1) ZAB))) (pv 2)))))),?_⟩
    refine ⟨_,rfl,l,us,ms,rfl,hl,vs_,h1000,?_⟩
    rcases ZIr vs_ with ⟨e1,e2⟩ | ⟨u,v,e1,e2,hu_,nu⟩
    · rw [e2]
      refine ⟨_,rfl,rfl,true,(by simp),ZBR ?_⟩
      refine ⟨_,rfl,l,us,ms,rfl,hl,vs_,h1000,fun l2 ps H2 hl2 pr2 s2=>?_⟩
      refine ⟨l2,ps,ZDF ms,β,γ,rfl,hl2,pr2,nok,fun q H3 hq3 s3=>?_⟩
      have p2:=ZGb (l:=ZDF ms) fun n h=>(nok.1 n h).1
      refine ⟨_,rfl,q,_,_,y,hm,rfl,hq3,ZC5 (by omega),hy.kp (Kp.same (s2.trans s3)),fun x H4 hx s4=>k x H4 ?_ ((s2.trans s3).trans s4)⟩
      unfold ZEY
      rw [e1]
      exact hx
    · rw [e2]
      refine ⟨_,rfl,rfl,false,(by simp [nu]),ZAo ?_⟩
      refine ⟨_,rfl,k _ _ ?_ (ZAM.refl _)⟩
      unfold ZEY
      rw [e1]
      exact hu_
theorem ZIB:ZAS ["table","cell"] ["table","cell"] (ZAF ZCQ):=⟨rfl,rfl,rfl,by decide +kernel,rfl,by decide +kernel,by decide +kernel⟩
theorem ZHY (T:Txt w K mg t):ZBS P w K mg base CX0 6 t.f_summed_up t.d_summed_up ["table","cell"] (ZRG ZEY):=by
  have D:=T.c_summed_up
  refine D.fn.ok ZIB (fun vs H Q E h=>?_) (fun cdv A outer s H vs Q E hr h=>?_)
  · obtain ⟨x,y,m,w_,hm,β,γ,rfl,_⟩:=h
    rfl
  · obtain ⟨x,y,m,w_,hm,β,γ,rfl,⟨mu,hx,vt⟩,rm,w30,m30,nok,hy,k⟩:=h
    refine ⟨_,((ZAG (ZAK (ZAW T.c_sum_among (ZHX T) (hr.mono (by decide)) (ZAg (ZAW T.c_values_in (ZDd T) (hr.mono (by decide)) (ZAA (pv 0) ZAB)) (ZAA (pv 1) ZAB)))))),?_⟩
    have lm:m.flatten.length=m.length*w_:=ZE1 rm.row
    have hmw:m.length*w_≤30*30:=Nat.mul_le_mul m30 w30
    refine ⟨_,rfl,x,mu,w_,rfl,hx,ZDO vt rm,w30,(by rw [Paired.length vt];exact m30),fun la H2 hla0 hla s2=>?_⟩
    have pm:ZEG H2 mu.flatten m.flatten:=ZEG.kp (ZRF vt) (Kp.same s2)
    have pl:mu.flatten.length≤1000:=by rw [Paired.length pm];omega
    exact ⟨_,rfl,la,_,_,y,hm,β,γ,rfl,hla,pm,pl,nok,hy.kp (Kp.same s2),fun z H3 hz s3=>k z H3 hz (s2.trans s3)⟩
theorem ZFb:ZAS ["values","wide"] ["values","wide"] (ZAF ZBN):=⟨rfl,rfl,rfl,by decide +kernel,rfl,by decide +kernel,by decide +kernel⟩
theorem ZDT (T:Txt w K mg t):ZBS P w K mg base CX0 1 t.f_table_in_rows t.d_table_in_rows ["values","wide"] ZQc:=by
  have D:=T.c_table_in_rows
  refine D.fn.ok ZFb (fun vs H Q E h=>?_) (fun cdv A outer s H vs Q E hr h=>?_)
  · obtain ⟨l,us,w_,h_,rfl,_⟩:=h
    rfl
  · obtain ⟨l,us,w_,h_,rfl,hl,hlen,w1,w2,h2,k⟩:=h
    refine ⟨_,((ZAG (ZAK (ZBy ZEC (by rfl) T.tuple ZCl (ZDK (ZDZ (fv:=["values","wide"]) (js:=[0,1]) (cl:=[("wide",s.heap.objs.size+2),("values",s.heap.objs.size+1)]) rfl (by with_unfolding_all rfl) ⟨rfl,by decide +kernel,by decide +kernel,rfl,by decide +kernel,by decide +kernel,(List.forall_mem_cons.mpr ⟨⟨rfl,rfl,rfl⟩,(List.forall_mem_cons.mpr ⟨⟨rfl,rfl,rfl⟩,(List.forall_mem_nil _)⟩)⟩),(List.forall_mem_cons.mpr ⟨rfl,(List.forall_mem_cons.mpr ⟨rfl,(List.forall_mem_nil _)⟩)⟩),(.cons rfl (.cons rfl .nil))⟩ (ZKC rfl T.range (ZAH ZAC (ZAg (ZAU ZAe (by rfl) T.len PySem.boot_len (ZAA (pv 0) ZAB)) (ZAA (pv 1) ZAB)))) (fun _ _ _ _ _=>ZFG) (fun _ _ _ _ _=>(ZBy ZFl (by rfl) T.tuple ZCl (ZAR (ZEB ZLZ (pv 1) (ZEV (pv 0)) (ZEV (ZAZ ZA9 (pv 0) (pv 2)))) ZAB)))) ZAB))))),?_⟩
    have hlen2:h_*w_≤10000:=Nat.mul_le_mul h2 w2
    refine ⟨_,rfl,l,us,rfl,.inl (SqL.of hl),_,rfl,_,_,rfl,⟨by omega,by omega,by omega,by omega⟩,fun D hD=>?_⟩
    rw [hlen,ZKb w1]
    have sD:∀ o,ZAM H (upd H D o):=fun o=>ZAM.new hD
    refine ⟨fun i m H4=>m=h_-i∧i≤h_∧∃ qs,H4 D=some (.lst qs)∧qs.length=i∧Paired (ZSE H4) qs ((ZEI us w_ h_).take i)∧ZAM H H4,⟨h_,rfl,Nat.zero_le _,[],ZAE,rfl,.nil,sD _⟩,?_⟩
    rintro i m H4 ⟨rfl,hi,qs,hq4,hql,pr4,s4⟩
    by_cases hlt:i<h_
    · refine .inr ⟨hlt,fun x H' y=>?_⟩
      obtain ⟨rfl,rfl⟩:=y
      have hiw:i*w_+w_≤us.length:=by
        rw [hlen]
        have:(i+1)*w_≤h_*w_:=Nat.mul_le_mul_right w_ hlt
        rw [Nat.succ_mul] at this
        omega
      have ec:ZFE us (some ((i:Int)*(w_:Int))) (some ((i:Int)*(w_:Int)+(w_:Int)))=(us.drop (i*w_)).take w_:=by
        have:=ZLm (xs:=us) (i:=i*w_) (j:=w_) hiw
        rw [Int.natCast_mul] at this
        exact this
      refine ⟨_,rfl,_,rfl,_,rfl,_,rfl,_,rfl,_,_,rfl,rfl,_,rfl,l,us,rfl,SqL.of (s4 _ _ hl),fun d hd=>?_⟩
      rw [ec]
      refine ⟨d,_,rfl,.inl ⟨SqL.of ZAE,fun q hq=>?_⟩⟩
      have s5:=(ZAM.new (o:=.lst ((us.drop (i*w_)).take w_)) hd).trans (ZAM.new (o:=.tup ((us.drop (i*w_)).take w_)) hq)
      have hqq:upd (upd H' d (.lst ((us.drop (i*w_)).take w_))) q (.tup ((us.drop (i*w_)).take w_)) q=some (.tup ((us.drop (i*w_)).take w_)):=ZAE
      generalize upd (upd H' d (.lst ((us.drop (i*w_)).take w_))) q (.tup ((us.drop (i*w_)).take w_))=H5 at *
      have hD5:=s5 _ _ hq4
      have kd:∀ o,Kp H5 (upd H5 D o):=fun o=>Kp.lst hD5 ZAl.upd
      refine ⟨qs,hD5,ZDM (by omega),h_-(i+1),(by omega),rfl,hlt,qs++[.ref q],ZAE,(by rw [List.length_append,hql];rfl),?_,fun b o e=>?_⟩
      · rw [List.take_add_one,ZKa hlt]
        exact ZHN (Paired.imp' (fun _ _ ⟨c,e,y⟩=>⟨c,e,kd _ _ _ (s5 _ _ y)⟩) pr4) ⟨q,rfl,kd _ _ _ hqq⟩
      · rw [ZAa (ZAY e hD)]
        exact s5 _ _ (s4 _ _ e)
    · have ei:i=h_:=by omega
      subst ei
      refine .inl ⟨Nat.le_refl _,D,qs,rfl,.inl ⟨SqL.of hq4,fun p hp=>k _ _ ⟨p,qs,rfl,ZAE,?_⟩ (s4.trans (ZAM.new hp))⟩⟩
      rw [List.take_of_length_le (Nat.le_of_eq ZKZ)] at pr4
      exact Paired.imp' (fun _ _ ⟨c,e,y⟩=>⟨c,e,ZAM.new hp _ _ y⟩) pr4
theorem ZCW:ZAS ["sign","one","other","cell","shape","lefts","rights"] ["sign","one","other","cell"] (ZAF ZBZ):=⟨rfl,rfl,rfl,by decide +kernel,rfl,by decide +kernel,by decide +kernel⟩
theorem ZDe (T:Txt w K mg t):ZBS P w K mg base CX0 7 t.f_signed_table t.d_signed_table ["sign","one","other","cell"] (ZOz K):=by
  have D:=T.c_signed_table
  refine D.fn.ok ZCW (fun vs H Q E h=>?_) (fun cdv A outer s H vs Q E hr h=>?_)
  · obtain ⟨s_,x,y,z,m,n,w1,w2,h_,w_,hm,rs,rfl,_⟩:=h
    rfl
  · obtain ⟨s_,x,y,z,m,n,w1,w2,h_,w_,hm,rs,rfl,hx,hy,r1,r2,hf,l1,q1,l2,q2,h1,h30,ww1,w30,hz,lrs,hsg,k⟩:=h
    refine ⟨_,((ZAD (ZAd (i:=4) ZCW.nd rfl (Or.inl rfl) (ZAW T.c_fitted_shape (ZFX T) (hr.mono (by decide)) (ZAg (ZAW T.c_table_shape (ZC7 T) (hr.mono (by decide)) (ZAA (pv 1) ZAB)) (ZAg (ZAW T.c_table_shape (ZC7 T) (hr.mono (by decide)) (ZAA (pv 2) ZAB)) ZAB))))
      (ZAD (ZAd (i:=5) ZCW.nd rfl (Or.inl rfl) (ZAW T.c_values_in (ZDd T) (hr.mono (by decide)) (ZAg (ZAW T.c_spread_table (ZDc T) (hr.mono (by decide)) (ZAA (pv 1) (ZAA (pv 4) ZAB))) ZAB)))
      (ZAD (ZAd (i:=6) ZCW.nd rfl (Or.inl rfl) (ZAW T.c_values_in (ZDd T) (hr.mono (by decide)) (ZAg (ZAW T.c_spread_table (ZDc T) (hr.mono (by decide)) (ZAA (pv 2) (ZAA (pv 4) ZAB))) ZAB)))
      (ZAG (ZAK (ZAW T.c_table_in_rows (ZDT T) (hr.mono (by decide)) (ZDK (ZLP (x:="left") (y:="right") (fv:=["sign","cell"]) (js:=[0,3]) (cl:=[("sign",s.heap.objs.size+1),("cell",s.heap.objs.size+2)]) rfl (by with_unfolding_all rfl) ⟨⟨rfl,by decide +kernel,by decide +kernel,rfl,by decide +kernel,by decide +kernel,(List.forall_mem_cons.mpr ⟨⟨rfl,rfl,rfl⟩,(List.forall_mem_cons.mpr ⟨⟨rfl,rfl,rfl⟩,(List.forall_mem_nil _)⟩)⟩),(List.forall_mem_cons.mpr ⟨rfl,(List.forall_mem_cons.mpr ⟨rfl,(List.forall_mem_nil _)⟩)⟩),(.cons rfl (.cons rfl .nil))⟩,rfl,by decide +kernel⟩ (ZM9 rfl T.zip ZOy (ZAA (pv 5) (ZAA (pv 6) ZAB))) (fun _ _ _ _ _=>ZFG) (fun _ _ _ _ _=>(ZAW T.c_signed (ZK7 T) (hr.mono (by decide)) (ZAA (pv 2) (ZAA (pv 0) (ZAA (pv 1) (ZAA (pv 3) ZAB))))))) (ZAR (ZAN ZAJ (pv 4) ZAC (fun _ _=>rfl)) ZAB))))))))),?_⟩
    refine ⟨_,rfl,x,m,w1,rfl,hx,r1,fun ra hra=>?_⟩
    have s1:=ZAM.new (o:=.tup [.int m.length,.int w1]) hra
    have e1:upd H ra (.tup [.int m.length,.int w1]) ra=some (.tup [.int m.length,.int w1]):=ZAE
    generalize upd H ra (.tup [.int m.length,.int w1])=H1 at *
    refine ⟨_,rfl,y,n,w2,rfl,hy.kp (Kp.same s1),r2,fun rb hrb=>?_⟩
    have s2:=ZAM.new (o:=.tup [.int n.length,.int w2]) hrb
    have e2:upd H1 rb (.tup [.int n.length,.int w2]) rb=some (.tup [.int n.length,.int w2]):=ZAE
    have e12:=s2 _ _ e1
    generalize upd H1 rb (.tup [.int n.length,.int w2])=H2 at *
    refine ⟨.ref ra,.ref rb,((m.length:Int),(w1:Int)),((n.length:Int),(w2:Int)),rfl,⟨ra,rfl,SqT.of e12⟩,⟨rb,rfl,SqT.of e2⟩,fun sh H3 hs3 s3=>?_⟩
    rw [hf] at hs3
    have s13:=(s1.trans s2).trans s3
    refine ⟨_,rfl,_,rfl,x,sh,m,w1,h_,w_,rfl,hx.kp (Kp.same s13),r1,hs3,h1,(by omega),ww1,(by omega),fun t1 H4 ht4 s4=>?_⟩
    refine ⟨t1,_,w_,rfl,ht4,q1,(by omega),(by omega),fun la H5 hla0 hla s5=>?_⟩
    have s15:=(s13.trans s4).trans s5
    refine ⟨_,rfl,_,rfl,y,sh,n,w2,h_,w_,rfl,hy.kp (Kp.same s15),r2,ZJS.same hs3 (s4.trans s5),h1,(by omega),ww1,(by omega),fun t2 H6 ht6 s6=>?_⟩
    refine ⟨t2,_,w_,rfl,ht6,q2,(by omega),(by omega),fun lb H7 hlb0 hlb s7=>?_⟩
    have s57:=s6.trans s7
    have s17:=s15.trans s57
    have la7:=s57 _ _ hla
    have lu:(ZH7 m w1 h_ w_).flatten.length=h_*w_:=by rw [ZE1 q1.row,l1]
    have lu2:(ZH7 n w2 h_ w_).flatten.length=h_*w_:=by rw [ZE1 q2.row,l2]
    generalize (ZH7 m w1 h_ w_).flatten=us at *
    generalize (ZH7 n w2 h_ w_).flatten=us2 at *
    have hw900:h_*w_≤30*30:=Nat.mul_le_mul h30 w30
    refine ⟨_,rfl,_,rfl,la,lb,rfl,⟨_,SqL.of la7⟩,⟨_,SqL.of hlb⟩,fun D hD=>?_⟩
    have hz7:=hz.kp (Kp.same s17)
    refine ⟨fun i mm H8=>mm=h_*w_-i∧i≤h_*w_∧∃ vs,H8 D=some (.lst vs)∧ZEG H8 vs (rs.take i)∧vs.length=i∧ZAM H7 H8,⟨h_*w_,rfl,Nat.zero_le _,[],ZAE,.nil,rfl,ZAM.new hD⟩,?_⟩
    rintro i mm H8 ⟨rfl,hi,vs,hD8,vs8,len8,s8⟩
    by_cases hlt:i<h_*w_
    · have ha:us[i]?=some (us[i]'(by omega)):=List.getElem?_eq_getElem (by omega)
      have hb:us2[i]?=some (us2[i]'(by omega)):=List.getElem?_eq_getElem (by omega)
      have hr1:rs[i]?=some (rs[i]'(by omega)):=List.getElem?_eq_getElem (by omega)
      have sgi:=hsg i _ _ _ ha hb hr1
      refine .inr ⟨⟨_,_,_,_,SqL.of (s8 _ _ la7),SqL.of (s8 _ _ hlb),ha,hb⟩,fun v H9 o1' o2' yl=>?_⟩
      obtain ⟨x0,y0,bb,y1,y2,hbb,rfl,rfl⟩:=yl
      have ex:=(y1 _ (SqL.of (s8 _ _ la7))).symm.trans ha
      have ey:=(y2 _ (SqL.of (s8 _ _ hlb))).symm.trans hb
      cases ex;cases ey
      have s9:=ZAM.new (o:=.tup [us[i]'(by omega),us2[i]'(by omega)]) hbb
      have e9:upd H8 bb (.tup [us[i]'(by omega),us2[i]'(by omega)]) bb=some (.tup [us[i]'(by omega),us2[i]'(by omega)]):=ZAE
      generalize upd H8 bb (.tup [us[i]'(by omega),us2[i]'(by omega)])=H9 at *
      have k89:=Kp.same (s8.trans s9)
      refine ⟨bb,_,rfl,SqT.of e9,rfl,_,_,rfl,_,_,rfl,rfl,⟨_,_,rfl⟩,?_⟩
      refine ⟨_,rfl,_,rfl,_,rfl,_,rfl,s_,_,_,z,_,hm,rfl,sgi.kp ((Kp.same s17).trans k89),hz7.kp k89,fun ux H10 hx10 s10=>?_⟩
      have hD10:=s10 _ _ (s9 _ _ hD8)
      refine ⟨vs,hD10,ZDM (by omega),h_*w_-(i+1),(by omega),rfl,hlt,vs++[ux],ZAE,?_,(by rw [List.length_append,len8];rfl),fun b' o e=>?_⟩
      · rw [List.take_add_one,hr1]
        exact ZHN (ZEG.kp vs8 ((Kp.same (s9.trans s10)).trans (ZFR hD10))) (hx10.kp (ZFR hD10))
      · rw [ZAa (ZAY e hD)];exact s10 _ _ (s9 _ _ (s8 _ _ e))
    · have ei:i=h_*w_:=by omega
      subst ei
      refine .inl ⟨⟨_,_,SqL.of (s8 _ _ la7),SqL.of (s8 _ _ hlb),.inl (by omega)⟩,?_⟩
      have s38:=((s4.trans s5).trans s57).trans s8
      obtain ⟨sa,rfl,hsa⟩:=ZJS.same hs3 s38
      rw [List.take_of_length_le (by omega)] at vs8
      refine ⟨_,rfl,sa,_,_,_,rfl,rfl,hsa,rfl,D,vs,w_,h_,rfl,hD8,len8,ww1,(by omega),(by omega),fun u H' hu' s'=>?_⟩
      exact k u H' ⟨_,hu',ZEh (ZEG.kp vs8 (Kp.same s'))⟩ ((s17.trans s8).trans s')
theorem ZDo:ZAS ["block","cells","row","column"] ["block"] (ZAF ZCo):=⟨rfl,rfl,rfl,by decide +kernel,rfl,by decide +kernel,by decide +kernel⟩
theorem ZIC (T:Txt w K mg t):ZBS P w K mg base CX0 1 t.f_cells_of t.d_cells_of ["block"] spCs:=by
  have D:=T.c_cells_of
  refine D.fn.ok ZDo (fun vs H Q E h=>?_) (fun cdv A outer s H vs Q E hr h=>?_)
  · obtain ⟨p,z,r,c,r2,c2,rfl,_⟩:=h
    rfl
  · obtain ⟨p,z,r,c,r2,c2,rfl,hp,k⟩:=h
    refine ⟨_,((ZAD (ZAd (i:=1) ZDo.nd rfl (Or.inl rfl) (ZBh ZAB))
      (ZAD (ZC1 PassesOwn.never rfl (ZGz rfl T.range (ZAR (ZAN ZAJ (pv 0) ZAC (fun _ _=>rfl)) (ZAX (ZAZ ZA9 (ZAN ZAJ (pv 0) ZAC (fun _ _=>rfl)) ZAC) ZAB))) (ZA2 (i:=2) ZDo.nd rfl (Or.inl rfl))
      (ZAG (ZC1 PassesOwn.never rfl (ZGz rfl T.range (ZAR (ZAN ZAJ (pv 0) ZAC (fun _ _=>rfl)) (ZAX (ZAZ ZA9 (ZAN ZAJ (pv 0) ZAC (fun _ _=>rfl)) ZAC) ZAB))) (ZA2 (i:=3) ZDo.nd rfl (Or.inl rfl))
      (ZAG (ZCa (ZEn PySem.F.plainAttrs_list PySem.F.slot_list_append PySem.F.type_list_append ZBK (pv 1) (ZAp (ZAb (ZAR (ZAN ZAJ (pv 0) ZAC (fun _ _=>rfl)) (ZAA (pv 2) (ZAA (pv 3) ZAB)))) ZAB)))))))
      (ZAG (ZAK (pv 1)))))),?_⟩
    have g1:=hp.r1;have g2:=hp.r16;have g3:=hp.c1;have g4:=hp.c8;have g5:=hp.r0;have g6:=hp.c0
    have hw:(c2+1-c).toNat=(c2-c+1).toNat:=by omega
    have hh:(r2+1-r).toNat=(r2-r+1).toNat:=by omega
    generalize hwd:(c2-c+1).toNat=w at hw k
    generalize hhd:(r2-r+1).toNat=hgt at hh k
    have hw1:1≤w:=by omega
    have hw8:w≤8:=by omega
    have hh16:hgt≤16:=by omega
    have ew:c2-c+1=(w:Int):=by omega
    have eh:r2-r+1=(hgt:Int):=by omega
    clear hwd hhd
    refine ⟨Nat.zero_le _,fun l hl=>?_⟩
    have npl:p≠l:=ZAY hp.ob hl
    refine ⟨_,rfl,p,_,_,_,rfl,rfl,SqT.of (ZAM.new hl _ _ hp.ob),rfl,_,rfl,p,_,_,_,rfl,rfl,SqT.of (ZAM.new hl _ _ hp.ob),rfl,_,_,rfl,rfl,_,_,rfl,⟨by clear hw hh;omega,by clear hw hh;omega,by clear hw hh;omega,by clear hw hh;omega⟩,?_⟩
    rw [hh]
    refine ZFC (fun i σ H2=>∃ x2 x3,σ=[some (.ref p),some (.ref l),x2,x3]∧ZAM H H2∧ZNn H2 l z r c w (i*w)) ⟨_,_,rfl,ZAM.new hl,⟨[],ZAE,by simp,fun k v e=>by simp at e⟩⟩ ?_ ?_
    · rintro i σ H2 hi ⟨x2,x3,rfl,s2,cs2⟩
      have hp2:=hp.same s2
      refine ⟨_,rfl,p,_,_,_,rfl,rfl,SqT.of hp2.ob,rfl,_,rfl,p,_,_,_,rfl,rfl,SqT.of hp2.ob,rfl,_,_,rfl,rfl,_,_,rfl,⟨by clear hw hh;omega,by clear hw hh;omega,by clear hw hh;omega,by clear hw hh;omega⟩,?_⟩
      rw [hw]
      refine ZFC (fun j σ H3=>∃ x3,σ=[some (.ref p),some (.ref l),some (.int (r+i)),x3]∧ZAM H H3∧ZNn H3 l z r c w (i*w+j)) ⟨_,rfl,s2,cs2⟩ ?_ ?_
      · rintro j σ H3 hj ⟨x3,rfl,s3,vs,hv1,hv2,hv3⟩
        have hp3:=hp.same s3
        have hlen:i*w+j<1000:=by
          have:i*w≤15*w:=Nat.mul_le_mul_right w (by clear hw hh;omega)
          omega
        refine ⟨_,rfl,.inl ⟨rfl,_,SqL.of hv1⟩,_,rfl,p,_,_,_,rfl,rfl,SqT.of hp3.ob,rfl,_,rfl,_,rfl,ZAk,fun q hq=>?_⟩
        have nlq:l≠q:=ZAY hv1 hq
        refine ⟨l,vs,_,rfl,rfl,(by rw [ZAa nlq];exact hv1),(by rw [hv2];exact ZDM (by clear hw hh;omega)),?_⟩
        refine ⟨_,rfl,ZAM.step s3 hl hq,ZNn.push hv1 hv2 hv3 hq ?_ ?_⟩
        · show r+(i:Int)=r+(((i*w+j) / w:Nat):Int)
          rw [Nat.mul_comm i w,Nat.mul_add_div (by clear hw hh;omega),Nat.div_eq_of_lt hj];simp
        · show c+(j:Int)=c+(((i*w+j)%w:Nat):Int)
          rw [Nat.mul_comm i w,Nat.mul_add_mod,Nat.mod_eq_of_lt hj]
      · rintro σ H3 ⟨x3,rfl,s3,cs3⟩
        exact ⟨_,_,rfl,s3,by rw [Nat.succ_mul];exact cs3⟩
    · rintro σ H2 ⟨x2,x3,rfl,s2,cs2⟩
      exact ⟨_,rfl,k l _ hl s2 cs2⟩
theorem ZFu:ZAS ["value"] ["value"] (ZAF ZBa):=⟨rfl,rfl,rfl,by decide +kernel,rfl,by decide +kernel,by decide +kernel⟩
theorem ZCF (T:Txt w K mg t):ZBS P w K mg base CX0 1 t.f_table_of_one t.d_table_of_one ["value"] ZQb:=by
  have D:=T.c_table_of_one
  refine D.fn.ok ZFu (fun vs H Q E h=>?_) (fun cdv A outer s H vs Q E hr h=>?_)
  · obtain ⟨u,rfl,_⟩:=h
    rfl
  · obtain ⟨u,rfl,k⟩:=h
    refine ⟨_,((ZAG (ZAK (ZAb (ZAp (ZAb (ZAA (pv 0) ZAB)) ZAB))))),?_⟩
    refine ⟨_,rfl,(by show 1≤sizeLine;decide),fun p hp=>⟨(by show 1≤sizeLine;decide),fun q hq=>?_⟩⟩
    exact k _ _ ⟨q,_,rfl,ZAE,.cons ⟨p,rfl,ZAM.new hq _ _ ZAE⟩ .nil⟩ ((ZAM.new hp).trans (ZAM.new hq))
theorem ZJN:ZAS ["formula"] ["formula"] (ZAF ZCp):=⟨rfl,rfl,rfl,by decide +kernel,rfl,by decide +kernel,by decide +kernel⟩
theorem ZFc (T:Txt w K mg t):ZBS P w K mg base CX0 1 t.f_parts_of t.d_parts_of ["formula"] ZQW:=by
  have D:=T.c_parts_of
  refine D.fn.ok ZJN (fun vs H Q E h=>?_) (fun cdv A outer s H vs Q E hr h=>?_)
  · obtain ⟨v,f,pr,n,rfl,_⟩:=h
    rfl
  · obtain ⟨v,f,pr,n,rfl,hv,fo,k⟩:=h
    refine ⟨_,((ZAD (ZAj (ZAL ZAm (ZAN ZAJ (pv 0) ZAC (fun _ _=>rfl)) ZAI (ZAO _)) (ZAG (ZAK (ZBy ZG8 (by rfl) T.list ZHK (ZAR (ZAN ZAJ (pv 0) ZAC (fun _ _=>rfl)) ZAB)))) ZAP)
      (ZAG (ZAK (ZDZ (fv:=["formula"]) (js:=[0]) (cl:=[("formula",s.heap.objs.size+1)]) rfl (by with_unfolding_all rfl) ⟨rfl,by decide +kernel,by decide +kernel,rfl,by decide +kernel,by decide +kernel,(List.forall_mem_cons.mpr ⟨⟨rfl,rfl,rfl⟩,(List.forall_mem_nil _)⟩),(List.forall_mem_cons.mpr ⟨rfl,(List.forall_mem_nil _)⟩),(.cons rfl .nil)⟩ (ZGy (ZLS (ZM4 T.v_PART_PLACES) (ZAN ZAJ (pv 0) ZAC (fun _ _=>rfl)) (ZAb ZAB) ⟨rfl,rfl,rfl,rfl⟩)) (fun _ _ _ _ _=>ZFG) (fun _ _ _ _ _=>(ZAN ZDL (pv 1) (pv 0) (fun _ _=>rfl)))))))),?_⟩
    cases hv with
    | @lf a l hl=>
      obtain ⟨w,r,ha,h1,h2,_⟩:=hl.pp
      refine ⟨_,rfl,a,_,_,_,rfl,rfl,SqT.of ha,ZAc,rfl,false,h1,ZAo ?_⟩
      refine fun pa kvs hk hp=>⟨pa,kvs,rfl,hk,_,rfl,a,_,_,_,rfl,rfl,SqT.of ha,ZAc,Nat.zero_le _,fun e he=>⟨Sum.inr w,rfl,?_⟩⟩
      rw [ZKW hp h2]
      have s1:=ZAM.new (o:=.tup []) he
      have sq:∀ ws D,upd H e (.tup []) D=none→SqT K (upd (upd H e (.tup [])) D (.lst ws)) e []:=fun ws D hD=>SqT.of (ZAM.new hD _ _ ZAE)
      refine ⟨e,rfl,⟨_,SqT.of ZAE⟩,fun D hD=>?_⟩
      refine ⟨fun i m H4=>i=0∧H4=upd (upd H e (.tup [])) D (.lst []),⟨0,rfl,rfl⟩,?_⟩
      rintro i m H4 ⟨rfl,rfl⟩
      refine .inl ⟨⟨[],sq _ _ hD,Nat.le_refl _⟩,?_⟩
      exact k D [] _ (ZAM.back0 s1 hD) ZAE .nil (s1.trans (ZAM.new hD))
    | @nd a t kd us ps ha ht hl hh=>
      cases fo with
      | nd ok hps=>
      obtain ⟨r0,er⟩:=ZOn t kd us
      have ha0:H a=some (.tup (.str (kw kd)::r0)):=by rw [ha,er]
      have fm:=ZB4.parts hl hh
      cases ho:ZHx kd with
      | true=>
        obtain ⟨z,rfl⟩:∃ z,kd=.own z:=by cases kd <;> first | exact ⟨_,rfl⟩ | cases ho
        replace ha:H a=some (.tup [vS "own",.str z,.ref t]):=ha
        refine ⟨_,rfl,a,_,_,_,rfl,rfl,SqT.of ha,ZAc,rfl,true,(by decide +kernel),ZBR ?_⟩
        refine ⟨_,rfl,a,_,_,_,rfl,rfl,SqT.of ha,ZOm,t,us,rfl,.inr (SqT.of (ht rfl)),fun d hd=>?_⟩
        exact k d us _ hd ZAE (ZCi.kp fm (Kp.same (ZAM.new hd))) (ZAM.new hd)
      | false=>
        obtain ⟨pl,hpl,lpl,hat⟩:=ZOp (t:=t) (us:=us) (by rw [hl];exact ok) ho
        have l3:=ok.le
        refine ⟨_,rfl,a,_,_,_,rfl,rfl,SqT.of ha0,ZAc,rfl,false,congrArg V.bl ((ZOo ok).trans ho),ZAo ?_⟩
        refine fun pa kvs hk hp=>⟨pa,kvs,rfl,hk,_,rfl,a,_,_,_,rfl,rfl,SqT.of ha0,ZAc,Nat.zero_le _,fun e he=>⟨Sum.inr (kw kd),rfl,?_⟩⟩
        obtain ⟨b,hb,hsq⟩:=ZML hp hpl
        rw [hb]
        have s1:=ZAM.new (o:=.tup []) he
        have nsl:∀ {D:Addr},upd H e (.tup []) D=none→H D=none:=fun {D} h=>ZAM.back0 s1 h
        generalize upd H e (.tup [])=H2 at *
        refine ⟨b,rfl,⟨_,hsq _⟩,fun D hD=>?_⟩
        have sD:∀ ws,ZAM H2 (upd H2 D (.lst ws)):=fun ws=>ZAM.new hD
        refine ⟨fun i m H4=>m=us.length-i∧i≤us.length∧H4=upd H2 D (.lst (us.take i)),⟨us.length,rfl,Nat.zero_le _,rfl⟩,?_⟩
        rintro i m H4 ⟨rfl,hi,rfl⟩
        by_cases hlt:i<us.length
        · obtain ⟨p,u,hp1,hu1',hat1⟩:=hat i hlt
          have hx1:(pl.map fun (p:Nat)=>V.int p)[i]?=some (.int p):=by rw [List.getElem?_map,hp1];rfl
          refine .inr ⟨⟨_,_,hsq _,hx1⟩,fun x H' y=>?_⟩
          obtain ⟨e,y⟩:=y
          subst e
          have hx:=y _ (hsq _)
          rw [hx1] at hx
          cases hx
          refine ⟨_,rfl,_,rfl,a,_,_,_,rfl,rfl,SqT.of (sD _ _ _ (s1 _ _ ha)),hat1,_,ZAE,ZDM (by rw [List.length_take];omega),us.length-(i+1),(by omega),rfl,hlt,?_⟩
          rw [ZHj,List.take_add_one,hu1'];rfl
        have ei:i=us.length:=by omega
        subst ei
        refine .inl ⟨⟨_,hsq _,(by rw [List.length_map,lpl];exact Nat.le_refl _)⟩,?_⟩
        rw [List.take_length]
        have s3:=s1.trans (sD us)
        exact k D us _ (nsl hD) ZAE (ZCi.kp fm (Kp.same s3)) s3
theorem ZC8:ZAS ["reference","first","last"] ["reference"] (ZAF ZBb):=⟨rfl,rfl,rfl,by decide +kernel,rfl,by decide +kernel,by decide +kernel⟩
theorem ZDf (T:Txt w K mg t):ZBS P w K mg base CX0 1 t.f_block_led_to t.d_block_led_to ["reference"] ZQe:=by
  have D:=T.c_block_led_to
  refine D.fn.ok ZC8 (fun vs H Q E h=>?_) (fun cdv A outer s H vs Q E hr h=>?_)
  · obtain ⟨v,l,z,c,d,rfl,_⟩:=h
    rfl
  · obtain ⟨v,l,z,c,d,rfl,hv,hb,k⟩:=h
    refine ⟨_,((ZAD (ZAd (i:=1) ZC8.nd rfl (Or.inl rfl) (ZAN ZAJ (pv 0) ZAC (fun _ _=>rfl)))
      (ZAD (ZAd (i:=2) ZC8.nd rfl (Or.inl rfl) (ZAN ZAJ (pv 0) (ZLD ZIM ZAC) (fun _ _=>rfl)))
      (ZAG (ZAK (ZAb (ZAR (ZAN ZAJ (pv 0) ZAC (fun _ _=>rfl)) (ZAR (ZAN ZAJ (pv 1) ZAC (fun _ _=>rfl)) (ZAR (ZAN ZAJ (pv 1) ZAC (fun _ _=>rfl)) (ZAR (ZAN ZAJ (pv 2) ZAC (fun _ _=>rfl)) (ZAR (ZAN ZAJ (pv 2) ZAC (fun _ _=>rfl)) ZAB))))))))))),?_⟩
    cases hv with
    | @lf a l hl=>
      obtain ⟨w_,q,u,r,ha,_,hq,hu',hlast⟩:=ZMP hl hb
      refine ⟨_,rfl,a,_,_,_,rfl,rfl,SqT.of ha,ZOm,_,rfl,1,rfl,a,_,_,_,rfl,rfl,SqT.of ha,(show _=some (V.ref u) by rcases hlast with ⟨rfl,rfl⟩ | rfl <;> rfl),?_⟩
      refine ⟨_,rfl,a,_,_,_,rfl,rfl,SqT.of ha,ZNK,_,rfl,q,_,_,_,rfl,rfl,SqT.of hq,rfl,_,rfl,q,_,_,_,rfl,rfl,SqT.of hq,rfl,_,rfl,u,_,_,_,rfl,rfl,SqT.of hu',rfl,_,rfl,u,_,_,_,rfl,rfl,SqT.of hu',rfl,(by show 5≤sizeLine;decide),k⟩
theorem ZDR:ZAS ["formula","waiting","row","part"] ["formula"] (ZAF ZCR):=⟨rfl,rfl,rfl,by decide +kernel,rfl,by decide +kernel,by decide +kernel⟩
theorem ZHZ (T:Txt w K mg t):ZBS P w K mg base CX0 2 t.f_all_parts t.d_all_parts ["formula"] ZQY:=by
  have D:=T.c_all_parts
  refine D.fn.ok ZDR (fun vs H Q E h=>?_) (fun cdv A outer s H vs Q E hr h=>?_)
  · obtain ⟨v,f,pr,n,rfl,_⟩:=h
    rfl
  · obtain ⟨v,f,pr,n,rfl,hv,fo,h8,k⟩:=h
    refine ⟨_,((ZAD (ZAd (i:=1) ZDR.nd rfl (Or.inl rfl) (ZBh (ZAA (pv 0) ZAB)))
      (ZAD (ZAd (i:=2) ZDR.nd rfl (Or.inl rfl) (ZBh ZAB))
      (ZAD (ZGB PassesOwn.never (ZAL ZIx (ZAU ZAe (by rfl) T.len PySem.boot_len (ZAA (pv 1) ZAB)) ZAC (ZAO _)) (ZAD (ZAd (i:=3) ZDR.nd rfl (Or.inl rfl) (ZOA PySem.F.plainAttrs_list PySem.F.slot_list_pop PySem.F.type_list_pop ZOB (pv 1)))
      (ZAD (ZCa (ZEn PySem.F.plainAttrs_list PySem.F.slot_list_append PySem.F.type_list_append ZBK (pv 2) (ZAA (pv 3) ZAB)))
      (ZAG (ZCa (ZEn PySem.F.plainAttrs_list PySem.F.slot_list_extend PySem.F.type_list_extend ZJq (pv 1) (ZAg (ZAW T.c_parts_of (ZFc T) (hr.mono (by decide)) (ZAA (pv 3) ZAB)) ZAB)))))))
      (ZAG (ZAK (ZI6 rfl (by rfl) T.list ZHK (by rfl) T.reversed (pv 2)))))))),?_⟩
    have bd:=ZMN fo h8
    refine ⟨_,rfl,ZOr,fun l hl=>?_⟩
    have s0:=ZAM.new (o:=.lst [v]) hl
    have hl1:upd H l (.lst [v]) l=some (.lst [v]):=ZAE
    have hv1:=ZB4.kp hv (Kp.same s0)
    generalize upd H l (.lst [v])=H1 at *
    refine ⟨Nat.zero_le _,fun r hr'=>?_⟩
    have s1:=ZAM.new (o:=.lst []) hr'
    have nlr:l≠r:=fun z=>by rw [← z,hl1] at hr';cases hr'
    have hr0:H r=none:=by
      cases c:H r with
      | none=>rfl
      | some o=>rw [s0 _ _ c] at hr';cases hr'
    refine ⟨fun m σ H5=>∃ (vs rs:List V) (fs gs:List Fm) (x:Option V),σ=[some v,some (.ref l),some (.ref r),x]∧H5 l=some (.lst vs)∧H5 r=some (.lst rs)∧ZCi H5 vs fs∧ZCi H5 rs gs∧(∀ g∈fs,FO pr n g)∧szs fs=m∧alL fs++gs.reverse=alF f∧ZAM H H5,
      ⟨szF f,_,_,[f],[],none,rfl,s1 _ _ hl1,ZAE,.cons (ZB4.kp hv1 (Kp.same s1)) .nil,.nil,(fun g hg=>by rw [List.mem_singleton.mp hg];exact fo),(by rw [szs,szs];omega),(by rw [alL,alL];simp),fun b o e=>s1 _ _ (s0 _ _ e)⟩,?_⟩
    rintro m σ H5 ⟨vs,rs,fs,gs,x,rfl,hl5,hr5,fm5,gm5,good,hm,him,s5⟩
    refine ⟨_,rfl,l,_,rfl,.inl (SqL.of hl5),_,_,rfl,rfl,_,rfl,?_⟩
    rcases List.eq_nil_or_concat vs with rfl | ⟨vs',y,hvs⟩
    · have e0:fs=[]:=List.length_eq_zero_iff.mp (Paired.length fm5).symm
      subst e0
      refine ZAo ⟨_,rfl,r,rs,rfl,SqL.of hr5,fun lq hlq=>?_⟩
      have e1:gs.reverse=alF f:=by rw [← him,alL,List.nil_append]
      have s6:=ZAM.new (o:=.lst rs.reverse) hlq
      have hq0:H lq=none:=by
        cases c:H lq with
        | none=>rfl
        | some o=>rw [s5 _ _ c] at hlq;cases hlq
      exact k lq rs.reverse _ hq0 ZAE (by rw [← e1];exact prev (ZCi.kp gm5 (Kp.same s6))) fun b o e=>s6 _ _ (s5 _ _ e)
    have hvs:vs=vs'++[y]:=by rw [hvs,List.concat_eq_append]
    subst hvs
    obtain ⟨fs',g,rfl,fm',hg⟩:=ZOq fm5
    have fg:=good g (by simp)
    have hsz:szs fs'+(1+szs (ZFO g))=m:=by
      rw [← hm,ZGV,szs,szs,ZHy g];omega
    have hne:decide ((0:Int)<((vs'++[y]).length:Int))=true:=decide_eq_true (by rw [List.length_append,List.length_singleton];omega)
    rw [hne]
    refine ZBR ⟨fun σ' H'=>∃ m',m'<m∧∃ (vs rs:List V) (fs gs:List Fm) (x:Option V),σ'=[some v,some (.ref l),some (.ref r),x]∧H' l=some (.lst vs)∧H' r=some (.lst rs)∧ZCi H' vs fs∧ZCi H' rs gs∧(∀ g∈fs,FO pr n g)∧szs fs=m'∧alL fs++gs.reverse=alF f∧ZAM H H',fun _ _ z=>z,?_⟩
    refine ⟨_,rfl,.inl ⟨rfl,_,SqL.of hl5⟩,l,_,y,rfl,rfl,hl5,(by simp),?_⟩
    rw [List.dropLast_concat]
    have t7:Kp H5 (upd H5 l (.lst vs')):=Kp.lst hl5 ZAl.upd
    have hl7:upd H5 l (.lst vs') l=some (.lst vs'):=ZAE
    have hr7:upd H5 l (.lst vs') r=some (.lst rs):=by rw [ZAa nlr.symm];exact hr5
    have fm7:=ZCi.kp fm' t7
    have gm7:=ZCi.kp gm5 t7
    have hg7:=ZB4.kp hg t7
    have s7:ZAM H (upd H5 l (.lst vs')):=fun b o e=>by rw [ZAa (ZAY e hl)];exact s5 _ _ e
    generalize upd H5 l (.lst vs')=H7 at *
    have n0:(alL (fs'++[g])).length+gs.length=szF f:=by rw [← ZFP f,← him,List.length_append,List.length_reverse]
    rw [ZH1] at n0
    have n00:rs.length=gs.length:=Paired.length gm5
    refine ⟨_,rfl,.inl ⟨rfl,_,SqL.of hr7⟩,_,rfl,r,rs,y,rfl,rfl,hr7,slm (by omega),?_⟩
    have t8:Kp H7 (upd H7 r (.lst (rs++[y]))):=Kp.lst hr7 ZAl.upd
    have hl8:upd H7 r (.lst (rs++[y])) l=some (.lst vs'):=by rw [ZAa nlr];exact hl7
    have hr8:upd H7 r (.lst (rs++[y])) r=some (.lst (rs++[y])):=ZAE
    have fm8:=ZCi.kp fm7 t8
    have hg8:=ZB4.kp hg7 t8
    have gm8:ZCi _ (rs++[y]) (gs++[g]):=ZQX (ZCi.kp gm7 t8) (.cons hg8 .nil)
    have s8:ZAM H (upd H7 r (.lst (rs++[y]))):=fun b o e=>by rw [ZAa (ZAY e hr0)];exact s7 _ _ e
    generalize upd H7 r (.lst (rs++[y]))=H8 at *
    refine ⟨_,rfl,.inl ⟨rfl,_,SqL.of hl8⟩,_,rfl,y,g,pr,n,rfl,hg8,fg,fun lp ws HA hlp0 hlp fmp sA=>?_⟩
    have n1:vs'.length=fs'.length:=Paired.length fm7
    have n2:ws.length=(ZFO g).length:=Paired.length fmp
    have n3:=ZHz fs'
    have n4:=ZHz (ZFO g)
    have n5:szs (fs'++[g])=szs fs'+(1+szs (ZFO g)):=by rw [ZGV,szs,szs,ZHy g];omega
    have hlA:=sA _ _ hl8
    have hrA:=sA _ _ hr8
    refine ⟨l,lp,vs',ws,rfl,rfl,hlA,hlp,slm (by omega),?_⟩
    have tB:Kp HA (upd HA l (.lst (vs'++ws))):=Kp.lst hlA ZAl.upd
    refine ⟨szs fs'+szs (ZFO g),(by omega),vs'++ws,rs++[y],fs'++ZFO g,gs++[g],_,rfl,ZAE,(by rw [ZAa nlr.symm];exact hrA),ZQX (ZCi.kp fm8 ((Kp.same sA).trans tB)) (ZCi.kp fmp tB),ZCi.kp gm8 ((Kp.same sA).trans tB),fun x hx=>?_,ZGV _ _,?_,fun b o e=>?_⟩
    · rcases List.mem_append.mp hx with q | q
      · exact good x (List.mem_append.mpr (.inl q))
      · exact fg.prt x q
    · rw [← him,ZH0,ZH0,alL,alL,ZNM g];simp
    · rw [ZAa (ZAY e hl)];exact sA _ _ (s8 _ _ e)
theorem ZBQ:ZAS ["row","tell_one","told","formula","first","one"] ["row","tell_one"] (ZAF ZBO):=⟨rfl,rfl,rfl,by decide +kernel,rfl,by decide +kernel,by decide +kernel⟩
theorem ZEs (T:Txt w K mg t){B:Type}{L:Addr}{At:Hp→V→B→Prop}{sem:Fm→B}{lg:Fm→List Vl}{okk:Fm→Prop}{Dp:Hp→Prop}{St:Hp→List Vl→Prop}{f0:Addr}(hA:∀ H H' v b,Kp H H'→At H v b→At H' v b)(hD:ZMd L Dp)(hS:ZIs L St)(G:FV P w K mg base 11 f0 (ZNc L At sem lg okk Dp St)):ZBS P w K mg base CX0 12 t.f_told_by_parts t.d_told_by_parts ["row","tell_one"] (ZKs L f0 At sem lg okk Dp St):=by
  have D:=T.c_told_by_parts
  refine D.fn.ok ZBQ (fun vs H Q E h=>?_) (fun cdv A outer s H vs Q E hr h=>?_)
  · obtain ⟨l,f,ws,n,acc,rfl,_⟩:=h
    rfl
  · obtain ⟨l,f,ws,n,acc,rfl,hl,nl,fm,fo,h8,okA,hd0,hst,hbd,k⟩:=h
    refine ⟨_,((ZAD (ZAd (i:=2) ZBQ.nd rfl (Or.inl rfl) (ZBh ZAB))
      (ZAD (ZC1 PassesOwn.never rfl (ZDw (pv 0)) (ZA2 (i:=3) ZBQ.nd rfl (Or.inl rfl))
      (ZAD (ZAd (i:=4) ZBQ.nd rfl (Or.inl rfl) (ZAZ ZDC (ZAU ZAe (by rfl) T.len PySem.boot_len (ZAA (pv 2) ZAB)) (ZAU ZAe (by rfl) T.len PySem.boot_len (ZAg (ZAW T.c_parts_of (ZFc T) (hr.mono (by decide)) (ZAA (pv 3) ZAB)) ZAB))))
      (ZAD (ZAd (i:=5) ZBQ.nd rfl (Or.inl rfl) (ZGQ (k:=11) (pv 1) (hr.mono (by decide)) (ZAA (pv 3) (ZAR (ZEB ZGH (pv 2) (ZEV (pv 4)) ZGE) ZAB))))
      (ZAD (ZAd (i:=2) ZBQ.nd rfl (Or.inl rfl) (ZEB ZGH (pv 2) ZGE (ZEV (pv 4))))
      (ZAG (ZCa (ZEn PySem.F.plainAttrs_list PySem.F.slot_list_append PySem.F.type_list_append ZBK (pv 2) (ZAA (pv 5) ZAB))))))))
      (ZAG (ZAK (ZAN ZA3 (pv 2) ZAC (fun _ _=>rfl))))))),?_⟩
    have bd:=ZMN fo h8
    have hwl:ws.length=szF f:=by rw [Paired.length fm,ZFP]
    obtain ⟨uL,hLo⟩:=hS.ob _ _ hst
    refine ⟨Nat.zero_le _,fun d0 hd0'=>?_⟩
    have s0:=ZAM.new (o:=.lst []) hd0'
    refine ⟨_,rfl,l,rfl,⟨_,SqL.of (s0 _ _ hl)⟩,?_⟩
    refine ZEw (xs:=ws) (fun i σ H5=>∃ (d:Addr) (vs:List V) (x3 x4 x5:Option V),σ=[some (.ref l),some (.ref f0),some (.ref d),x3,x4,x5]∧H d=none∧H5 d=some (.lst vs)∧Paired (At H5) vs (((alF f).take i).foldl (ZEp sem) [])∧ZAl L H H5∧Kp H H5∧St H5 (acc++((alF f).take i).flatMap lg))
      ⟨d0,[],none,none,none,rfl,hd0',ZAE,.nil,ZAM.keep s0,Kp.same s0,(by rw [List.take_zero,List.flatMap_nil,List.append_nil];exact hS.same s0 hst)⟩ ?_ ?_ ?_
    · rintro i σ H5 _ ⟨d,vs,x3,x4,x5,rfl,_,_,_,k5,_⟩
      exact SqL.of (k5 _ _ nl hl)
    · rintro i x σ H5 hx ⟨d,vs,x3,x4,x5,rfl,hd,hd5,sh5,k5,p5,st5⟩
      have nd:d≠L:=fun z=>by rw [z,hLo] at hd;cases hd
      obtain ⟨g,hg,xg⟩:=ZBA fm hx
      have xg5:=ZB4.kp xg p5
      have hgm:=List.mem_of_getElem? hg
      have fog:=FO.al f fo g hgm
      obtain ⟨st',est⟩:=ZMQ sem f [] i g hg
      have hlen:vs.length=st'.length+(ZFO g).length:=by rw [Paired.length sh5,est,List.length_append,List.length_map]
      have hlen2:vs.length≤i:=by
        rw [Paired.length sh5]
        refine Nat.le_trans (ZKe sem _ _) ?_
        rw [List.length_take,List.length_nil];omega
      have hi:i<ws.length:=(List.getElem?_eq_some_iff.mp hx).1
      refine ⟨_,rfl,d,vs,rfl,.inl (SqL.of hd5),_,rfl,x,g,0,n,rfl,xg5,fog,fun lp ps H6 hlp0 hlp fmp s6=>?_⟩
      have hpl:ps.length=(ZFO g).length:=Paired.length fmp
      have ej:((vs.length:Nat):Int)-((ps.length:Nat):Int)=((st'.length:Nat):Int):=by omega
      refine ⟨lp,ps,rfl,.inl (SqL.of hlp),_,_,rfl,rfl,?_⟩
      have hd6:=s6 _ _ hd5
      have smA:∀ {H1 H2:Hp} {us:List V} {bs:List B},Paired (At H1) us bs→Kp H1 H2→Paired (At H2) us bs:=fun p s=>Paired.imp' (fun _ _ x=>hA _ _ _ _ s x) p
      have sh6:=smA sh5 (Kp.same s6)
      rw [est] at sh6
      have ec:ZFE vs (some (((vs.length:Nat):Int)-((ps.length:Nat):Int))) none=vs.drop st'.length:=by rw [ej];exact ZOs (by omega)
      have el:ZFE vs none (some (((vs.length:Nat):Int)-((ps.length:Nat):Int)))=vs.take st'.length:=by rw [ej];exact ZMO (by omega)
      have shd:Paired (At H6) (vs.drop st'.length) ((ZFO g).map sem):=by
        have:=ZNN st'.length sh6
        rwa [List.drop_left] at this
      have sht:Paired (At H6) (vs.take st'.length) st':=by
        have:=ZLl st'.length sh6
        rwa [List.take_left] at this
      rw [← ec] at shd
      rw [← el] at sht
      refine ⟨_,rfl,f0,_,rfl,G,_,rfl,_,rfl,_,rfl,_,rfl,d,vs,rfl,SqL.of hd6,fun dq hdq=>?_⟩
      have sq:∀ o,ZAM H6 (upd H6 dq o):=fun o=>ZAM.new hdq
      have st6:=hS.same s6 st5
      have d6:Dp H6:=hD.kx (p5.trans (Kp.same s6)) (k5.trans (ZAM.keep s6)) hd0
      refine ⟨x,g,dq,_,n,_,rfl,ZB4.kp (ZB4.kp xg5 (Kp.same s6)) (Kp.same (sq _)),fog,okA g hgm,hD.smd (SmD.of (sq _)) d6,hS.same (sq _) st6,(by rw [List.append_assoc,← ZHR hg];exact Nat.le_trans (ZL3 _ _ _ _) hbd),ZAE,smA shd (Kp.same (sq _)),fun y H8 hy k8 st8=>?_⟩
      have p8:=hS.kp (hS.same (sq (.lst (ZFE vs (some (((vs.length:Nat):Int)-((ps.length:Nat):Int))) none))) st6) k8
      have k68:=(ZAM.keep (p:=L) (sq (.lst (ZFE vs (some (((vs.length:Nat):Int)-((ps.length:Nat):Int))) none)))).trans k8
      have p68:=(Kp.same (sq (.lst (ZFE vs (some (((vs.length:Nat):Int)-((ps.length:Nat):Int))) none)))).trans p8
      have hd8:=k68 _ _ nd hd6
      refine ⟨_,rfl,_,rfl,_,rfl,d,vs,rfl,SqL.of hd8,fun de hde=>?_⟩
      have se:∀ o,ZAM H8 (upd H8 de o):=fun o=>ZAM.new hde
      have nde:de≠L:=hS.ne st8 hde
      have hlt:(ZFE vs none (some (((vs.length:Nat):Int)-((ps.length:Nat):Int)))).length≤vs.length:=ZDx _ _ _
      refine ⟨_,rfl,.inl ⟨rfl,_,SqL.of ZAE⟩,_,rfl,de,_,y,rfl,rfl,ZAE,slm (by omega),?_⟩
      have k08:=(k5.trans (ZAM.keep s6)).trans k68
      have p08:=(p5.trans (Kp.same s6)).trans p68
      have hH:H de=none:=k08.fresh nde hde
      have kk:∀ o o',Kp H8 (upd (upd H8 de (.lst o)) de (.lst o')):=fun o o'=>(Kp.same (se _)).trans (Kp.lst ZAE ZAl.upd)
      refine ⟨de,_,_,_,_,rfl,hH,ZAE,?_,fun b o hb e=>?_,p08.trans (kk _ _),?_⟩
      · have e1:((alF f).take (i+1)).foldl (ZEp sem) []=st'++[sem g]:=by
          rw [List.take_add_one,hg,List.foldl_append,est]
          exact ZGW sem st' g
        rw [e1]
        exact ZHN (smA sht (p68.trans (kk _ _))) (hA _ _ _ _ (kk _ _) hy)
      · rw [ZAa (ZAY e hH)]
        exact se _ _ _ (k08 _ _ hb e)
      · show St _ (acc++((alF f).take (i+1)).flatMap lg)
        rw [ZHR hg,← List.append_assoc]
        exact hS.up nde ZAE (hS.same (se _) st8)
    · rintro σ H5 ⟨d,vs,x3,x4,x5,rfl,hd,hd5,sh5,k5,p5,st5⟩
      rw [hwl,← ZFP,List.take_length] at sh5 st5
      rw [ZH2,List.nil_append] at sh5
      cases sh5 with
      | cons h5 t5=>
        cases t5
        exact ⟨_,rfl,d,_,_,_,rfl,rfl,SqL.of hd5,rfl,k _ _ h5 k5 st5⟩
theorem ZGn:ZAS ["block"] ["block"] (ZAF ZBq):=⟨rfl,rfl,rfl,by decide +kernel,rfl,by decide +kernel,by decide +kernel⟩
theorem ZFv (T:Txt w K mg t):ZBS P w K mg base CX0 1 t.f_block_shape t.d_block_shape ["block"] ZQZ:=by
  have D:=T.c_block_shape
  refine D.fn.ok ZGn (fun vs H Q E h=>?_) (fun cdv A outer s H vs Q E hr h=>?_)
  · obtain ⟨q,x,a,b,c,d,rfl,_⟩:=h
    rfl
  · obtain ⟨q,x,a,b,c,d,rfl,hq,k⟩:=h
    refine ⟨_,((ZAG (ZAK (ZAb (ZAX (ZAZ ZA9 (ZAZ ZDC (ZAN ZAJ (pv 0) ZAC (fun _ _=>rfl)) (ZAN ZAJ (pv 0) ZAC (fun _ _=>rfl))) ZAC) (ZAX (ZAZ ZA9 (ZAZ ZDC (ZAN ZAJ (pv 0) ZAC (fun _ _=>rfl)) (ZAN ZAJ (pv 0) ZAC (fun _ _=>rfl))) ZAC) ZAB)))))),?_⟩
    refine ⟨_,rfl,q,_,_,_,rfl,rfl,SqT.of hq,rfl,_,rfl,q,_,_,_,rfl,rfl,SqT.of hq,rfl,_,_,rfl,rfl,_,_,rfl,rfl,_,rfl,q,_,_,_,rfl,rfl,SqT.of hq,rfl,_,rfl,q,_,_,_,rfl,rfl,SqT.of hq,rfl,_,_,rfl,rfl,_,_,rfl,rfl,ZAn,k⟩
theorem ZGo:ZAS ["block","shows"] ["block","shows"] (ZAF ZBr):=⟨rfl,rfl,rfl,by decide +kernel,rfl,by decide +kernel,by decide +kernel⟩
theorem ZDu (T:Txt w K mg t){Dp:Hp→Prop}{dom:Str→Int→Int→Prop}{g:Str→Int→Int→Vl}{f:Addr}(G:FV P w K mg base 1 f (ZPT Dp dom g))(hD:∀ H H',SmD H H'→Dp H→Dp H'):ZBS P w K mg base CX0 2 t.f_shown_table t.d_shown_table ["block","shows"] (ZNO f Dp dom g):=by
  have D:=T.c_shown_table
  refine D.fn.ok ZGo (fun vs H Q E h=>?_) (fun cdv A outer s H vs Q E hr h=>?_)
  · obtain ⟨b,z,r,c,r2,c2,rfl,_⟩:=h
    rfl
  · obtain ⟨b,z,r,c,r2,c2,rfl,hb,hd,hdom,k⟩:=h
    refine ⟨_,((ZAG (ZAK (ZAW T.c_table_in_rows (ZDT T) (hr.mono (by decide)) (ZDK (ZDZ (fv:=["shows"]) (js:=[1]) (cl:=[("shows",s.heap.objs.size+1)]) rfl (by with_unfolding_all rfl) ⟨rfl,by decide +kernel,by decide +kernel,rfl,by decide +kernel,by decide +kernel,(List.forall_mem_cons.mpr ⟨⟨rfl,rfl,rfl⟩,(List.forall_mem_nil _)⟩),(List.forall_mem_cons.mpr ⟨rfl,(List.forall_mem_nil _)⟩),(.cons rfl .nil)⟩ (ZDw (ZAW T.c_cells_of (ZIC T) (hr.mono (by decide)) (ZAA (pv 0) ZAB))) (fun _ _ _ _ _=>ZFG) (fun _ _ _ _ _=>(ZKE (k:=1) (pv 1) (hr.mono (by decide)) (ZAA (pv 0) ZAB)))) (ZAR (ZAN ZAJ (ZAW T.c_block_shape (ZFv T) (hr.mono (by decide)) (ZAA (pv 0) ZAB)) ZAC (fun _ _=>rfl)) ZAB)))))),?_⟩
    have g1:=hb.r1;have g2:=hb.r16;have g3:=hb.c1;have g4:=hb.c8;have g5:=hb.r0;have g6:=hb.c0
    refine ⟨_,rfl,b,z,r,c,r2,c2,rfl,hb,fun l H1 hl0 s1 cs=>?_⟩
    generalize hwd:(c2-c+1).toNat=w_ at *
    generalize hhd:(r2-r+1).toNat=h_ at *
    have ew:c2-c+1=(w_:Int):=by omega
    have eh:r2-r+1=(h_:Int):=by omega
    clear hwd hhd
    obtain ⟨cs1,hl1,hcl,hcs⟩:=cs
    have hhw:h_*w_≤16*8:=Nat.mul_le_mul (by omega) (by omega)
    refine ⟨l,rfl,⟨_,SqL.of hl1⟩,fun D hD'=>?_⟩
    have sD:∀ o,ZAM H1 (upd H1 D o):=fun o=>ZAM.new hD'
    refine ⟨fun i m H4=>m=h_*w_-i∧i≤h_*w_∧∃ us,H4 D=some (.lst us)∧ZEG H4 us ((List.range i).map fun (k:Nat)=>g z (r+((k / w_:Nat):Int)) (c+((k%w_:Nat):Int)))∧ZAM H1 H4,⟨h_*w_,rfl,Nat.zero_le _,[],ZAE,.nil,sD _⟩,?_⟩
    rintro i m H4 ⟨rfl,hi,us,hD4,vs4,s4⟩
    have ul:us.length=i:=by rw [Paired.length vs4,List.length_map,List.length_range]
    by_cases hlt:i<h_*w_
    · obtain ⟨x,hx⟩:∃ x,cs1[i]?=some x:=⟨cs1[i]'(by omega),List.getElem?_eq_getElem (by omega)⟩
      refine .inr ⟨⟨_,_,SqL.of (s4 _ _ hl1),hx⟩,fun x' H' y=>?_⟩
      obtain ⟨rfl,y⟩:=y
      have hx':=y _ (SqL.of (s4 _ _ hl1))
      rw [hx] at hx'
      cases hx'
      obtain ⟨a,rfl,hA⟩:=hcs i x hx
      have hw1:1≤w_:=by omega
      have d1:((i / w_:Nat):Int)<(h_:Int):=by
        have:=Nat.div_lt_of_lt_mul (show i<w_*h_ by rw [Nat.mul_comm];exact hlt)
        omega
      have d0:=Int.natCast_nonneg (i / w_)
      have d3:=Int.natCast_nonneg (i%w_)
      have d2:((i%w_:Nat):Int)<(w_:Int):=by
        have:=Nat.mod_lt i (show w_>0 by omega)
        omega
      refine ⟨_,rfl,f,_,rfl,G,_,rfl,a,z,_,_,rfl,s4 _ _ hA,hD _ _ (SmD.of (s1.trans s4)) hd,hdom _ _ (by omega) (by omega) (by omega) (by omega),fun x5 H5 hx5 s5=>?_⟩
      refine ⟨us,s5 _ _ hD4,ZDM (by omega),h_*w_-(i+1),(by omega),rfl,hlt,us++[x5],ZAE,?_,fun b' o e=>?_⟩
      · rw [List.range_succ,List.map_append]
        have kd:Kp H5 (upd H5 D (.lst (us++[x5]))):=Kp.lst (s5 _ _ hD4) ZAl.upd
        exact ZHN (ZEG.kp (ZEG.kp vs4 (Kp.same s5)) kd) (hx5.kp kd)
      · have nb:b'≠D:=ZAY e hD'
        rw [ZAa nb];exact s5 _ _ (s4 _ _ e)
    · have ei:i=h_*w_:=by omega
      subst ei
      refine .inl ⟨⟨_,SqL.of (s4 _ _ hl1),(by omega)⟩,?_⟩
      have hb4:=hb.same (s1.trans s4)
      refine ⟨_,rfl,b,_,r,c,r2,c2,rfl,hb4.ob,fun p hp=>⟨p,_,_,_,rfl,rfl,SqT.of ZAE,rfl,?_⟩⟩
      have hw1:1≤w_:=by omega
      refine ⟨D,us,w_,h_,(by rw [ew];rfl),ZAM.new hp _ _ hD4,ul,hw1,(by omega),(by omega),fun x H' hx s'=>k x H' ⟨_,hx,?_⟩ ((s1.trans s4).trans ((ZAM.new hp).trans s'))⟩
      rw [← ZKY hw1]
      exact ZEh (ZEG.kp vs4 (Kp.same ((ZAM.new hp).trans s')))
theorem ZHa:ZAS ["leaf","cell","shows"] ["leaf","cell","shows"] (ZAF ZB8):=⟨rfl,rfl,rfl,by decide +kernel,rfl,by decide +kernel,by decide +kernel⟩
theorem ZGp (T:Txt w K mg t){Dp:Hp→Prop}{dom:Str→Int→Int→Prop}{g:Str→Int→Int→Vl}{f:Addr}(G:FV P w K mg base 1 f (ZPT Dp dom g))(hD:∀ H H',SmD H H'→Dp H→Dp H'):ZBS P w K mg base CX0 3 t.f_leaf_table t.d_leaf_table ["leaf","cell","shows"] (ZRJ f Dp dom g):=by
  have D:=T.c_leaf_table
  refine D.fn.ok ZHa (fun vs H Q E h=>?_) (fun cdv A outer s H vs Q E hr h=>?_)
  · rcases h with ⟨v,u,l,z,c,d,rfl,_⟩ | ⟨a,y,z,hm,rfl,_⟩ <;> rfl
  · have hu:=hr.units0
    rcases h with ⟨v,u,l,z,c,d,rfl,hv,lg,hd,k⟩ | ⟨a,y,z,hm,rfl,ha,hy,k⟩
    · cases id hv with
      | @lf a l hl=>
        obtain ⟨w_,q,u_,r,ha,hw,_⟩:=ZMP hl lg.b
        have n1:decide (V.str w_=vS "value")=false:=by rcases hw with rfl | rfl <;> decide +kernel
        have n2:decide (V.str w_=vS "fault")=false:=by rcases hw with rfl | rfl <;> decide +kernel
        refine ⟨_,((ZAD (ZAj (ZAL ZAm (ZAN ZAJ (pv 0) ZAC (fun _ _=>rfl)) ZAI (ZAO _)) (ZAG ZCB) ZAP)
      (ZAD (ZAj (ZAL ZAm (ZAN ZAJ (pv 0) ZAC (fun _ _=>rfl)) ZAI (ZAO _)) (ZAG (ZAK (ZAW T.c_table_of_one (ZCF T) (hr.mono (by decide)) (ZAp (ZAb (ZAH ZAI (ZAR (ZAN ZAJ (pv 0) ZAC (fun _ _=>rfl)) (ZAA (pv 1) ZAB)))) ZAB)))) ZAP)
      (ZAG (ZAK (ZAW T.c_shown_table (ZDu T G hD) (hr.mono (by omega)) (ZAg (ZAW T.c_block_led_to (ZDf T) (hr.mono (by decide)) (ZAA (pv 0) ZAB)) (ZAA (pv 2) ZAB)))))))),?_⟩
        refine ⟨_,rfl,a,_,_,_,rfl,rfl,SqT.of ha,ZAc,rfl,false,congrArg V.bl n1,ZAo ?_⟩
        refine ⟨_,rfl,a,_,_,_,rfl,rfl,SqT.of ha,ZAc,rfl,false,congrArg V.bl n2,ZAo ?_⟩
        refine ⟨_,rfl,.ref a,l,z,c,d,rfl,hv,lg.b,fun p hp=>⟨_,rfl,?_⟩⟩
        refine ⟨p,z,c.r,c.c,d.r,d.c,rfl,⟨ZAE,lg.nm,lg.r0,lg.r1,lg.r16,lg.c0,lg.c1,lg.c8⟩,hD _ _ (SmD.of (ZAM.new hp)) hd,lg.dm,fun x H' hx s=>k x H' ?_ ((ZAM.new hp).trans s)⟩
        unfold lfT
        rw [lg.b]
        exact hx
    · refine ⟨_,((ZAD (ZAj (ZAL ZAm (ZAN ZAJ (pv 0) ZAC (fun _ _=>rfl)) ZAI (ZAO _)) (ZAG ZCB) ZAP)
      (ZAD (ZAj (ZAL ZAm (ZAN ZAJ (pv 0) ZAC (fun _ _=>rfl)) ZAI (ZAO _)) (ZAG (ZAK (ZAW T.c_table_of_one (ZCF T) (hr.mono (by decide)) (ZAp (ZAb (ZAH ZAI (ZAR (ZAN ZAJ (pv 0) ZAC (fun _ _=>rfl)) (ZAA (pv 1) ZAB)))) ZAB)))) ZAP)
      (ZAG (ZAK (ZAW T.c_shown_table (ZDu T G hD) (hr.mono (by omega)) (ZAg (ZAW T.c_block_led_to (ZDf T) (hr.mono (by decide)) (ZAA (pv 0) ZAB)) (ZAA (pv 2) ZAB)))))))),?_⟩
      refine ⟨_,rfl,a,_,_,_,rfl,rfl,SqT.of ha,ZAc,rfl,false,(by decide +kernel),ZAo ?_⟩
      refine ⟨_,rfl,a,_,_,_,rfl,rfl,SqT.of ha,ZAc,rfl,true,(by decide +kernel),ZBR ?_⟩
      refine ⟨_,rfl,a,_,_,_,rfl,rfl,SqT.of ha,ZNK,_,rfl,ZAk,fun p hp=>⟨.ref p,rfl,fun x H2 hx s2=>k x H2 ⟨_,hx,.cons (.cons ((hy.fltS hp).kp (Kp.same s2)) .nil) .nil⟩ ((ZAM.new hp).trans s2)⟩⟩
theorem ZGq:ZAS ["value","outer"] ["value","outer"] (ZAF ZBs):=⟨rfl,rfl,rfl,by decide +kernel,rfl,by decide +kernel,by decide +kernel⟩
theorem ZFw (T:Txt w K mg t){L o:Addr}{fo:Vl→Vl}{St:Hp→List Vl→Prop}(G2:FV P w K mg base 4 o (ZL4 L fo St)):ZBS P w K mg base CX0 5 t.f_outer_value t.d_outer_value ["value","outer"] (ZRI L o fo St):=by
  have D:=T.c_outer_value
  refine D.fn.ok ZGq (fun vs H Q E h=>?_) (fun cdv A outer s H vs Q E hr h=>?_)
  · obtain ⟨u,v,acc,rfl,_⟩:=h
    rfl
  · obtain ⟨u,v,acc,rfl,hv,okv,hst,hbd,k⟩:=h
    refine ⟨_,((ZAG (ZAK (ZCf (ZAL ZAm (ZAN ZAJ (pv 0) ZAC (fun _ _=>rfl)) ZAI (ZAO _)) (pv 0) (ZGQ (k:=4) (pv 1) (hr.mono (by decide)) (ZAA (pv 0) ZAB)))))),?_⟩
    obtain ⟨q,xs,rfl,hq,_⟩:=hv.hd
    unfold ouV at k;unfold ouL at k hbd
    refine ⟨_,rfl,q,_,_,_,rfl,rfl,SqT.of hq,ZAc,rfl,isF v,rfl,ZDJ (fun c=>?_) (fun c=>?_)⟩
    · rw [if_pos c,if_pos c] at k
      exact ⟨_,rfl,k _ _ hv (ZAl.refl _ _) (by rw [List.append_nil];exact hst)⟩
    · rw [if_neg c,if_neg c] at k;rw [if_neg c] at hbd
      exact ⟨_,rfl,o,_,rfl,G2,_,rfl,.ref q,v,acc,rfl,hv,okv,c,hst,hbd,k⟩
theorem ZC9:ZAS ["formula","tables","cell","outer","kind","first"] ["formula","tables","cell","outer"] (ZAF ZBc):=⟨rfl,rfl,rfl,by decide +kernel,rfl,by decide +kernel,by decide +kernel⟩
theorem ZFd (T:Txt w K mg t){L o:Addr}{fo:Vl→Vl}{St:Hp→List Vl→Prop}(G2:FV P w K mg base 4 o (ZL4 L fo St)):ZBS P w K mg base CX0 8 t.f_single_value t.d_single_value ["formula","tables","cell","outer"] (ZRK L o fo St):=by
  have D:=T.c_single_value
  refine D.fn.ok ZC9 (fun vs H Q E h=>?_) (fun cdv A outer s H vs Q E hr h=>?_)
  · obtain ⟨v,y,l,a,x0,r,m,w_,acc,rfl,_⟩:=h
    rfl
  · obtain ⟨v,y,l,a,x0,r,m,w_,acc,rfl,rfl,hl,t0,rm,okm,hst,kk⟩:=h
    refine ⟨_,((ZAD (ZAd (i:=4) ZC9.nd rfl (Or.inl rfl) (ZAN ZAJ (pv 0) ZAC (fun _ _=>rfl)))
      (ZAD (ZAd (i:=5) ZC9.nd rfl (Or.inl rfl) (ZAN ZA3 (pv 1) ZAC (fun _ _=>rfl)))
      (ZAD (ZAj (ZAL ZAm (pv 4) ZAI (ZAO _)) (ZAG (ZAK (ZAW T.c_summed_up (ZHY T) (hr.mono (by decide)) (ZAA (pv 5) (ZAA (pv 2) ZAB))))) ZAP)
      (ZAD (ZAj (ZAL ZAm (pv 4) ZAI (ZAO _)) (ZAG ZCB) ZAP)
      (ZAD (ZAj (ZFj (ZAL ZAm (pv 4) ZAI (ZAO _)) (ZDq (ZAL ZAm (pv 4) ZAI (ZAO _)))).pt (ZAG ZCB) ZAP)
      (ZAD (ZAj (ZAL ZAm (pv 4) ZAI (ZAO _)) (ZAG ZCB) ZAP)
      (ZAD (ZAj (ZAL ZAm (pv 4) ZAI (ZAO _)) (ZAG ZCB) ZAP)
      (ZAG (ZAK (ZAW T.c_outer_value (ZFw T G2) (hr.mono (by omega)) (ZAR (ZAN ZAJ (ZAN ZAJ (pv 5) ZAC (fun _ _=>rfl)) ZAC (fun _ _=>rfl)) (ZAA (pv 3) ZAB))))))))))))),?_⟩
    rcases kk with ⟨ha,hbd,k⟩ | ⟨hm,β,γ,ha,w30,m30,nok,hy,k⟩
    · refine ⟨_,rfl,a,_,_,_,rfl,rfl,SqT.of ha,ZAc,?_⟩
      refine ⟨_,rfl,l,_,_,_,rfl,rfl,SqL.of hl,rfl,?_⟩
      refine ⟨_,rfl,rfl,false,(by decide +kernel),ZAo ?_⟩
      refine ⟨_,rfl,rfl,false,(by decide +kernel),ZAo ?_⟩
      refine ⟨_,rfl,rfl,false,(by decide +kernel),ZAo ?_⟩
      refine ⟨_,rfl,rfl,false,(by decide +kernel),ZAo ?_⟩
      refine ⟨_,rfl,rfl,false,(by decide +kernel),ZAo ?_⟩
      refine ⟨_,rfl,rfl,false,(by decide +kernel),ZAo ?_⟩
      obtain ⟨b0,u0,_,rt0,c0,y0,rfl,e1,e2,v0,rfl⟩:=t0.hd0 rm
      exact ⟨_,rfl,b0,_,_,_,rfl,rfl,SqT.of e1,ZAc,c0,_,_,_,rfl,rfl,SqT.of e2,ZAc,_,rfl,_,hd0 m,acc,rfl,v0,ZO7 rm okm,hst,hbd,k⟩
    · refine ⟨_,rfl,a,_,_,_,rfl,rfl,SqT.of ha,ZAc,?_⟩
      refine ⟨_,rfl,l,_,_,_,rfl,rfl,SqL.of hl,rfl,?_⟩
      refine ⟨_,rfl,rfl,true,(by decide +kernel),ZBR ?_⟩
      exact ⟨_,rfl,_,rfl,x0,y,m,w_,hm,β,γ,rfl,t0,rm,w30,m30,nok,hy,k⟩
theorem ZDU:ZAS ["formula","tables","cell","shows","outer","kind"] ["formula","tables","cell","shows","outer"] (ZAF ZBD):=⟨rfl,rfl,rfl,by decide +kernel,rfl,by decide +kernel,by decide +kernel⟩
theorem ZEc (T:Txt w K mg t){L:Addr}{Dp:Hp→Prop}{St:Hp→List Vl→Prop}{dom:Str→Int→Int→Prop}{g:Str→Int→Int→Vl}{fo:Vl→Vl}{sem:Hm→Fm→List (List Vl)}{lg:Hm→Fm→List Vl}{hm:Hm}{f o:Addr}(G:FV P w K mg base 1 f (ZPT Dp dom g))(G2:FV P w K mg base 4 o (ZL4 L fo St))(hD:ZMd L Dp)(hS:ZIs L St):ZBS P w K mg base CX0 10 t.f_table_by_parts t.d_table_by_parts ["formula","tables","cell","shows","outer"] (ZRH L f o Dp St (sem hm) (lg hm) (ZKt dom g fo sem lg hm) hm):=by
  have D:=T.c_table_by_parts
  refine D.fn.ok ZDU (fun vs H Q E h=>?_) (fun cdv A outer s H vs Q E hr h=>?_)
  · obtain ⟨v,y,fm,l,us,n,acc,rfl,_⟩:=h
    rfl
  · obtain ⟨v,y,fm,l,us,n,acc,rfl,hv,fo_,ok,hd,hst,hbd,hl,tb,hy,k⟩:=h
    refine ⟨_,((ZAD (ZAd (i:=5) ZDU.nd rfl (Or.inl rfl) (ZAN ZAJ (pv 0) ZAC (fun _ _=>rfl)))
      (ZAD (ZAj (ZAL ZAm (ZAU ZAe (by rfl) T.len PySem.boot_len (ZAA (pv 1) ZAB)) ZAC (ZAO _)) (ZAG (ZAK (ZAW T.c_leaf_table (ZGp T G (fun _ _ s h=>hD.smd s h)) (hr.mono (by omega)) (ZAA (pv 0) (ZAA (pv 2) (ZAA (pv 3) ZAB)))))) ZAP)
      (ZAD (ZAj (ZAL ZAm (pv 5) ZAI (ZAO _)) (ZAG (ZAK (ZAW T.c_signed_table (ZDe T) (hr.mono (by decide)) (ZAR (ZAN ZAJ (pv 0) ZAC (fun _ _=>rfl)) (ZAR (ZAN ZA3 (pv 1) ZAC (fun _ _=>rfl)) (ZAR (ZAN ZA3 (pv 1) ZAC (fun _ _=>rfl)) (ZAA (pv 2) ZAB))))))) ZAP)
      (ZAD (ZAj (ZAL ZAm (pv 5) ZAI (ZAO _)) (ZAG (ZAK (ZAW T.c_signed_table (ZDe T) (hr.mono (by decide)) (ZAH ZAI (ZAg (ZAW T.c_table_of_one (ZCF T) (hr.mono (by decide)) (ZAA (ZHv T.v_NOUGHT) ZAB)) (ZAR (ZAN ZA3 (pv 1) ZAC (fun _ _=>rfl)) (ZAA (pv 2) ZAB))))))) ZAP)
      (ZAD (ZAj (ZAL ZAm (pv 5) ZAI (ZAO _)) (ZAG ZCB) ZAP)
      (ZAD (ZAj (ZAL ZAm (pv 5) ZAI (ZAO _)) (ZAG ZCB) ZAP)
      (ZAD (ZAj (ZAL ZAm (pv 5) ZAI (ZAO _)) (ZAG ZCB) ZAP)
      (ZAD (ZAj (ZAL ZAm (pv 5) ZAI (ZAO _)) (ZAG ZCB) ZAP)
      (ZAG (ZAK (ZAW T.c_table_of_one (ZCF T) (hr.mono (by decide)) (ZAg (ZAW T.c_single_value (ZFd T G2) (hr.mono (by omega)) (ZAA (pv 0) (ZAA (pv 1) (ZAA (pv 2) (ZAA (pv 4) ZAB))))) ZAB))))))))))))),?_⟩
    refine ZNP fun X hX=>?_
    rcases ok with ⟨lf,rfl,⟨⟨z_,c_,d_,lg_⟩,_⟩,es,el⟩ | ⟨z_,rfl,es,el⟩ | ⟨s_,fa,fb,rfl,⟨wa,ra,la2,la1,oka⟩,⟨wb,rb,lb2,lb1,okb⟩,ft,es,el⟩ | ⟨fa,rfl,⟨wa,ra,la2,la1,oka⟩,es,el⟩ | ⟨fa,rfl,⟨wa,ra,_,_,oka⟩,es,el⟩ | ⟨fa,β,γ,rfl,⟨wa,ra,la2,la1,oka⟩,nok,es,el⟩
    · obtain ⟨a,rfl,ha⟩:=ZKd hv
      obtain ⟨w_,r,haa,_⟩:=ha.pp
      have tb':Paired (ZD0 H) us []:=tb
      cases tb'
      rw [es,el,List.append_nil] at k
      refine hX ?_
      refine ⟨_,rfl,a,_,_,_,rfl,rfl,SqT.of haa,ZAc,?_⟩
      refine ⟨_,rfl,l,_,rfl,.inl (SqL.of hl),rfl,true,(by simp),ZBR ?_⟩
      exact ⟨_,rfl,_,rfl,_,rfl,.inl ⟨.ref a,y,lf,_,_,_,rfl,hv,lg_,hd,fun x H' hx s'=>k x H' hx (ZAM.keep s') (hS.same s' hst)⟩⟩
    · obtain ⟨a,rfl,ha⟩:=ZKd hv
      have haa:H a=some (.tup [vS "fault",.str z_]):=ha
      have tb':Paired (ZD0 H) us []:=tb
      cases tb'
      rw [es,el,List.append_nil] at k
      refine hX ?_
      refine ⟨_,rfl,a,_,_,_,rfl,rfl,SqT.of haa,ZAc,?_⟩
      refine ⟨_,rfl,l,_,rfl,.inl (SqL.of hl),rfl,true,(by simp),ZBR ?_⟩
      exact ⟨_,rfl,_,rfl,_,rfl,.inr ⟨a,y,z_,hm,rfl,haa,hy,fun x H' hx s'=>k x H' hx (ZAM.keep s') (hS.same s' hst)⟩⟩
    · have tb':Paired (ZD0 H) us [sem hm fa,sem hm fb]:=tb
      cases tb' with
      | @cons x0 _ _ _ t0 tb'=>
        cases tb' with
        | @cons x1 _ _ _ t1 tb'=>
          cases tb'
          cases hv with
          | @nd a t _ us _ ha ht hl' hh=>
            have ha':H a=some (.tup (vS "op"::.str s_::us)):=ha
            obtain ⟨m0,r0,v0⟩:=t0
            obtain ⟨m1,r1,v1⟩:=t1
            rw [es,el,List.append_nil] at k
            refine hX ?_
            refine ⟨_,rfl,a,_,_,_,rfl,rfl,SqT.of ha',ZAc,?_⟩
            refine ⟨_,rfl,l,_,rfl,.inl (SqL.of hl),rfl,false,(by simp),ZAo ?_⟩
            refine ⟨_,rfl,rfl,true,(by decide +kernel),ZBR ?_⟩
            refine ⟨_,rfl,a,_,_,_,rfl,rfl,SqT.of ha',ZNK,_,rfl,l,_,_,_,rfl,rfl,SqL.of hl,rfl,_,rfl,l,_,_,_,rfl,rfl,SqL.of hl,rfl,_,rfl,?_⟩
            exact ZSN (E:=E0) r0 r1 (ZDO v0 ra) (ZDO v1 rb) (Paired.length v0) (Paired.length v1) ra.wd rb.wd ft la1 lb1 la2 lb2 hy (fun j k=>.inl ⟨_,_,ZFT v0 ra j k,ZFT v1 rb j k,ZNX ra oka j k,ZNX rb okb j k,rfl⟩) fun x H' hx s'=>k x H' hx (ZAM.keep s') (hS.same s' hst)
    · have tb':Paired (ZD0 H) us [sem hm fa]:=tb
      cases tb' with
      | @cons x0 _ _ _ t0 tb'=>
        cases tb'
        cases hv with
        | @nd a t _ us _ ha ht hl' hh=>
          have ha':H a=some (.tup (vS "neg"::us)):=ha
          obtain ⟨m0,r0,v0⟩:=t0
          rw [es,el,List.append_nil] at k
          refine hX ?_
          refine ⟨_,rfl,a,_,_,_,rfl,rfl,SqT.of ha',ZAc,?_⟩
          refine ⟨_,rfl,l,_,rfl,.inl (SqL.of hl),rfl,false,(by simp),ZAo ?_⟩
          refine ⟨_,rfl,rfl,false,(by decide +kernel),ZAo ?_⟩
          refine ⟨_,rfl,rfl,true,(by decide +kernel),ZBR ?_⟩
          refine fun qn hqn=>⟨.ref qn,rfl,fun xn H1 hxn s1=>⟨_,rfl,l,_,_,_,rfl,rfl,SqL.of (s1 _ _ hl),rfl,_,rfl,?_⟩⟩
          have v0':ZJR H1 m0 (sem hm fa):=ZJR.kp v0 (Kp.same s1)
          exact ZSN (E:=E0) (m:=[[.num 0 1]]) hxn (r0.kp (Kp.same s1)) (ZRA _) (ZDO v0' ra) rfl (Paired.length v0') rfl ra.wd (.inr (.inr ⟨rfl,rfl⟩)) (by decide) la1 (by decide) la2 (hy.kp (Kp.same s1)) (fun j k=>.inr ⟨rfl,⟨qn,ZIm j k,hqn⟩,_,ZFT v0' ra j k,ZNX ra oka j k,by rw [ZIm]⟩) fun w H' hw s'=>k w H' hw (ZAM.keep (s1.trans s')) (hS.same (s1.trans s') hst)
    · have tb':Paired (ZD0 H) us [sem hm fa]:=tb
      cases tb' with
      | @cons x0 _ _ _ t0 tb'=>
        cases tb'
        cases hv with
        | @nd a t _ us _ ha ht hl' hh=>
          have ha':H a=some (.tup (vS "outer"::us)):=ha
          rw [es,el] at k
          rw [el] at hbd
          refine hX ?_
          refine ⟨_,rfl,a,_,_,_,rfl,rfl,SqT.of ha',ZAc,?_⟩
          refine ⟨_,rfl,l,_,rfl,.inl (SqL.of hl),rfl,false,(by simp),ZAo ?_⟩
          refine ⟨_,rfl,rfl,false,(by decide +kernel),ZAo ?_⟩
          refine ⟨_,rfl,rfl,false,(by decide +kernel),ZAo ?_⟩
          refine ⟨_,rfl,rfl,false,(by decide +kernel),ZAo ?_⟩
          refine ⟨_,rfl,rfl,false,(by decide +kernel),ZAo ?_⟩
          refine ⟨_,rfl,rfl,false,(by decide +kernel),ZAo ?_⟩
          refine ⟨_,rfl,rfl,false,(by decide +kernel),ZAo ?_⟩
          refine ⟨_,rfl,_,rfl,_,rfl,_,rfl,.ref a,y,l,a,x0,us,_,_,acc,rfl,rfl,hl,t0,ra,oka,hst,.inl ⟨ha',hbd,fun z H1 hz k1 st1=>?_⟩⟩
          refine ⟨z,rfl,fun x H2 hx s2=>k x H2 ⟨_,hx,.cons (.cons (hz.kp (Kp.same s2)) .nil) .nil⟩ (k1.trans (ZAM.keep s2)) (hS.same s2 st1)⟩
    · have tb':Paired (ZD0 H) us [sem hm fa]:=tb
      cases tb' with
      | @cons x0 _ _ _ t0 tb'=>
        cases tb'
        cases hv with
        | @nd a t _ us _ ha ht hl' hh=>
          have ha':H a=some (.tup (vS "sum"::us)):=ha
          rw [es,el,List.append_nil] at k
          refine hX ?_
          refine ⟨_,rfl,a,_,_,_,rfl,rfl,SqT.of ha',ZAc,?_⟩
          refine ⟨_,rfl,l,_,rfl,.inl (SqL.of hl),rfl,false,(by simp),ZAo ?_⟩
          refine ⟨_,rfl,rfl,false,(by decide +kernel),ZAo ?_⟩
          refine ⟨_,rfl,rfl,false,(by decide +kernel),ZAo ?_⟩
          refine ⟨_,rfl,rfl,false,(by decide +kernel),ZAo ?_⟩
          refine ⟨_,rfl,rfl,false,(by decide +kernel),ZAo ?_⟩
          refine ⟨_,rfl,rfl,false,(by decide +kernel),ZAo ?_⟩
          refine ⟨_,rfl,rfl,false,(by decide +kernel),ZAo ?_⟩
          refine ⟨_,rfl,_,rfl,_,rfl,_,rfl,.ref a,y,l,a,x0,us,_,_,acc,rfl,rfl,hl,t0,ra,oka,hst,.inr ⟨hm,β,γ,ha',la2,la1,nok,hy,fun z H1 hz s1=>?_⟩⟩
          refine ⟨z,rfl,fun x H2 hx s2=>k x H2 ⟨_,hx,.cons (.cons (hz.kp (Kp.same s2)) .nil) .nil⟩ (ZAM.keep (s1.trans s2)) (hS.same (s1.trans s2) hst)⟩
theorem ZJO:ZAS ["opened","cell","shows","outer"] ["opened","cell","shows","outer"] (ZAF ZCq):=⟨rfl,rfl,rfl,by decide +kernel,rfl,by decide +kernel,by decide +kernel⟩
theorem ZID (T:Txt w K mg t){L:Addr}{Dp:Hp→Prop}{St:Hp→List Vl→Prop}{dom:Str→Int→Int→Prop}{g:Str→Int→Int→Vl}{fo:Vl→Vl}{sem:Hm→Fm→List (List Vl)}{lg:Hm→Fm→List Vl}{f o:Addr}(G:FV P w K mg base 1 f (ZPT Dp dom g))(G2:FV P w K mg base 4 o (ZL4 L fo St))(hD:ZMd L Dp)(hS:ZIs L St)(hC:PySem.W.CodeHd base t.c_reckoned t.P_reckoned)(hB:BM mg base):ZBS P w K mg base CX0 13 t.f_reckoned t.d_reckoned ["opened","cell","shows","outer"] (ZMe t.P_reckoned L f o Dp St sem lg (ZKt dom g fo sem lg)):=by
  have D:=T.c_reckoned
  refine D.fn.okC ZJO (fun vs H Q E h=>?_) (fun cdv A outer s H vs Q E hcd hr h=>?_)
  · obtain ⟨v,y,fm,n,hm,acc,rfl,_⟩:=h
    rfl
  · obtain ⟨v,y,fm,n,hm,acc,rfl,hv,fo_,h8,okA,hd,hst,hbd,hy,ht,k⟩:=h
    refine ⟨_,((ZAG (ZAK (ZIa (k:=12) (hr.mono (by decide)) (by rfl) T.c_told_by_parts.gl T.c_told_by_parts.fn.kp T.c_told_by_parts.b (ZAg (ZAW T.c_all_parts (ZHZ T) (hr.mono (by decide)) (ZAA (pv 0) ZAB)) (ZGP (ZJ8 (clos:=[("shows",s.heap.objs.size+2),("outer",s.heap.objs.size+3),("cell",s.heap.objs.size+1)]) rfl (by with_unfolding_all rfl) (hcd.symm.trans T.kc_reckoned) hC hB) ZAB)))))),?_⟩
    refine ⟨_,rfl,v,fm,0,n,rfl,hv,fo_,h8,fun l ws H1 hl0 hl fms s1=>?_⟩
    refine ⟨ht.sm s1,fun lf H2 nf keep tab lam=>?_⟩
    obtain ⟨ps,hP,_⟩:=ht.sm s1
    have d2:SmD H1 H2:=SmD.tab hP keep
    have d02:SmD H H2:=(SmD.of s1).trans d2
    have dd:SmD H (L2.del qR H2):=d02.trans (SmD.del qR H2)
    obtain ⟨c',ctv,hlf,hcd'⟩:=lam
    obtain ⟨uL,eL⟩:=hS.ob _ _ (hS.smd d02 hst)
    refine ⟨qR,ZKs L lf ZD0 (sem hm) (lg hm) (ZKt dom g fo sem lg hm) (fun H=>Dp H∧ZEH H y hm) St,fun base' W=>?_,?_⟩
    · refine ZEs T (fun H H' v b s x=>x.kp s) (fun H H' s kp x=>⟨hD _ _ s kp x.1,x.2.kp kp⟩) hS ?_
      refine W.lam (k:=10) (ps:=["formula","tables"]) (fv:=["cell","shows","outer"]) (js:=[1,2,3]) hlf hcd' ⟨rfl,rfl,rfl,by decide +kernel,(List.forall_mem_cons.mpr ⟨rfl,(List.forall_mem_cons.mpr ⟨rfl,(List.forall_mem_nil _)⟩)⟩),by decide +kernel,by decide +kernel,(List.forall_mem_cons.mpr ⟨⟨rfl,rfl,rfl⟩,(List.forall_mem_cons.mpr ⟨⟨rfl,rfl,rfl⟩,(List.forall_mem_cons.mpr ⟨⟨rfl,rfl,rfl⟩,(List.forall_mem_nil _)⟩)⟩)⟩),(List.forall_mem_cons.mpr ⟨rfl,(List.forall_mem_cons.mpr ⟨rfl,(List.forall_mem_cons.mpr ⟨rfl,(List.forall_mem_nil _)⟩)⟩)⟩),(.cons rfl (.cons rfl (.cons rfl .nil)))⟩ (fun us hl=>by obtain ⟨_,_,rfl⟩:=ZB9 hl;rfl) (fun vs H Q E h=>?_) (fun A outer s H vs Q E hr h=>?_)
      · obtain ⟨_,_,_,_,_,_,rfl,_⟩:=h
        rfl
      · obtain ⟨v',f',l',us',n',acc',rfl,hv',fo',ok',⟨hd',hy'⟩,st',hbd',hl',tb',k'⟩:=h
        refine ⟨_,(ZAW T.c_table_by_parts (ZEc (hm:=hm) (sem:=sem) (lg:=lg) T (W.fv G) (W.fv G2) hD hS) (hr.mono (by omega)) (ZAA (pv 0) (ZAA (pv 1) (ZAA (pv 2) (ZAA (pv 3) (ZAA (pv 4) ZAB)))))),?_⟩
        exact ⟨_,rfl,_,rfl,_,rfl,_,rfl,_,rfl,v',y,f',l',us',n',acc',rfl,hv',fo',ok',hd',st',hbd',hl',tb',hy',k'⟩
    · have d3:=d2.trans (SmD.del qR H2)
      have nl:l≠L:=hS.ne hst hl0
      refine ⟨l,fm,ws,n,acc,rfl,d3 _ _ hl rfl,nl,ZCi.kp fms d3.kp,fo_,h8,okA,⟨hD.smd dd hd,hy.kp dd.kp⟩,hS.smd dd hst,hbd,fun x H3 hx k3 st3 hn=>?_⟩
      have kx:ZAl L H2 (L2.put qR H2 H3):=ZLy k3
      refine k x _ (hx.kp (Kp.back hn)) (fun b o' hb hb' e=>kx b o' hb' (keep b o' hb (s1 _ _ e))) (ZD3 tab (SmF.kx eL kx)) (hS.st _ _ _ (fun o' e=>?_) (Kp.back hn) st3)
      rw [ZCJ (by rw [eL];exact ZKX rfl)]
      exact e
theorem ZEt:ZAS ["_law_one","_law_home"] ["_law_one","_law_home"] (ZAF ZBE):=⟨rfl,rfl,rfl,by decide +kernel,rfl,by decide +kernel,by decide +kernel⟩
theorem ZBw (T:Txt w K mg t):ZBS P w K mg base CX0 1 t.f__law_in_bounds t.d__law_in_bounds ["_law_one","_law_home"] ZNQ:=by
  have D:=T.c__law_in_bounds
  refine D.fn.ok ZEt (fun vs H Q E h=>?_) (fun cdv A outer s H vs Q E hr h=>?_)
  · obtain ⟨q,t_,b,y,hm,rfl,_⟩:=h
    rfl
  · obtain ⟨q,t_,b,y,hm,rfl,hq,low,hy,k⟩:=h
    refine ⟨_,((ZAD (ZAj (ZFj (ZAL ZMo (ZAU ZDg (by rfl) T.abs ZDj (ZAR (ZAN ZAJ (pv 0) ZAC (fun _ _=>rfl)) ZAB)) (ZAZ ZFD ZAC ZAC) (ZAO _)) (ZDq (ZAL ZMo (ZAN ZAJ (pv 0) ZAC (fun _ _=>rfl)) (ZAZ ZFD ZAC ZAC) (ZAO _)))).pt (ZAG (ZAK (ZAb (ZAH ZAI (ZAH ZAI (ZAA (pv 1) ZAB)))))) ZAP)
      (ZAG (ZAK (pv 0))))),?_⟩
    have hb:=low.pos
    refine ⟨_,rfl,q,_,_,_,rfl,rfl,SqT.of hq,rfl,t_,rfl,_,_,rfl,rfl,⟨by decide,by decide,by decide⟩,_,_,rfl,rfl,_,rfl,?_⟩
    rw [p30,ZKh]
    unfold ZIl at k
    cases e1:few t_ with
    | false=>
      rw [e1] at k
      exact ZBR (ZBR ⟨_,rfl,ZAk,fun r hr'=>k _ _ (hy.flt hr') (ZAM.new hr')⟩)
    | true=>
      rw [e1] at k
      refine ZAo ⟨_,rfl,q,_,_,_,rfl,rfl,SqT.of hq,rfl,_,_,rfl,rfl,⟨by decide,by decide,by decide⟩,_,_,rfl,rfl,_,rfl,?_⟩
      rw [p30,ZNR hb]
      cases e2:few b with
      | false=>
        rw [e2] at k
        exact ZBR ⟨_,rfl,ZAk,fun r hr'=>k _ _ (hy.flt hr') (ZAM.new hr')⟩
      | true=>
        rw [e2] at k
        exact ZAo ⟨_,rfl,k _ _ ⟨q,rfl,hq⟩ (ZAM.refl _)⟩
theorem ZEO:ZAS ["_law_one"] ["_law_one"] (ZAF ZAx):=⟨rfl,rfl,rfl,by decide +kernel,rfl,by decide +kernel,by decide +kernel⟩
theorem ZCv (T:Txt w K mg t):ZBS P w K mg base CX0 1 t.f__law_plain_signs t.d__law_plain_signs ["_law_one"] ZQ5:=by
  have D:=T.c__law_plain_signs
  refine D.fn.ok ZEO (fun vs H Q E h=>?_) (fun cdv A outer s H vs Q E hr h=>?_)
  · obtain ⟨u,v,rfl,_⟩:=h
    rfl
  · obtain ⟨u,v,rfl,⟨p,rfl,hv⟩,ok,nf,k⟩:=h
    refine ⟨_,((ZAD (ZAj (ZAL ZAm (ZAN ZAJ (pv 0) ZAC (fun _ _=>rfl)) ZAI (ZAO _)) (ZAG (ZAK (ZAN ZAJ (pv 0) ZAC (fun _ _=>rfl)))) ZAP)
      (ZAD (ZAj (ZAL ZAm (ZAN ZAJ (pv 0) ZAC (fun _ _=>rfl)) ZAI (ZAO _)) (ZAG (ZAK (ZAN ZA3 (ZBh (ZAH ZAI (ZAH ZAI ZAB))) (ZBy ZEA (by rfl) T.int ZCh (ZAR (ZAN ZAJ (pv 0) ZAC (fun _ _=>rfl)) ZAB)) (fun _ _=>rfl)))) ZAP)
      (ZAD (ZAj (ZAL ZAm (ZAN ZAJ (pv 0) ZAC (fun _ _=>rfl)) ZAI (ZAO _)) (ZAG (ZAK ZAI)) ZAP)
      (ZAD (ZAj (ZAL ZAm (ZAN ZAJ (pv 0) ZAC (fun _ _=>rfl)) ZAC (ZAO _)) (ZAG (ZAK (ZBy ZDX (by rfl) T.str ZDk (ZAR (ZAN ZAJ (pv 0) ZAC (fun _ _=>rfl)) ZAB)))) ZAP)
      (ZAG (ZAK (ZAZ ZB3 (ZAZ ZB3 (ZBy ZDX (by rfl) T.str ZDk (ZAR (ZAN ZAJ (pv 0) ZAC (fun _ _=>rfl)) ZAB)) ZAI) (ZBy ZDX (by rfl) T.str ZDk (ZAR (ZAN ZAJ (pv 0) ZAC (fun _ _=>rfl)) ZAB)))))))))),?_⟩
    cases v with
    | txt z=>
      have hp:H p=some (.tup [vS "text",.str z]):=hv
      refine ⟨_,rfl,p,_,_,_,rfl,rfl,SqT.of hp,rfl,rfl,true,(by decide +kernel),ZBR ?_⟩
      exact ⟨_,rfl,p,_,_,_,rfl,rfl,SqT.of hp,rfl,k _ (ZAM.refl _)⟩
    | tru b=>
      have hp:H p=some (.tup [vS "truth",.bl b]):=hv
      refine ⟨_,rfl,p,_,_,_,rfl,rfl,SqT.of hp,rfl,rfl,false,(by decide +kernel),ZAo ?_⟩
      refine ⟨_,rfl,p,_,_,_,rfl,rfl,SqT.of hp,rfl,rfl,true,(by decide +kernel),ZBR ?_⟩
      refine ⟨ZAn,fun l hl=>?_⟩
      have s1:=ZAM.new (o:=.lst [vS "no",vS "yes"]) hl
      have e1:upd H l (.lst [vS "no",vS "yes"]) l=some (.lst [vS "no",vS "yes"]):=ZAE
      generalize upd H l (.lst [vS "no",vS "yes"])=H1 at *
      have hp1:=s1 _ _ hp
      cases b with
      | true=>exact ⟨_,rfl,p,_,_,_,rfl,rfl,SqT.of hp1,rfl,.inr ⟨true,rfl,l,_,_,_,rfl,rfl,SqL.of e1,rfl,k _ s1⟩⟩
      | false=>exact ⟨_,rfl,p,_,_,_,rfl,rfl,SqT.of hp1,rfl,.inr ⟨false,rfl,l,_,_,_,rfl,rfl,SqL.of e1,rfl,k _ s1⟩⟩
    | none=>
      have hp:H p=some (.tup [vS "none"]):=hv
      refine ⟨_,rfl,p,_,_,_,rfl,rfl,SqT.of hp,rfl,rfl,false,(by decide +kernel),ZAo ?_⟩
      refine ⟨_,rfl,p,_,_,_,rfl,rfl,SqT.of hp,rfl,rfl,false,(by decide +kernel),ZAo ?_⟩
      refine ⟨_,rfl,p,_,_,_,rfl,rfl,SqT.of hp,rfl,rfl,true,(by decide +kernel),ZBR ?_⟩
      exact k _ (ZAM.refl _)
    | num t_ b=>
      have hp:H p=some (.tup [vS "number",.int t_,.int b]):=hv
      refine ⟨_,rfl,p,_,_,_,rfl,rfl,SqT.of hp,rfl,rfl,false,(by decide +kernel),ZAo ?_⟩
      refine ⟨_,rfl,p,_,_,_,rfl,rfl,SqT.of hp,rfl,rfl,false,(by decide +kernel),ZAo ?_⟩
      refine ⟨_,rfl,p,_,_,_,rfl,rfl,SqT.of hp,rfl,rfl,false,(by decide +kernel),ZAo ?_⟩
      have l1:t_.natAbs.log2<1920:=ZLj ok.2.1
      have l2:b.natAbs.log2<1920:=ZLj ok.2.2
      have n1:=ZDl ok.2.1
      have n2:=ZDl ok.2.2
      refine ⟨_,rfl,p,_,_,_,rfl,rfl,SqT.of hp,rfl,rfl,_,rfl,ZDJ (fun c=>?_) (fun c=>?_)⟩
      · have e:b=1:=by simpa using c
        refine ⟨_,rfl,p,_,_,_,rfl,rfl,SqT.of hp,rfl,t_,rfl,l1,?_⟩
        have e2:sgn (.num t_ b)=num t_:=if_pos e
        rw [e2] at k
        exact k _ (ZAM.refl _)
      · have e:¬ b=1:=by simpa using c
        have e2:sgn (.num t_ b)=num t_++Str.ofString "/"++num b:=if_neg e
        rw [e2] at k
        have es:(Str.ofString "/").length=1:=by rw [ZKT];rfl
        refine ⟨_,rfl,p,_,_,_,rfl,rfl,SqT.of hp,rfl,t_,rfl,l1,_,_,rfl,rfl,ZC0 (by show (num t_).length+_≤1000;rw [es];omega),_,rfl,p,_,_,_,rfl,rfl,SqT.of hp,rfl,b,rfl,l2,_,_,rfl,rfl,ZC0 (by show (num t_++Str.ofString "/").length+(num b).length≤1000;rw [ZAs,es];omega),k _ (ZAM.refl _)⟩
    | flt w' z r c=>exact absurd nf (by show ¬ decide (V.str (Str.ofString "fault")=vS "fault")=false;decide +kernel)
theorem ZCj:ZAS ["_law_top","_law_bottom","_law_one","_law_other"] ["_law_top","_law_bottom"] (ZAF ZBt):=⟨rfl,rfl,rfl,by decide +kernel,rfl,by decide +kernel,by decide +kernel⟩
theorem ZA4 (T:Txt w K mg t):ZBS P w K mg base CX0 1 t.f__law_lowest t.d__law_lowest ["_law_top","_law_bottom"] ZQk:=by
  have D:=T.c__law_lowest
  refine D.fn.ok ZCj (fun vs H Q E h=>?_) (fun cdv A outer s H vs Q E hr h=>?_)
  · obtain ⟨t_,b,rfl,_⟩:=h
    rfl
  · obtain ⟨t_,b,rfl,hb1,hz,k⟩:=h
    refine ⟨_,((ZAD (ZAd (i:=2) ZCj.nd rfl (Or.inl rfl) (ZAU ZDg (by rfl) T.abs ZDj (ZAA (pv 0) ZAB)))
      (ZAD (ZAd (i:=3) ZCj.nd rfl (Or.inl rfl) (pv 1))
      (ZAD (ZGB PassesOwn.never (ZAL ZIx (pv 3) ZAC (ZAO _)) (ZAG (ZN1 (i:=2) (j:=3) rfl ZCj.nd rfl rfl (by decide) rfl rfl (ZAA (pv 3) (ZAX (ZAZ ZDD (pv 2) (pv 3)) ZAB)) rfl)))
      (ZAG (ZAK (ZAb (ZAH ZAI (ZAX (ZAZ ZED (pv 0) (pv 2)) (ZAX (ZAZ ZED (pv 1) (pv 2)) ZAB)))))))))),?_⟩
    have hb:b≠0:=by omega
    refine ⟨_,rfl,t_,rfl,?_⟩
    refine ⟨_,rfl,?_⟩
    refine ZIL (fun σ H'=>H'=H∧∃ (m n:Nat),σ=[some (.int t_),some (.int b),some (.int m),some (.int n)]∧Nat.gcd m n=Nat.gcd t_.natAbs b.natAbs)
      (fun σ _=>ZOd σ) ⟨rfl,t_.natAbs,b.natAbs,by rw [← ZIh t_,show ((b.natAbs:Nat):Int)=b by omega];rfl,rfl⟩ ?_ (fun σ H Q Q' hq ⟨v,e,i,j,z1,z2,c,e2,q⟩=>⟨v,e,i,j,z1,z2,c,e2,hq _ _ q⟩)
    rintro σ H' ⟨rfl,m,n,rfl,hg⟩
    refine ⟨_,rfl,_,_,rfl,rfl,_,rfl,?_⟩
    refine ZDJ (fun hc=>?_) (fun hc=>?_)
    · have hn:(0:Int)<(n:Int):=by simpa using hc
      refine ⟨_,rfl,_,rfl,_,rfl,_,_,rfl,rfl,hn,_,_,rfl,?_⟩
      refine ⟨⟨rfl,n,m%n,?_,by rw [ZIg];exact hg⟩,?_⟩
      · rw [Int.natCast_emod];rfl
      · show ((m:Int)%(n:Int)).toNat<((n:Int)).toNat
        have h1:=Int.emod_lt_of_pos (m:Int) hn
        have h2:=Int.emod_nonneg (m:Int) (show (n:Int)≠0 by omega)
        omega
    · have hn':¬ (0:Int)<(n:Int):=by simpa using hc
      have hn:n=0:=by omega
      subst hn
      rw [Nat.gcd_zero_right] at hg
      subst hg
      have h0:=ZJC (t:=t_) hb
      have h1:=ZOe (t:=t_) hb hz
      unfold ZDA ZCz at k
      have e:dv t_ b=((Nat.gcd t_.natAbs b.natAbs:Nat):Int):=if_neg (by omega)
      rw [e] at k h0 h1
      exact ⟨_,rfl,_,rfl,_,_,rfl,rfl,⟨h0,h1⟩,_,rfl,_,rfl,_,_,rfl,rfl,⟨h0,h1⟩,ZAk,k⟩
theorem ZAt:ZAS ["_law_sign","_law_a","_law_b","_law_home","_law_pairs","_law_one","_law_x","_law_y","_law_turn"] ["_law_sign","_law_a","_law_b","_law_home"] (ZAF ZA7):=⟨rfl,rfl,rfl,by decide +kernel,rfl,by decide +kernel,by decide +kernel⟩
theorem ZEP (T:Txt w K mg t):ZBS P w K mg base CX0 3 t.f__law_of_numbers t.d__law_of_numbers ["_law_sign","_law_a","_law_b","_law_home"] ZQ6:=by
  have D:=T.c__law_of_numbers
  refine D.fn.ok ZAt (fun vs H Q E h=>?_) (fun cdv A outer s H vs Q E hr h=>?_)
  · obtain ⟨sg,u,v,y,a,b,hm,rfl,_⟩:=h
    rfl
  · obtain ⟨sg,u,v,y,a,b,hm,rfl,hsg,ha,hb,oa,ob,hy,k⟩:=h
    refine ⟨_,((ZAD (ZAd (i:=4) ZAt.nd rfl (Or.inl rfl) (ZBh ZAB))
      (ZAD (ZC1 PassesOwn.never rfl (ZGy (ZAb (ZAA (pv 1) (ZAA (pv 2) ZAB)))) (ZA2 (i:=5) ZAt.nd rfl (Or.inl rfl))
      (ZAD (ZAj (ZAL ZAm (ZAN ZAJ (pv 5) ZAC (fun _ _=>rfl)) ZAI (ZAO _)) (ZAG (ZAd (i:=5) ZAt.nd rfl (Or.inl rfl) (ZAb (ZAH ZAI (ZAH ZAC (ZAH ZAC ZAB)))))) ZAP)
      (ZAD (ZAj (ZAL ZHk (ZAN ZAJ (pv 5) ZAC (fun _ _=>rfl)) ZAI (ZAO _)) (ZAG (ZAK (ZAb (ZAH ZAI (ZAH ZAI (ZAA (pv 3) ZAB)))))) ZAP)
      (ZAG (ZCa (ZEn PySem.F.plainAttrs_list PySem.F.slot_list_append PySem.F.type_list_append ZBK (pv 4) (ZAR (ZEB ZN9 (pv 5) (ZEV ZAC) ZGE) ZAB)))))))
      (ZAD (ZIJ (pv 4) (ZOD rfl (ZB0 (ZA2 (i:=6) ZAt.nd rfl (Or.inl rfl)) (ZB0 (ZA2 (i:=7) ZAt.nd rfl (Or.inl rfl)) ZER))))
      (ZAD (ZAj (ZAL ZAm (pv 0) ZAI (ZAO _)) (ZAG (ZAK (ZAb (ZAH ZAI (ZCg (ZBB ZGC (ZAZ ZAq (ZAN ZAJ (pv 6) ZAC (fun _ _=>rfl)) (ZAN ZAJ (pv 7) ZAC (fun _ _=>rfl))) (ZAZ ZAq (ZAN ZAJ (pv 7) ZAC (fun _ _=>rfl)) (ZAN ZAJ (pv 6) ZAC (fun _ _=>rfl))) (ZAO _)) ZAB))))) ZAP)
      (ZAD (ZAj (ZAL ZAm (pv 0) ZAI (ZAO _)) (ZAG (ZAK (ZAW T.c__law_in_bounds (ZBw T) (hr.mono (by decide)) (ZAg (ZAW T.c__law_lowest (ZA4 T) (hr.mono (by decide)) (ZAX (ZAZ ZA9 (ZAZ ZAq (ZAN ZAJ (pv 6) ZAC (fun _ _=>rfl)) (ZAN ZAJ (pv 7) ZAC (fun _ _=>rfl))) (ZAZ ZAq (ZAN ZAJ (pv 7) ZAC (fun _ _=>rfl)) (ZAN ZAJ (pv 6) ZAC (fun _ _=>rfl)))) (ZAX (ZAZ ZAq (ZAN ZAJ (pv 6) ZAC (fun _ _=>rfl)) (ZAN ZAJ (pv 7) ZAC (fun _ _=>rfl))) ZAB))) (ZAA (pv 3) ZAB))))) ZAP)
      (ZAD (ZAj (ZAL ZAm (pv 0) ZAI (ZAO _)) (ZAG (ZAK (ZAW T.c__law_in_bounds (ZBw T) (hr.mono (by decide)) (ZAg (ZAW T.c__law_lowest (ZA4 T) (hr.mono (by decide)) (ZAX (ZAZ ZDC (ZAZ ZAq (ZAN ZAJ (pv 6) ZAC (fun _ _=>rfl)) (ZAN ZAJ (pv 7) ZAC (fun _ _=>rfl))) (ZAZ ZAq (ZAN ZAJ (pv 7) ZAC (fun _ _=>rfl)) (ZAN ZAJ (pv 6) ZAC (fun _ _=>rfl)))) (ZAX (ZAZ ZAq (ZAN ZAJ (pv 6) ZAC (fun _ _=>rfl)) (ZAN ZAJ (pv 7) ZAC (fun _ _=>rfl))) ZAB))) (ZAA (pv 3) ZAB))))) ZAP)
      (ZAD (ZAj (ZAL ZAm (pv 0) ZAI (ZAO _)) (ZAG (ZAK (ZAW T.c__law_in_bounds (ZBw T) (hr.mono (by decide)) (ZAg (ZAW T.c__law_lowest (ZA4 T) (hr.mono (by decide)) (ZAX (ZAZ ZAq (ZAN ZAJ (pv 6) ZAC (fun _ _=>rfl)) (ZAN ZAJ (pv 7) ZAC (fun _ _=>rfl))) (ZAX (ZAZ ZAq (ZAN ZAJ (pv 6) ZAC (fun _ _=>rfl)) (ZAN ZAJ (pv 7) ZAC (fun _ _=>rfl))) ZAB))) (ZAA (pv 3) ZAB))))) ZAP)
      (ZAD (ZAj (ZAL ZAm (ZAN ZAJ (pv 7) ZAC (fun _ _=>rfl)) ZAC (ZAO _)) (ZAG (ZAK (ZAb (ZAH ZAI (ZAH ZAI (ZAA (pv 3) ZAB)))))) ZAP)
      (ZAD (ZAd (i:=8) ZAt.nd rfl (Or.inl rfl) (ZAN ZA3 (ZBh (ZAH ZAC (ZGJ (ZLD ZIM ZAC) ZAB))) (ZBy ZEA (by rfl) T.int ZCh (ZCg (ZBB ZGC (ZAN ZAJ (pv 7) ZAC (fun _ _=>rfl)) ZAC (ZAO _)) ZAB)) (fun _ _=>rfl)))
      (ZAG (ZAK (ZAW T.c__law_in_bounds (ZBw T) (hr.mono (by decide)) (ZAg (ZAW T.c__law_lowest (ZA4 T) (hr.mono (by decide)) (ZAX (ZAZ ZAq (ZAZ ZAq (pv 8) (ZAN ZAJ (pv 6) ZAC (fun _ _=>rfl))) (ZAN ZAJ (pv 7) ZAC (fun _ _=>rfl))) (ZAX (ZAZ ZAq (ZAZ ZAq (pv 8) (ZAN ZAJ (pv 6) ZAC (fun _ _=>rfl))) (ZAN ZAJ (pv 7) ZAC (fun _ _=>rfl))) ZAB))) (ZAA (pv 3) ZAB))))))))))))))),?_⟩
    refine ⟨Nat.zero_le _,fun lp hlp=>?_⟩
    have s0:=ZAM.new (o:=.lst []) hlp
    have e0:upd H lp (.lst []) lp=some (.lst []):=ZAE
    generalize upd H lp (.lst [])=H0 at *
    dsimp only [ZE8]
    refine ZHO fun N hN=>?_
    refine ⟨_,rfl,_,rfl,ZAn,fun q hq=>?_⟩
    have s1:=ZAM.new (o:=.tup [u,v]) hq
    have hq1:upd H0 q (.tup [u,v]) q=some (.tup [u,v]):=ZAE
    have e1:=s1 _ _ e0
    generalize upd H0 q (.tup [u,v])=H1 at *
    have s01:=s0.trans s1
    refine ⟨q,rfl,⟨_,SqT.of hq1⟩,?_⟩
    have ab:∀ (i:Nat) (x:V),[u,v][i]?=some x→∃ w,[a,b][i]?=some w∧ZBT H x w∧ZBi w∧(ZCc w=none→ZD2 sg a b hm=ZLA "kind" hm):=fun i x hx=>by
      have hi:i<2:=(List.getElem?_eq_some_iff.mp hx).1
      have hc:i=0∨i=1:=by omega
      rcases hc with rfl | rfl
      · cases hx;exact ⟨a,rfl,ha,oa,fun e=>by unfold ZD2;rw [e]⟩
      · cases hx;exact ⟨b,rfl,hb,ob,fun e=>by unfold ZD2;rw [e];cases ZCc a <;> rfl⟩
    refine ZFB (xs:=[u,v]) (fun i σ H5=>∃ x5 us ns,σ=[some (.str sg),some u,some v,some y,some (.ref lp),x5,none,none,none]∧H5 lp=some (.lst us)∧us.length=i∧ZFm H5 us ns∧([a,b].take i).map ZCc=ns.map some∧ZAM H H5∧H5 q=some (.tup [u,v])) ⟨none,[],[],rfl,e1,rfl,.nil,rfl,s01,hq1⟩ ?_ ?_ ?_
    · rintro i σ H5 _ ⟨x5,us,ns,rfl,_,_,_,_,_,h5⟩
      exact SqT.of h5
    · rintro i x σ H5 hx ⟨x5,us,ns,rfl,hl5,ul5,pr5,en5,s5,hq5⟩
      have hi:i<2:=(List.getElem?_eq_some_iff.mp hx).1
      obtain ⟨w',hw,vw,okw,hno⟩:=ab i x hx
      obtain ⟨p,xs,rfl,hp,_⟩:=(vw.kp (Kp.same s5)).hd
      cases en:ZCc w' with
      | none=>
        obtain ⟨t1,t2⟩:=ZLr en
        refine ⟨_,rfl,p,_,_,_,rfl,rfl,SqT.of hp,ZAc,rfl,false,congrArg V.bl t1,ZAo ?_⟩
        refine ⟨_,rfl,p,_,_,_,rfl,rfl,SqT.of hp,ZAc,rfl,true,congrArg V.bl t2,ZBR ⟨_,rfl,ZAk,fun r hr'=>k _ _ ?_ (s5.trans (ZAM.new hr'))⟩⟩
        rw [hno en]
        exact (hy.kp (Kp.same s5)).flt hr'
      | some n=>
        have fin:∀ (x5:Option V) (H6:Hp) (p6:Addr),ZAM H5 H6→H6 p6=some (.tup [vS "number",.int n.1,.int n.2])→∀ pp,H6 pp=none→(fun (σ:St) (H7:Hp)=>∃ x5 us ns,σ=[some (.str sg),some u,some v,some y,some (.ref lp),x5,none,none,none]∧H7 lp=some (.lst us)∧us.length=i+1∧ZFm H7 us ns∧([a,b].take (i+1)).map ZCc=ns.map some∧ZAM H H7∧H7 q=some (.tup [u,v])) [some (.str sg),some u,some v,some y,some (.ref lp),some (.ref p6),none,none,none] (upd (upd H6 pp (.tup [.int n.1,.int n.2])) lp (.lst (us++[.ref pp]))):=fun x5 H6 p6 s6 hp6 pp hpp=>by
          have s7:=ZAM.new (o:=.tup [.int n.1,.int n.2]) hpp
          have e7:upd H6 pp (.tup [.int n.1,.int n.2]) pp=some (.tup [.int n.1,.int n.2]):=ZAE
          have hl7:=s7 _ _ (s6 _ _ hl5)
          have hq7:=s7 _ _ (s6 _ _ hq5)
          have s57:=s6.trans s7
          generalize upd H6 pp (.tup [.int n.1,.int n.2])=H7 at *
          have kd:=ZFR (vs:=us++[.ref pp]) hl7
          refine ⟨_,us++[.ref pp],ns++[n],rfl,ZAE,by rw [List.length_append,ul5];rfl,ZHN (ZFm.kp pr5 ((Kp.same s57).trans kd)) ⟨pp,rfl,kd _ _ e7⟩,?_,fun b' o e=>?_,kd _ _ hq7⟩
          · rw [List.take_add_one,hw,List.map_append,en5,List.map_append]
            simp [en]
          · rw [ZAa (ZAY e hlp)];exact s57 _ _ (s5 _ _ e)
        rcases ZKi en with ⟨rfl,rfl⟩ | rfl
        · refine ⟨_,rfl,p,_,_,_,rfl,rfl,SqT.of hp,ZAc,rfl,true,(by show V.bl (decide (V.str (Str.ofString "none")=vS "none"))=_;decide +kernel),ZBR ⟨ZAk,fun p6 hp6=>?_⟩⟩
          have s6:=ZAM.new (o:=.tup [vS "number",.int 0,.int 1]) hp6
          have e6:upd H5 p6 (.tup [vS "number",.int 0,.int 1]) p6=some (.tup [vS "number",.int 0,.int 1]):=ZAE
          generalize upd H5 p6 (.tup [vS "number",.int 0,.int 1])=H6 at *
          refine ⟨_,rfl,p6,_,_,_,rfl,rfl,SqT.of e6,rfl,rfl,false,(by decide +kernel),ZAo ?_⟩
          refine ⟨_,rfl,.inl ⟨rfl,_,SqL.of (s6 _ _ hl5)⟩,_,rfl,1,rfl,p6,_,rfl,SqT.of e6,(by decide),fun pp hpp=>⟨lp,us,_,rfl,rfl,ZAM.new hpp _ _ (s6 _ _ hl5),ZDM (by omega),fin none H6 p6 s6 e6 pp hpp⟩⟩
        · have hp':H5 p=some (.tup [vS "number",.int n.1,.int n.2]):=by obtain ⟨_,e,h⟩:=vw.kp (Kp.same s5);cases e;exact h
          refine ⟨_,rfl,p,_,_,_,rfl,rfl,SqT.of hp',rfl,rfl,false,(by decide +kernel),ZAo ?_⟩
          refine ⟨_,rfl,p,_,_,_,rfl,rfl,SqT.of hp',rfl,rfl,false,(by decide +kernel),ZAo ?_⟩
          exact ⟨_,rfl,.inl ⟨rfl,_,SqL.of hl5⟩,_,rfl,1,rfl,p,_,rfl,SqT.of hp',(by show ¬ (HT.sIx 3 0 (some 1)=0∧HT.sIx 3 3 none=3);decide),fun pp hpp=>⟨lp,us,_,rfl,rfl,ZAM.new hpp _ _ hl5,ZDM (by omega),fin none H5 p (ZAM.refl _) hp' pp hpp⟩⟩
    · rintro σ H5 ⟨x5,us,ns,rfl,hl5,ul5,pr5,en5,s5,_⟩
      refine hN _ _ ?_
      obtain ⟨ua,ub,rfl⟩:=ZB9 ul5
      have nl:ns.length=2:=(Paired.length pr5).symm
      obtain ⟨⟨a1,a2⟩,⟨b1,b2⟩,rfl⟩:=ZB9 nl
      obtain ⟨ea,eb⟩:ZCc a=some (a1,a2)∧ZCc b=some (b1,b2):=by
        have:[ZCc a,ZCc b]=[some (a1,a2),some (b1,b2)]:=en5
        injection this with h1 h2
        injection h2 with h2 _
        exact ⟨h1,h2⟩
      obtain ⟨low1,ta1,ta2⟩:=ZFS oa ea
      obtain ⟨low2,tb1,tb2⟩:=ZFS ob eb
      have pa:=low1.pos
      have pb:=low2.pos
      dsimp only at pa pb ta1 ta2 tb1 tb2 low1 low2
      have za1:=(ZJH ta1);have za2:=(ZJH ta2);have zb1:=(ZJH tb1);have zb2:=(ZJH tb2)
      have m1:Sz 4000 a1:=za1.mono (by decide)
      have m2:Sz 4000 a2:=za2.mono (by decide)
      have m3:Sz 4000 b1:=zb1.mono (by decide)
      have m4:Sz 4000 b2:=zb2.mono (by decide)
      have hbb:1≤a2*b2:=Int.mul_pos pa pb
      have zbb:Sz 4000 (a2*b2):=(za2.mul zb2).mono (by decide)
      have enm:ZD2 sg a b hm=opN sg (a1,a2) (b1,b2) hm:=by unfold ZD2;rw [ea,eb]
      rw [enm] at k
      obtain ⟨p1,p2,rfl,rfl,h1,h2⟩:∃ p1 p2,ua=.ref p1∧ub=.ref p2∧H5 p1=some (.tup [.int a1,.int a2])∧H5 p2=some (.tup [.int b1,.int b2]):=by
        cases pr5 with
        | cons x xs=>
          cases xs with
          | cons x' xs'=>
            obtain ⟨p1,e1,h1⟩:=x
            obtain ⟨p2,e2,h2⟩:=x'
            exact ⟨p1,p2,e1,e2,h1,h2⟩
      have hy5:=hy.kp (Kp.same s5)
      have fin:∀ (t b:Int),1≤b→opN sg (a1,a2) (b1,b2) hm=ZIl (ZDA t b) (ZCz t b) hm→∀ r,H5 r=none→(fun vs H Q E=>ZNQ vs H Q E) [.ref r,y] (upd H5 r (.tup [vS "number",.int (ZDA t b),.int (ZCz t b)])) Q E0:=fun t b hb e r hr'=>
        ⟨r,_,_,y,hm,rfl,ZAE,ZC5 (by omega),hy5.kp (Kp.new hr'),fun x H' hx s'=>k x H' (by rw [e];exact hx) (s5.trans ((ZAM.new hr').trans s'))⟩
      refine ⟨_,rfl,lp,_,rfl,SqL.of hl5,rfl,_,_,rfl,_,_,rfl,rfl,?_⟩
      have hs5:sg=Str.ofString "+"∨sg=Str.ofString "-"∨sg=Str.ofString "*"∨sg=Str.ofString "/"∨sg=Str.ofString "<":=by simpa [S5] using hsg
      rcases hs5 with rfl | rfl | rfl | rfl | rfl
      · refine ⟨_,rfl,rfl,false,(by decide +kernel),ZAo ?_⟩
        refine ⟨_,rfl,rfl,true,(by decide +kernel),ZBR ?_⟩
        exact ⟨_,rfl,p1,_,_,_,rfl,rfl,SqT.of h1,rfl,_,rfl,p2,_,_,_,rfl,rfl,SqT.of h2,rfl,_,_,rfl,rfl,⟨m1,m4⟩,_,rfl,p2,_,_,_,rfl,rfl,SqT.of h2,rfl,_,rfl,p1,_,_,_,rfl,rfl,SqT.of h1,rfl,_,_,rfl,rfl,⟨m3,m2⟩,_,_,rfl,rfl,_,rfl,p1,_,_,_,rfl,rfl,SqT.of h1,rfl,_,rfl,p2,_,_,_,rfl,rfl,SqT.of h2,rfl,_,_,rfl,rfl,⟨m2,m4⟩,_,_,rfl,hbb,zbb,fun r hr'=>⟨_,rfl,fin _ _ hbb (by unfold opN;rw [if_pos rfl]) r hr'⟩⟩
      · refine ⟨_,rfl,rfl,false,(by decide +kernel),ZAo ?_⟩
        refine ⟨_,rfl,rfl,false,(by decide +kernel),ZAo ?_⟩
        refine ⟨_,rfl,rfl,true,(by decide +kernel),ZBR ?_⟩
        exact ⟨_,rfl,p1,_,_,_,rfl,rfl,SqT.of h1,rfl,_,rfl,p2,_,_,_,rfl,rfl,SqT.of h2,rfl,_,_,rfl,rfl,⟨m1,m4⟩,_,rfl,p2,_,_,_,rfl,rfl,SqT.of h2,rfl,_,rfl,p1,_,_,_,rfl,rfl,SqT.of h1,rfl,_,_,rfl,rfl,⟨m3,m2⟩,_,_,rfl,rfl,_,rfl,p1,_,_,_,rfl,rfl,SqT.of h1,rfl,_,rfl,p2,_,_,_,rfl,rfl,SqT.of h2,rfl,_,_,rfl,rfl,⟨m2,m4⟩,_,_,rfl,hbb,zbb,fun r hr'=>⟨_,rfl,fin _ _ hbb (by unfold opN;rw [if_neg (by decide +kernel),if_pos rfl]) r hr'⟩⟩
      · refine ⟨_,rfl,rfl,false,(by decide +kernel),ZAo ?_⟩
        refine ⟨_,rfl,rfl,false,(by decide +kernel),ZAo ?_⟩
        refine ⟨_,rfl,rfl,false,(by decide +kernel),ZAo ?_⟩
        refine ⟨_,rfl,rfl,true,(by decide +kernel),ZBR ?_⟩
        exact ⟨_,rfl,p1,_,_,_,rfl,rfl,SqT.of h1,rfl,_,rfl,p2,_,_,_,rfl,rfl,SqT.of h2,rfl,_,_,rfl,rfl,⟨m1,m3⟩,_,rfl,p1,_,_,_,rfl,rfl,SqT.of h1,rfl,_,rfl,p2,_,_,_,rfl,rfl,SqT.of h2,rfl,_,_,rfl,rfl,⟨m2,m4⟩,_,_,rfl,hbb,zbb,fun r hr'=>⟨_,rfl,fin _ _ hbb (by unfold opN;rw [if_neg (by decide +kernel),if_neg (by decide +kernel),if_pos rfl]) r hr'⟩⟩
      · refine ⟨_,rfl,rfl,false,(by decide +kernel),ZAo ?_⟩
        refine ⟨_,rfl,rfl,false,(by decide +kernel),ZAo ?_⟩
        refine ⟨_,rfl,rfl,false,(by decide +kernel),ZAo ?_⟩
        refine ⟨_,rfl,rfl,false,(by decide +kernel),ZAo ?_⟩
        have eo:opN (Str.ofString "/") (a1,a2) (b1,b2) hm=(if b1=0 then ZLA "nought" hm else ZIl (ZDA (a1*b2) (a2*b1)) (ZCz (a1*b2) (a2*b1)) hm):=by unfold opN;rw [if_neg (by decide +kernel),if_neg (by decide +kernel),if_neg (by decide +kernel),if_pos rfl]
        refine ⟨_,rfl,p2,_,_,_,rfl,rfl,SqT.of h2,rfl,rfl,_,rfl,ZDJ (fun c0=>?_) (fun c0=>?_)⟩
        · have z0:b1=0:=by simpa using c0
          rw [eo,if_pos z0] at k
          exact ⟨_,rfl,ZAk,fun r hr'=>k _ _ (hy5.flt hr') (s5.trans (ZAM.new hr'))⟩
        have z0:¬ b1=0:=by simpa using c0
        rw [if_neg z0] at eo
        refine ⟨1,rfl,ZAn,fun l hl=>?_⟩
        have g1:=ZAM.new (o:=.lst [.int 1,.int (-1)]) hl
        have el:upd H5 l (.lst [.int 1,.int (-1)]) l=some (.lst [.int 1,.int (-1)]):=ZAE
        generalize upd H5 l (.lst [.int 1,.int (-1)])=H6 at *
        have h1':=g1 _ _ h1
        have h2':=g1 _ _ h2
        have s6:=s5.trans g1
        have hy6:=hy.kp (Kp.same s6)
        have fin6:∀ (t b:Int),1≤b→opN (Str.ofString "/") (a1,a2) (b1,b2) hm=ZIl (ZDA t b) (ZCz t b) hm→∀ r,H6 r=none→(fun vs H Q E=>ZNQ vs H Q E) [.ref r,y] (upd H6 r (.tup [vS "number",.int (ZDA t b),.int (ZCz t b)])) Q E0:=fun t b hb e r hr'=>
          ⟨r,_,_,y,hm,rfl,ZAE,ZC5 (by omega),hy6.kp (Kp.new hr'),fun x H' hx s'=>k x H' (by rw [e];exact hx) (s6.trans ((ZAM.new hr').trans s'))⟩
        have z1:Sz 4000 (1:Int):=ZBI (by decide) (by decide)
        have zm:Sz 4000 (-1:Int):=ZBI (by decide) (by decide)
        have zab:Sz 300 (a2*b1):=(za2.mul zb1).mono (by decide)
        refine ⟨_,rfl,p2,_,_,_,rfl,rfl,SqT.of h2',rfl,_,_,rfl,rfl,.inr ⟨_,rfl,?_⟩⟩
        by_cases cn:b1<0
        · rw [decide_eq_true cn]
          refine ⟨l,_,_,_,rfl,rfl,SqL.of el,rfl,?_⟩
          have hb':1≤-1*a2*b1:=by
            have:0<a2*-b1:=Int.mul_pos pa (by omega)
            rw [Int.neg_one_mul,Int.neg_mul]
            rw [Int.mul_neg] at this
            omega
          refine ⟨_,rfl,_,rfl,p1,_,_,_,rfl,rfl,SqT.of h1',rfl,_,_,rfl,rfl,⟨zm,m1⟩,_,rfl,p2,_,_,_,rfl,rfl,SqT.of h2',rfl,_,_,rfl,rfl,⟨by rw [Int.neg_one_mul];exact m1.neg,m4⟩,_,rfl,_,rfl,p1,_,_,_,rfl,rfl,SqT.of h1',rfl,_,_,rfl,rfl,⟨zm,m2⟩,_,rfl,p2,_,_,_,rfl,rfl,SqT.of h2',rfl,_,_,rfl,rfl,⟨by rw [Int.neg_one_mul];exact m2.neg,m3⟩,_,_,rfl,hb',(by rw [Int.neg_one_mul,Int.neg_mul];exact (zab.neg).mono (by decide)),fun r hr'=>⟨_,rfl,fin6 _ _ hb' ?_ r hr'⟩⟩
          rw [eo,Int.neg_one_mul,Int.neg_mul,Int.neg_one_mul,Int.neg_mul,ZLs (by exact Int.mul_ne_zero (by omega) z0),ZLt (by exact Int.mul_ne_zero (by omega) z0)]
        · rw [decide_eq_false cn]
          refine ⟨l,_,_,_,rfl,rfl,SqL.of el,rfl,?_⟩
          have hb':1≤1*a2*b1:=by
            have:0<a2*b1:=Int.mul_pos pa (by omega)
            rw [Int.one_mul];omega
          refine ⟨_,rfl,_,rfl,p1,_,_,_,rfl,rfl,SqT.of h1',rfl,_,_,rfl,rfl,⟨z1,m1⟩,_,rfl,p2,_,_,_,rfl,rfl,SqT.of h2',rfl,_,_,rfl,rfl,⟨by rw [Int.one_mul];exact m1,m4⟩,_,rfl,_,rfl,p1,_,_,_,rfl,rfl,SqT.of h1',rfl,_,_,rfl,rfl,⟨z1,m2⟩,_,rfl,p2,_,_,_,rfl,rfl,SqT.of h2',rfl,_,_,rfl,rfl,⟨by rw [Int.one_mul];exact m2,m3⟩,_,_,rfl,hb',(by rw [Int.one_mul];exact zab.mono (by decide)),fun r hr'=>⟨_,rfl,fin6 _ _ hb' ?_ r hr'⟩⟩
          rw [eo,Int.one_mul,Int.one_mul]
      · refine ⟨_,rfl,rfl,true,(by decide +kernel),ZBR ?_⟩
        refine ⟨_,rfl,p1,_,_,_,rfl,rfl,SqT.of h1,rfl,_,rfl,p2,_,_,_,rfl,rfl,SqT.of h2,rfl,_,_,rfl,rfl,⟨m1,m4⟩,_,rfl,p2,_,_,_,rfl,rfl,SqT.of h2,rfl,_,rfl,p1,_,_,_,rfl,rfl,SqT.of h1,rfl,_,_,rfl,rfl,⟨m3,m2⟩,_,_,rfl,rfl,ZAn,fun r hr'=>k _ _ ⟨r,rfl,ZAE⟩ (s5.trans (ZAM.new hr'))⟩
theorem ZCk:ZAS ["_law_sign","_law_a","_law_b","_law_home","_law_one","_law_signs","_law_odd"] ["_law_sign","_law_a","_law_b","_law_home"] (ZAF ZBu):=⟨rfl,rfl,rfl,by decide +kernel,rfl,by decide +kernel,by decide +kernel⟩
theorem ZDv (T:Txt w K mg t):ZBS P w K mg base CX0 4 t.f__law_of_two t.d__law_of_two ["_law_sign","_law_a","_law_b","_law_home"] ZQ8:=by
  have D:=T.c__law_of_two
  refine D.fn.ok ZCk (fun vs H Q E h=>?_) (fun cdv A outer s H vs Q E hr h=>?_)
  · obtain ⟨sg,u,v,y,a,b,hm,rfl,_⟩:=h
    rfl
  · obtain ⟨sg,u,v,y,a,b,hm,rfl,hsg,ha,hb,oa,ob,hy,k⟩:=h
    have hu:=hr.units0
    have hu1:=ZHA hr
    refine ⟨_,((ZAD (ZC1 PassesOwn.never rfl (ZGy (ZAb (ZAA (pv 1) (ZAA (pv 2) ZAB)))) (ZA2 (i:=4) ZCk.nd rfl (Or.inl rfl))
      (ZAG (ZAj (ZAL ZAm (ZAN ZAJ (pv 4) ZAC (fun _ _=>rfl)) ZAI (ZAO _)) (ZAG (ZAK (pv 4))) ZAP)))
      (ZAD (ZAj (ZAL ZAm (pv 0) ZAI (ZAO _)) (ZAG (ZAK (ZAb (ZAH ZAI (ZCg (ZBB (ZMF hu1) (pv 1) (pv 2) (ZAO _)) ZAB))))) ZAP)
      (ZAD (ZAj (ZAL ZAm (pv 0) ZAI (ZAO _)) (ZAD (ZAd (i:=5) ZCk.nd rfl (Or.inl rfl) (ZAZ ZB3 (ZAW T.c__law_plain_signs (ZCv T) (hr.mono (by decide)) (ZAA (pv 1) ZAB)) (ZAW T.c__law_plain_signs (ZCv T) (hr.mono (by decide)) (ZAA (pv 2) ZAB))))
      (ZAD (ZMz (i:=6) ZCk.nd rfl rfl (fv:=[]) (js:=[]) (cl:=[]) rfl (by with_unfolding_all rfl) ⟨rfl,by decide +kernel,by decide +kernel,rfl,by decide +kernel,by decide +kernel,(List.forall_mem_nil _),(List.forall_mem_nil _),.nil⟩ (ZMC (pv 5)) (fun _ _ _ _ _=>(ZJt (ZAL ZNS (pv 0) ZAI rfl))) (fun _ _ _ _ _=>(pv 0)))
      (ZAG (ZAK (ZAN ZA3 (ZBh (ZAp (ZAb (ZAH ZAI (ZAA (pv 5) ZAB))) (ZAp (ZAb (ZAH ZAI (ZAH ZAI (ZAA (pv 3) ZAB)))) ZAB))) (ZBy ZEA (by rfl) T.int ZCh (ZLF (ZPZ (ZBB (ZOM hu) (pv 6) (ZBh ZAB) (ZAO _)) (ZDW (ZBB ZIx (ZAU ZEe (by rfl) T.len PySem.boot_len (ZAA (pv 5) ZAB)) ZAC (ZAO _)))) ZAB)) (fun _ _=>rfl)))))) ZAP)
      (ZAD (ZAj (ZE7 (ZAL ZAm (pv 0) ZAI (ZAO _)) (ZE7 (ZAL ZAm (ZAN ZAJ (pv 1) ZAC (fun _ _=>rfl)) ZAI (ZAO _)) (ZE6 (ZAL ZAm (ZAN ZAJ (pv 2) ZAC (fun _ _=>rfl)) ZAI (ZAO _))))).pt (ZAG (ZAK (ZAb (ZAH ZAI (ZCg (ZBB ZG0 (ZAN ZAJ (pv 1) ZAC (fun _ _=>rfl)) (ZAN ZAJ (pv 2) ZAC (fun _ _=>rfl)) (ZAO _)) ZAB))))) ZAP)
      (ZAG (ZAK (ZAW T.c__law_of_numbers (ZEP T) (hr.mono (by decide)) (ZAA (pv 0) (ZAA (pv 1) (ZAA (pv 2) (ZAA (pv 3) ZAB)))))))))))),?_⟩
    obtain ⟨qa,rfl,hqa⟩:=id ha
    obtain ⟨qb,rfl,hqb⟩:=id hb
    refine ⟨_,rfl,_,rfl,ZAn,fun q hq=>?_⟩
    have s1:ZAM H (upd H q (.tup [.ref qa,.ref qb])):=ZAM.new hq
    have hq1:upd H q (.tup [.ref qa,.ref qb]) q=some (.tup [.ref qa,.ref qb]):=ZAE
    generalize upd H q (.tup [.ref qa,.ref qb])=H1 at *
    have ha1:=ha.kp (Kp.same s1)
    have hb1:=hb.kp (Kp.same s1)
    have hy1:=hy.kp (Kp.same s1)
    unfold opM at k
    refine ⟨q,rfl,⟨_,SqT.of hq1⟩,?_⟩
    refine ZFB (xs:=[.ref qa,.ref qb]) (fun i σ H5=>∃ x4,σ=[some (.str sg),some (.ref qa),some (.ref qb),some y,x4,none,none]∧H5=H1∧(1≤i→¬ isF a=true)∧(2≤i→¬ isF b=true)) ⟨none,rfl,rfl,fun z=>by omega,fun z=>by omega⟩ ?_ ?_ ?_
    · rintro i σ H5 _ ⟨x4,rfl,rfl,_⟩
      exact SqT.of hq1
    · rintro i x σ H5 hx ⟨x4,rfl,rfl,e1,e2⟩
      have hi:i<2:=(List.getElem?_eq_some_iff.mp hx).1
      have hc:i=0∨i=1:=by omega
      rcases hc with rfl | rfl
      · cases hx
        obtain ⟨q',xs,ee,hq',_⟩:=ha1.hd
        cases ee
        refine ⟨_,rfl,qa,_,_,_,rfl,rfl,SqT.of hq',ZAc,rfl,isF a,rfl,?_⟩
        refine ZDJ (fun c1=>?_) (fun c1=>?_)
        · exact ⟨_,rfl,k _ _ (by rw [if_pos c1];exact ha1) s1⟩
        · exact ⟨_,rfl,rfl,fun _=>c1,fun z=>by omega⟩
      · cases hx
        obtain ⟨q',xs,ee,hq',_⟩:=hb1.hd
        cases ee
        refine ⟨_,rfl,qb,_,_,_,rfl,rfl,SqT.of hq',ZAc,rfl,isF b,rfl,?_⟩
        refine ZDJ (fun c1=>?_) (fun c1=>?_)
        · exact ⟨_,rfl,k _ _ (by rw [if_neg (e1 (by omega)),if_pos c1];exact hb1) s1⟩
        · exact ⟨_,rfl,rfl,fun _=>e1 (by omega),fun _=>c1⟩
    · rintro σ H5 ⟨x4,rfl,rfl,e1,e2⟩
      have c1:=e1 (by simp)
      have c2:=e2 (by simp)
      rw [if_neg c1,if_neg c2] at k
      obtain ⟨_,xa,ea,hxa,ia⟩:=ha1.hd
      cases ea
      obtain ⟨_,xb,eb,hxb,ib⟩:=hb1.hd
      cases eb
      refine ⟨_,rfl,rfl,_,rfl,?_⟩
      rw [ZLB]
      by_cases d1:sg=Str.ofString "="
      · rw [if_pos d1] at k
        rw [decide_eq_true d1]
        exact ZBR ⟨_,rfl,_,rfl,qa,qb,_,_,_,_,rfl,rfl,hxa,hxb,ia,ib,ZAn,fun q' hq'=>k _ _ ⟨q',rfl,ZAE⟩ (s1.trans (ZAM.new hq'))⟩
      rw [if_neg d1] at k
      rw [decide_eq_false d1]
      refine ZAo ⟨_,rfl,rfl,_,rfl,?_⟩
      rw [ZLB]
      by_cases d2:sg=Str.ofString "&"
      · rw [if_pos d2] at k
        rw [decide_eq_true d2]
        refine ZBR ?_
        have l1:=ZGX oa
        have l2:=ZGX ob
        refine ⟨_,rfl,.ref qa,a,rfl,ha1,oa,Bool.eq_false_iff.mpr c1,fun H6 s6=>⟨_,rfl,.ref qb,b,rfl,hb1.kp (Kp.same s6),ob,Bool.eq_false_iff.mpr c2,fun H7 s7=>?_⟩⟩
        have s17:=(s1.trans s6).trans s7
        have hz:(sgn a++sgn b).length≤1000:=by rw [ZAs];omega
        refine ⟨_,_,rfl,rfl,(by rw [← ZAs];exact ZC0 hz),?_⟩
        unfold ZLp at k
        generalize sgn a++sgn b=z at *
        have hsz:z.cps.toList.length=z.cps.size:=by simp
        have hlz:z.length=z.cps.size:=rfl
        refine ⟨_,rfl,z,rfl,fun D hD=>?_⟩
        refine ⟨fun i m H8=>m=z.cps.size-i∧i≤z.cps.size∧H8=upd H7 D (.lst (ZGu (z.cps.toList.take i))),⟨z.cps.size,by simp,Nat.zero_le _,by simp [ZGu]⟩,?_⟩
        rintro i m H8 ⟨rfl,hi,rfl⟩
        by_cases hlt:i<z.cps.size
        · refine .inr ⟨hlt,fun x H9 yl=>?_⟩
          obtain ⟨rfl,c,hc,rfl⟩:=yl
          have ht:z.cps.toList.take (i+1)=z.cps.toList.take i++[c]:=by
            rw [List.take_succ,show z.cps.toList[i]?=some c by simpa using hc];rfl
          refine ⟨_,rfl,_,_,rfl,rfl,_,rfl,?_⟩
          rw [StrLaws.found_one]
          have hol:=ZNU (z.cps.toList.take i)
          rw [List.length_take] at hol
          show if (!decide (c∈SGL.cps.toList))=true then _ else _
          cases hcm:decide (c∈SGL.cps.toList) with
          | true=>exact ZAo ⟨z.cps.size-(i+1),by omega,rfl,hlt,by rw [ht,ZO0 hcm]⟩
          | false=>exact ZBR ⟨_,rfl,_,ZAE,ZDM (by omega),z.cps.size-(i+1),by omega,rfl,hlt,by rw [ZHj,ht,ZNT hcm]⟩
        · have ei:i=z.cps.size:=by omega
          subst ei
          refine .inl ⟨rfl,?_⟩
          rw [List.take_of_length_le (by omega)]
          have s8:=ZAM.new (o:=.lst (ZGu z.cps.toList)) hD
          have e8:upd H7 D (.lst (ZGu z.cps.toList)) D=some (.lst (ZGu z.cps.toList)):=ZAE
          generalize upd H7 D (.lst (ZGu z.cps.toList))=H8 at *
          have s18:=s17.trans s8
          refine ⟨_,rfl,ZAn,fun q1 hq1=>⟨_,rfl,ZAk,fun q2 hq2=>⟨ZAn,fun l hl=>?_⟩⟩⟩
          have g1:=ZAM.new (o:=.tup [vS "text",.str z]) hq1
          have g2:=ZAM.new (o:=.tup [vS "fault",vS "kind",y]) hq2
          have g3:=ZAM.new (o:=.lst [.ref q1,.ref q2]) hl
          have v1:ZBT (upd (upd (upd H8 q1 (.tup [vS "text",.str z])) q2 (.tup [vS "fault",vS "kind",y])) l (.lst [.ref q1,.ref q2])) (.ref q1) (.txt z):=⟨q1,rfl,g3 _ _ (g2 _ _ ZAE)⟩
          have v2:ZBT (upd (upd (upd H8 q1 (.tup [vS "text",.str z])) q2 (.tup [vS "fault",vS "kind",y])) l (.lst [.ref q1,.ref q2])) (.ref q2) (ZLA "kind" hm):=((hy.kp (Kp.same (s18.trans g1))).flt hq2).kp (Kp.same g3)
          have s19:=((s18.trans g1).trans g2).trans g3
          have e9:=g3 _ _ (g2 _ _ (g1 _ _ e8))
          have el:upd (upd (upd H8 q1 (.tup [vS "text",.str z])) q2 (.tup [vS "fault",vS "kind",y])) l (.lst [.ref q1,.ref q2]) l=some (.lst [.ref q1,.ref q2]):=ZAE
          generalize upd (upd (upd H8 q1 (.tup [vS "text",.str z])) q2 (.tup [vS "fault",vS "kind",y])) l (.lst [.ref q1,.ref q2])=H9 at *
          refine ⟨_,rfl,Nat.zero_le _,fun le hle=>?_⟩
          have g4:=ZAM.new (o:=.lst []) hle
          have ele:upd H9 le (.lst []) le=some (.lst []):=ZAE
          generalize upd H9 le (.lst [])=H10 at *
          have s20:=s19.trans g4
          have kk:=Kp.same g4
          rw [ZLu] at k
          refine ⟨D,le,_,rfl,rfl,SqL.of (g4 _ _ e9),SqL.of ele,_,rfl,?_⟩
          cases co:(ZGu z.cps.toList).isEmpty with
          | false=>
            rw [co] at k
            exact ZBR (.inr ⟨true,rfl,l,_,_,_,rfl,rfl,SqL.of (g4 _ _ el),rfl,k _ _ (v2.kp kk) s20⟩)
          | true=>
            rw [co] at k
            refine ZAo ⟨_,rfl,z,rfl,ZC0 hz,_,_,rfl,rfl,.inr ⟨_,rfl,?_⟩⟩
            by_cases cl:(20:Int)<(z.length:Int)
            · rw [decide_eq_true cl] at k ⊢
              exact ⟨l,_,_,_,rfl,rfl,SqL.of (g4 _ _ el),rfl,k _ _ (v2.kp kk) s20⟩
            · rw [decide_eq_false cl] at k ⊢
              exact ⟨l,_,_,_,rfl,rfl,SqL.of (g4 _ _ el),rfl,k _ _ (v1.kp kk) s20⟩
      rw [if_neg d2] at k
      rw [decide_eq_false d2]
      refine ZAo ⟨_,rfl,rfl,_,rfl,?_⟩
      rw [ZLB]
      have h5:sg∈S5:=by
        have:sg=Str.ofString "+"∨sg=Str.ofString "-"∨sg=Str.ofString "*"∨sg=Str.ofString "/"∨sg=Str.ofString "<"∨sg=Str.ofString "="∨sg=Str.ofString "&":=by simpa [S7] using hsg
        rcases this with h | h | h | h | h | h | h
        · rw [h];decide +kernel
        · rw [h];decide +kernel
        · rw [h];decide +kernel
        · rw [h];decide +kernel
        · rw [h];decide +kernel
        · exact absurd h d1
        · exact absurd h d2
      by_cases d3:sg=Str.ofString "<"
      · rw [decide_eq_true d3]
        refine ZBR ⟨_,rfl,qa,_,_,_,rfl,rfl,SqT.of hxa,ZAc,rfl,_,rfl,ZDJ (fun t1=>?_) (fun t1=>ZAo ?_)⟩
        · refine ⟨_,rfl,qb,_,_,_,rfl,rfl,SqT.of hxb,ZAc,rfl,_,rfl,ZDJ (fun t2=>?_) (fun t2=>?_)⟩
          · obtain ⟨z1,rfl⟩:=ZGY t1
            obtain ⟨z2,rfl⟩:=ZGY t2
            have e1:H5 qa=some (.tup [vS "text",.str z1]):=by obtain ⟨_,e,h⟩:=ha1;cases e;exact h
            have e2:H5 qb=some (.tup [vS "text",.str z2]):=by obtain ⟨_,e,h⟩:=hb1;cases e;exact h
            have ek:ZMU sg (.txt z1) (.txt z2)=some (decide (z1.cps.toList<z2.cps.toList)):=if_pos d3
            rw [ek] at k
            exact ⟨_,rfl,qa,_,_,_,rfl,rfl,SqT.of e1,rfl,_,rfl,qb,_,_,_,rfl,rfl,SqT.of e2,rfl,_,_,rfl,rfl,ZAn,fun q' hq'=>k _ _ ⟨q',rfl,ZAE⟩ (s1.trans (ZAM.new hq'))⟩
          · exact ⟨_,rfl,_,rfl,_,rfl,_,rfl,sg,_,_,y,a,b,hm,rfl,h5,ha1,hb1,oa,ob,hy1,fun x H' hx s'=>k x H' (by rw [ZMW t2];exact hx) (s1.trans s')⟩
        · exact ⟨_,rfl,_,rfl,_,rfl,_,rfl,sg,_,_,y,a,b,hm,rfl,h5,ha1,hb1,oa,ob,hy1,fun x H' hx s'=>k x H' (by rw [ZMV t1];exact hx) (s1.trans s')⟩
      · rw [decide_eq_false d3]
        refine ZAo (ZAo ?_)
        exact ⟨_,rfl,_,rfl,_,rfl,_,rfl,sg,_,_,y,a,b,hm,rfl,h5,ha1,hb1,oa,ob,hy1,fun x H' hx s'=>k x H' (by rw [ZH6 d3];exact hx) (s1.trans s')⟩
theorem ZFx:ZAS ["_law_script","_law_k"] ["_law_script","_law_k"] (ZAF ZBd):=⟨rfl,rfl,rfl,by decide +kernel,rfl,by decide +kernel,by decide +kernel⟩
theorem ZCw (T:Txt w K mg t):ZBS P w K mg base CX0 1 t.f__law_cell_at t.d__law_cell_at ["_law_script","_law_k"] (ZQh K):=by
  have D:=T.c__law_cell_at
  refine D.fn.ok ZFx (fun vs H Q E h=>?_) (fun cdv A outer s H vs Q E hr h=>?_)
  · obtain ⟨a,ns,i,rfl,_⟩:=h
    rfl
  · obtain ⟨a,ns,i,rfl,hS,h0,k⟩:=h
    refine ⟨_,((ZAD (ZAj (ZAL ZGC (pv 1) (ZAU ZAe (by rfl) T.len PySem.boot_len (ZAA (pv 0) ZAB)) (ZAO _)) (ZAG (ZAK (ZAN ZA3 (pv 0) (pv 1) (fun _ _=>rfl)))) ZAP)
      (ZAG (ZAK ZAC)))),?_⟩
    refine ⟨_,rfl,_,rfl,a,_,rfl,.inl hS,_,_,rfl,rfl,_,rfl,ZDJ (fun c1=>?_) (fun c1=>k 0)⟩
    have hlt:i<(ns.length:Int):=by have:=of_decide_eq_true c1;rw [List.length_map] at this;exact this
    obtain ⟨v,hv⟩:=ZLk (ns:=ns) h0 hlt
    exact ⟨_,rfl,_,rfl,a,_,_,_,rfl,rfl,hS,hv,k v⟩
theorem ZJP:ZAS ["_law_script"] ["_law_script"] (ZAF ZCr):=⟨rfl,rfl,rfl,by decide +kernel,rfl,by decide +kernel,by decide +kernel⟩
theorem ZIE (T:Txt w K mg t):ZBS P w K mg base CX0 2 t.f__law_pen t.d__law_pen ["_law_script"] (ZQi K):=by
  have D:=T.c__law_pen
  refine D.fn.ok ZJP (fun vs H Q E h=>?_) (fun cdv A outer s H vs Q E hr h=>?_)
  · obtain ⟨a,ns,rfl,_⟩:=h
    rfl
  · obtain ⟨a,ns,rfl,hS,h63,k⟩:=h
    refine ⟨_,((ZAG (ZAK (ZBh (ZAA (pv 0) (ZCg (ZBB ZAm (ZAZ ZDD (ZAW T.c__law_cell_at (ZCw T) (hr.mono (by decide)) (ZAA (pv 0) (ZAH ZAC ZAB))) ZAC) ZAC (ZAO _)) (ZAH ZAC (ZAH ZAC ZAB)))))))),?_⟩
    refine ⟨_,rfl,_,rfl,a,ns,0,rfl,hS,(by decide),fun v=>⟨_,_,rfl,rfl,(by show (0:Int)<_;decide),rfl,(by show 4≤sizeLine;decide),fun p hp=>?_⟩⟩
    exact k p _ hp ⟨_,0,0,ZAE,(ZAM.new hp).seq hS,by decide,by decide,h63⟩ (ZAM.new hp)
theorem ZCx:ZAS ["_law_pen_here","_law_most","_law_count","_law_drawn","_law_mixing"] ["_law_pen_here","_law_most"] (ZAF ZCS):=⟨rfl,rfl,rfl,by decide +kernel,rfl,by decide +kernel,by decide +kernel⟩
theorem ZAh (T:Txt w K mg t):ZBS P w K mg base CX0 2 t.f__law_take t.d__law_take ["_law_pen_here","_law_most"] (ZQj K):=by
  have D:=T.c__law_take
  refine D.fn.ok ZCx (fun vs H Q E h=>?_) (fun cdv A outer s H vs Q E hr h=>?_)
  · obtain ⟨p,m,n,S,rfl,_⟩:=h
    rfl
  · obtain ⟨p,m,n,S,rfl,hm,hz,hpen,hn,k⟩:=h
    refine ⟨_,((ZAD (ZAd (i:=2) ZCx.nd rfl (Or.inl rfl) (ZAN ZA3 (pv 0) ZAC (fun _ _=>rfl)))
      (ZAD (ZIJ (ZAZ ZA9 (pv 2) ZAC) (ZJZ (pv 0) ZAC ZGF))
      (ZAD (ZAj (ZCd (ZAN ZA3 (pv 0) ZAC (fun _ _=>rfl))) (ZAD (ZAj (ZAL ZAm (ZAZ ZDD (pv 2) ZAC) ZAC (ZAO _)) (ZAG (ZIJ (ZAW T.c__law_cell_at (ZCw T) (hr.mono (by decide)) (ZAR (ZAN ZA3 (pv 0) ZAC (fun _ _=>rfl)) (ZAX (ZAZ ZA9 ZAC (ZAZ ZJc (pv 2) ZAC)) ZAB))) (ZJZ (pv 0) ZAC ZGF))) ZAP)
      (ZAD (ZAd (i:=3) ZCx.nd rfl (Or.inl rfl) (ZAZ ZDD (ZAN ZA3 (pv 0) ZAC (fun _ _=>rfl)) (pv 1)))
      (ZAD (ZIJ (ZAZ ZED (ZAN ZA3 (pv 0) ZAC (fun _ _=>rfl)) (pv 1)) (ZJZ (pv 0) ZAC ZGF))
      (ZAG (ZAK (pv 3)))))) ZAP)
      (ZAD (ZAd (i:=4) ZCx.nd rfl (Or.inl rfl) (ZAZ ZDD (ZAZ ZAq (ZAZ ZA9 (ZAZ ZDD (ZAW T.c__law_cell_at (ZCw T) (hr.mono (by decide)) (ZAR (ZAN ZA3 (pv 0) ZAC (fun _ _=>rfl)) (ZAX (ZAZ ZA9 ZAC (ZAZ ZDD (pv 2) ZAC)) ZAB))) ZAC) ZAC) (ZAZ ZA9 ZAC (ZAZ ZAq ZAC (pv 2)))) ZAC))
      (ZAD (ZAd (i:=4) ZCx.nd rfl (Or.inl rfl) (ZAZ ZDD (ZAZ ZAq (pv 4) (ZAZ ZA9 (ZAZ ZA9 (ZAZ ZDD (pv 4) ZAC) (pv 2)) ZAC)) ZAC))
      (ZAG (ZAK (ZAZ ZDD (ZAZ ZJc (ZAZ ZDD (ZAZ ZAq (pv 4) (ZAZ ZA9 (ZAZ ZDD (pv 4) ZAC) ZAC)) ZAC) ZAC) (pv 1)))))))))),?_⟩
    obtain ⟨a,ns⟩:=S
    obtain ⟨b,c,r,hp,hS,hc0,hc1,h63⟩:=hpen
    dsimp only at hp hS h63
    refine ⟨_,rfl,p,_,_,_,rfl,rfl,SqL.of hp,rfl,?_⟩
    refine ⟨_,rfl,_,_,rfl,rfl,_,rfl,p,_,_,2,rfl,rfl,hp,rfl,?_⟩
    have hp1:upd H p (.lst [.ref a,.bl b,.int (c+1),.int r]) p=some (.lst [.ref a,.bl b,.int (c+1),.int r]):=ZAE
    have kp1:ZAl p H (upd H p (.lst [.ref a,.bl b,.int (c+1),.int r])):=ZAl.upd
    show _
    generalize hH1:upd H p (.lst [.ref a,.bl b,.int (c+1),.int r])=H1 at hp1 kp1
    have hH1':upd H p (.lst (([.ref a,.bl b,.int c,.int r]:List V).set 2 (.int (c+1))))=H1:=hH1
    have hS1:=SqL.kl hS hp kp1
    have fin:∀ (r' x:Int) (H2:Hp),0≤x→x<m→H2 p=some (.lst [.ref a,.bl b,.int (c+1),.int r'])→ZAl p H H2→Q (.int x) H2:=fun r' x H2 x0 x1 h2 kp=>
      k x H2 x0 x1 ⟨b,c+1,r',h2,SqL.kl hS hp kp,by omega,by omega,h63⟩ kp
    rw [hH1']
    refine ⟨_,rfl,p,_,_,_,rfl,rfl,SqL.of hp1,rfl,b,rfl,?_⟩
    cases b with
    | true=>
      refine ZBR ?_
      have last:∀ (r':Int) (H2:Hp),H2 p=some (.lst [.ref a,.bl true,.int (c+1),.int r'])→ZAl p H H2→Q (.int (r'%m)) (upd H2 p (.lst [.ref a,.bl true,.int (c+1),.int (r'.fdiv m)])):=fun r' H2 h2 kp=>
        fin (r'.fdiv m) (r'%m) (upd H2 p (.lst [.ref a,.bl true,.int (c+1),.int (r'.fdiv m)])) (Int.emod_nonneg _ (by omega)) (Int.emod_lt_of_pos _ hm) ZAE (kp.trans ZAl.upd)
      refine ⟨_,rfl,_,_,rfl,rfl,(by show (0:Int)<_;decide),rfl,_,rfl,ZDJ (fun c2=>?_) (fun c2=>?_)⟩
      · refine ⟨_,rfl,p,_,_,_,rfl,rfl,SqL.of hp1,rfl,_,rfl,_,_,rfl,rfl,⟨by decide,by decide⟩,_,_,rfl,rfl,a,ns,_,rfl,hS1,(by omega),fun v=>⟨_,rfl,p,_,_,3,rfl,rfl,hp1,rfl,?_⟩⟩
        have hp2:upd H1 p (.lst [.ref a,.bl true,.int (c+1),.int v]) p=some (.lst [.ref a,.bl true,.int (c+1),.int v]):=ZAE
        refine ⟨_,rfl,p,_,_,_,rfl,rfl,SqL.of hp2,rfl,_,rfl,_,_,rfl,rfl,hm,?_⟩
        refine ⟨_,rfl,p,_,_,_,rfl,rfl,SqL.of hp2,rfl,_,rfl,_,_,rfl,rfl,⟨by omega,hz⟩,_,rfl,p,_,_,3,rfl,rfl,hp2,rfl,?_⟩
        exact ⟨_,rfl,last v _ hp2 (kp1.trans ZAl.upd)⟩
      · refine ⟨_,rfl,p,_,_,_,rfl,rfl,SqL.of hp1,rfl,_,rfl,_,_,rfl,rfl,hm,?_⟩
        refine ⟨_,rfl,p,_,_,_,rfl,rfl,SqL.of hp1,rfl,_,rfl,_,_,rfl,rfl,⟨by omega,hz⟩,_,rfl,p,_,_,3,rfl,rfl,hp1,rfl,?_⟩
        exact ⟨_,rfl,last r _ hp1 kp1⟩
    | false=>
      refine ZAo ?_
      refine ⟨_,rfl,p,_,_,_,rfl,rfl,SqL.of hp1,rfl,_,rfl,_,_,rfl,rfl,(by show (0:Int)<_;decide),_,_,rfl,rfl,a,ns,_,rfl,hS1,(by omega),fun v=>?_⟩
      have n1:=Int.emod_nonneg v (show (2147483629:Int)≠0 by decide)
      have n2:=Int.emod_lt_of_pos v (show (0:Int)<2147483629 by decide)
      refine ⟨_,_,rfl,rfl,(by show (0:Int)<_;decide),?_⟩
      generalize v%2147483629=y at n1 n2 ⊢
      have m1:=Int.emod_nonneg ((y+1)*(48271+69621*c)) (show (2147483647:Int)≠0 by decide)
      have m2:=Int.emod_lt_of_pos ((y+1)*(48271+69621*c)) (show (0:Int)<2147483647 by decide)
      refine ⟨_,_,rfl,rfl,_,rfl,_,_,rfl,rfl,⟨ZBI (by decide) (by decide),ZBI (by omega) (by omega)⟩,_,_,rfl,rfl,_,_,rfl,rfl,⟨ZBI (by omega) (by omega),ZBI (by omega) (by omega)⟩,_,_,rfl,rfl,(by show (0:Int)<_;decide),?_⟩
      generalize (y+1)*(48271+69621*c)%2147483647=x at m1 m2 ⊢
      have q1:=Int.emod_nonneg (x*(x%65521+c+3)) (show (2147483629:Int)≠0 by decide)
      have q2:=Int.emod_lt_of_pos (x*(x%65521+c+3)) (show (0:Int)<2147483629 by decide)
      refine ⟨_,rfl,_,rfl,_,_,rfl,rfl,(by show (0:Int)<_;decide),_,rfl,_,_,rfl,rfl,_,_,rfl,rfl,_,_,rfl,rfl,⟨ZBI (by omega) (by omega),ZBI (by omega) (by omega)⟩,_,_,rfl,rfl,(by show (0:Int)<_;decide),?_⟩
      generalize x*(x%65521+c+3)%2147483629=w' at q1 q2 ⊢
      refine ⟨_,rfl,_,rfl,_,_,rfl,rfl,(by show (0:Int)<_;decide),_,_,rfl,rfl,_,_,rfl,rfl,⟨ZBI (by omega) (by omega),ZBI (by omega) (by omega)⟩,_,_,rfl,rfl,(by show (0:Int)<_;decide),_,_,rfl,rfl,⟨by decide,by decide⟩,_,rfl,_,_,rfl,rfl,hm,?_⟩
      exact fin r _ H1 (Int.emod_nonneg _ (by omega)) (Int.emod_lt_of_pos _ hm) hp1 kp1
theorem ZEd:ZAS ["_law_pen_here"] ["_law_pen_here"] (ZAF ZA8):=⟨rfl,rfl,rfl,by decide +kernel,rfl,by decide +kernel,by decide +kernel⟩
theorem ZC3 (T:Txt w K mg t):ZBS P w K mg base CX0 3 t.f__law_drawn_cell t.d__law_drawn_cell ["_law_pen_here"] (ZQl K):=by
  have D:=T.c__law_drawn_cell
  refine D.fn.ok ZEd (fun vs H Q E h=>?_) (fun cdv A outer s H vs Q E hr h=>?_)
  · obtain ⟨p,n,S,rfl,_⟩:=h
    rfl
  · obtain ⟨p,n,S,rfl,hpen,hn,k⟩:=h
    refine ⟨_,((ZAG (ZAK (ZAb (ZAR (ZAN ZA3 (ZBh (ZAH ZAI (ZAH ZAI ZAB))) (ZAW T.c__law_take (ZAh T) (hr.mono (by decide)) (ZAA (pv 0) (ZAH ZAC ZAB))) (fun _ _=>rfl)) (ZAX (ZAZ ZA9 ZAC (ZAW T.c__law_take (ZAh T) (hr.mono (by decide)) (ZAA (pv 0) (ZAH ZAC ZAB)))) (ZAX (ZAZ ZA9 ZAC (ZAW T.c__law_take (ZAh T) (hr.mono (by decide)) (ZAA (pv 0) (ZAH ZAC ZAB)))) ZAB))))))),?_⟩
    refine ⟨ZAn,fun l hl=>?_⟩
    refine ⟨_,rfl,p,_,_,S,rfl,(by show (0:Int)<_;decide),ZBI (by decide) (by decide),(hpen.same (ZAM.new hl)),(by omega),fun r1 H1 a1 b1 pen1 kp1=>?_⟩
    obtain ⟨hl1,kq1⟩:=kpl hpen hl kp1
    obtain ⟨v,hv,hvm⟩:=at2 (x:=vS "main") (y:=vS "b") a1 b1
    obtain ⟨z,rfl,nz⟩:∃ z,v=V.str z∧Nm z:=by
      rcases hvm with rfl | rfl
      · exact ⟨_,rfl,ZKf⟩
      · exact ⟨_,rfl,ZSJ⟩
    refine ⟨l,_,_,_,rfl,rfl,SqL.of hl1,hv,?_⟩
    refine ⟨_,rfl,p,_,_,S,rfl,(by show (0:Int)<_;decide),ZBI (by decide) (by decide),pen1,(by omega),fun r2 H2 a2 b2 pen2 kp2=>⟨_,_,rfl,rfl,?_⟩⟩
    refine ⟨_,rfl,p,_,_,S,rfl,(by show (0:Int)<_;decide),ZBI (by decide) (by decide),pen2,(by omega),fun r3 H3 a3 b3 pen3 kp3=>⟨_,_,rfl,rfl,ZAk,fun q hq=>?_⟩⟩
    exact k q ⟨z,1+r2,1+r3⟩ _ ZAE nz (by show 1≤1+r2;omega) (by show 1+r2≤16;omega) (by show 1≤1+r3;omega) (by show 1+r3≤8;omega) (pen3.same (ZAM.new hq)) (((kq1.trans kp2).trans kp3).trans (ZAM.keep (ZAM.new hq)))
theorem ZCG:ZAS ["_law_pen_here","_law_way","_law_edge"] ["_law_pen_here"] (ZAF ZAy):=⟨rfl,rfl,rfl,by decide +kernel,rfl,by decide +kernel,by decide +kernel⟩
theorem ZD7 (T:Txt w K mg t):ZBS P w K mg base CX0 3 t.f__law_great_value t.d__law_great_value ["_law_pen_here"] (ZQn K):=by
  have D:=T.c__law_great_value
  refine D.fn.ok ZCG (fun vs H Q E h=>?_) (fun cdv A outer s H vs Q E hr h=>?_)
  · obtain ⟨p,n,S,rfl,_⟩:=h
    rfl
  · obtain ⟨p,n,S,rfl,hpen,hn,k⟩:=h
    refine ⟨_,((ZAD (ZAd (i:=1) ZCG.nd rfl (Or.inl rfl) (ZAW T.c__law_take (ZAh T) (hr.mono (by decide)) (ZAA (pv 0) (ZAH ZAC ZAB))))
      (ZAD (ZAj (ZAL ZAm (pv 1) ZAC (ZAO _)) (ZAG (ZAK (ZAW T.c__law_lowest (ZA4 T) (hr.mono (by decide)) (ZAX (ZAZ ZDC (ZAW T.c__law_take (ZAh T) (hr.mono (by decide)) (ZAA (pv 0) (ZAX (ZAZ ZAq ZAC (ZAZ ZFD ZAC ZAC)) ZAB))) (ZAZ ZFD ZAC ZAC)) (ZAX (ZAZ ZA9 ZAC (ZAW T.c__law_take (ZAh T) (hr.mono (by decide)) (ZAA (pv 0) (ZAX (ZAZ ZFD ZAC ZAC) ZAB)))) ZAB))))) ZAP)
      (ZAD (ZAd (i:=2) ZCG.nd rfl (Or.inl rfl) (ZAZ ZDC (ZAZ ZDC (ZAZ ZFD ZAC ZAC) ZAC) (ZAW T.c__law_take (ZAh T) (hr.mono (by decide)) (ZAA (pv 0) (ZAH ZAC ZAB)))))
      (ZAD (ZAj (ZAL ZAm (pv 1) ZAC (ZAO _)) (ZAG (ZAK (ZAb (ZAH ZAI (ZAX (ZAZ ZAq (pv 2) (ZAN ZA3 (ZBh (ZAH ZAC (ZGJ (ZLD ZIM ZAC) ZAB))) (ZAW T.c__law_take (ZAh T) (hr.mono (by decide)) (ZAA (pv 0) (ZAH ZAC ZAB))) (fun _ _=>rfl))) (ZAH ZAC ZAB)))))) ZAP)
      (ZAG (ZAK (ZAW T.c__law_lowest (ZA4 T) (hr.mono (by decide)) (ZAX (ZAZ ZA9 ZAC (ZAW T.c__law_take (ZAh T) (hr.mono (by decide)) (ZAA (pv 0) (ZAH ZAC ZAB)))) (ZAA (pv 2) ZAB)))))))))),?_⟩
    have e30:=n30
    refine ⟨_,rfl,p,_,_,S,rfl,(by show (0:Int)<_;decide),ZBI (by decide) (by decide),hpen,(by omega),fun r1 H1 a1 b1 pen1 kp1=>⟨_,rfl,rfl,_,rfl,ZDJ (fun c1=>?_) (fun c1=>?_)⟩⟩
    · refine ⟨_,rfl,_,_,rfl,rfl,⟨by decide,by decide,by decide⟩,_,_,rfl,rfl,⟨(ZLi (n:=200) (by decide)).mono (by decide),(ZLi (n:=200) (by decide)).mono (by decide)⟩,p,_,_,S,rfl,(by show (0:Int)<_;decide),(ZLi (n:=200) (by decide)).mono (by decide),pen1,(by omega),fun r2 H2 a2 b2 pen2 kp2=>?_⟩
      refine ⟨_,_,rfl,rfl,⟨by decide,by decide,by decide⟩,_,_,rfl,rfl,_,rfl,_,_,rfl,rfl,⟨by decide,by decide,by decide⟩,p,_,_,S,rfl,(by show (0:Int)<_;decide),(ZLi (n:=200) (by decide)).mono (by decide),pen2,(by omega),fun r3 H3 a3 b3 pen3 kp3=>⟨_,_,rfl,rfl,?_⟩⟩
      rw [p28] at b2 ⊢
      rw [p9] at b3
      refine ⟨_,_,rfl,(by omega),ZMS (by omega) (by omega),fun q hq=>k _ _ _ ZPU (ZIk (by omega) (by omega) (by omega)) ((pen3.same (ZAM.new hq)).mono (by omega)) (((kp1.trans kp2).trans kp3).trans (ZAM.keep (ZAM.new hq)))⟩
    · refine ⟨_,_,rfl,rfl,⟨by decide,by decide,by decide⟩,_,_,rfl,rfl,_,rfl,p,_,_,S,rfl,(by show (0:Int)<_;decide),ZBI (by decide) (by decide),pen1,(by omega),fun r2 H2 a2 b2 pen2 kp2=>⟨_,_,rfl,rfl,?_⟩⟩
      rw [p30]
      refine ⟨_,rfl,rfl,_,rfl,ZDJ (fun c2=>?_) (fun c2=>?_)⟩
      · refine ⟨_,rfl,1,rfl,ZAn,fun l hl=>⟨_,rfl,p,_,_,S,rfl,(by show (0:Int)<_;decide),ZBI (by decide) (by decide),(pen2.same (ZAM.new hl)),(by omega),fun r3 H3 a3 b3 pen3 kp3=>?_⟩⟩
        obtain ⟨hl3,kq3⟩:=kpl pen2 hl kp3
        obtain ⟨v,hv,hvm⟩:=at2 (x:=.int 1) (y:=.int (-1)) a3 b3
        obtain ⟨z,rfl,nz⟩:∃ z:Int,v=V.int z∧(z=1∨z = -1):=by
          rcases hvm with rfl | rfl
          · exact ⟨_,rfl,.inl rfl⟩
          · exact ⟨_,rfl,.inr rfl⟩
        refine ⟨l,_,_,_,rfl,rfl,SqL.of hl3,hv,_,_,rfl,rfl,⟨ZMS (by omega) (by omega),ZMS (by omega) (by omega)⟩,ZAk,fun q hq=>?_⟩
        refine k _ _ _ ZPU (ZOu ?_) ((pen3.same (ZAM.new hq)).mono (by omega)) (((kp1.trans kp2).trans kq3).trans (ZAM.keep (ZAM.new hq)))
        rcases nz with rfl | rfl
        · rw [Int.mul_one];omega
        · rw [Int.mul_neg,Int.mul_one];omega
      · refine ⟨_,rfl,p,_,_,S,rfl,(by show (0:Int)<_;decide),ZBI (by decide) (by decide),pen2,(by omega),fun r3 H3 a3 b3 pen3 kp3=>⟨_,_,rfl,rfl,_,rfl,?_⟩⟩
        exact ⟨_,_,rfl,(by omega),ZMS (by omega) (by omega),fun q hq=>k _ _ _ ZPU (ZIk (by omega) (by omega) (by omega)) ((pen3.same (ZAM.new hq)).mono (by omega)) (((kp1.trans kp2).trans kp3).trans (ZAM.keep (ZAM.new hq)))⟩
theorem ZBg:ZAS ["_law_pen_here","_law_way","_law_some","_law_words"] ["_law_pen_here"] (ZAF ZAz):=⟨rfl,rfl,rfl,by decide +kernel,rfl,by decide +kernel,by decide +kernel⟩
theorem ZCy (T:Txt w K mg t):ZBS P w K mg base CX0 4 t.f__law_drawn_value t.d__law_drawn_value ["_law_pen_here"] (ZQm K):=by
  have D:=T.c__law_drawn_value
  refine D.fn.ok ZBg (fun vs H Q E h=>?_) (fun cdv A outer s H vs Q E hr h=>?_)
  · obtain ⟨p,n,S,rfl,_⟩:=h
    rfl
  · obtain ⟨p,n,S,rfl,hpen,hn,k⟩:=h
    refine ⟨_,((ZAD (ZAd (i:=1) ZBg.nd rfl (Or.inl rfl) (ZAW T.c__law_take (ZAh T) (hr.mono (by decide)) (ZAA (pv 0) (ZAH ZAC ZAB))))
      (ZAD (ZAj (ZAL ZGC (pv 1) ZAC (ZAO _)) (ZAG (ZAK (ZAb (ZAH ZAI ZAB)))) ZAP)
      (ZAD (ZAj (ZAL ZGC (pv 1) ZAC (ZAO _)) (ZAG (ZAK (ZAW T.c__law_lowest (ZA4 T) (hr.mono (by decide)) (ZAX (ZAZ ZDC (ZAW T.c__law_take (ZAh T) (hr.mono (by decide)) (ZAA (pv 0) (ZAH ZAC ZAB))) ZAC) (ZAX (ZAZ ZA9 ZAC (ZAW T.c__law_take (ZAh T) (hr.mono (by decide)) (ZAA (pv 0) (ZAH ZAC ZAB)))) ZAB))))) ZAP)
      (ZAD (ZAj (ZAL ZAm (pv 1) ZAC (ZAO _)) (ZAG (ZAK (ZAW T.c__law_great_value (ZD7 T) (hr.mono (by decide)) (ZAA (pv 0) ZAB)))) ZAP)
      (ZAD (ZAj (ZAL ZGC (pv 1) ZAC (ZAO _)) (ZAD (ZAd (i:=2) ZBg.nd rfl (Or.inl rfl) (ZBh (ZAH ZAI (ZAH ZAI (ZAH ZAI (ZAH ZAI (ZAH ZAI (ZAH ZAI (ZAH ZAI (ZAH ZAI ZAB))))))))))
      (ZAG (ZAK (ZAb (ZAH ZAI (ZAR (ZAN ZA3 (pv 2) (ZAW T.c__law_take (ZAh T) (hr.mono (by decide)) (ZAA (pv 0) (ZAH ZAC ZAB))) (fun _ _=>rfl)) ZAB)))))) ZAP)
      (ZAD (ZAj (ZAL ZGC (pv 1) ZAC (ZAO _)) (ZAG (ZAK (ZAb (ZAH ZAI (ZCg (ZBB ZAm (ZAW T.c__law_take (ZAh T) (hr.mono (by decide)) (ZAA (pv 0) (ZAH ZAC ZAB))) ZAC (ZAO _)) ZAB))))) ZAP)
      (ZAD (ZAd (i:=3) ZBg.nd rfl (Or.inl rfl) (ZBh (ZAH ZAI (ZAH ZAI (ZAH ZAI (ZAH ZAI (ZAH ZAI (ZAH ZAI (ZAH ZAI (ZAH ZAI (ZAH ZAI ZAB)))))))))))
      (ZAG (ZAK (ZAb (ZAH ZAI (ZAR (ZAN ZA3 (pv 3) (ZAW T.c__law_take (ZAh T) (hr.mono (by decide)) (ZAA (pv 0) (ZAH ZAC ZAB))) (fun _ _=>rfl)) (ZAg (ZAW T.c__law_drawn_cell (ZC3 T) (hr.mono (by decide)) (ZAA (pv 0) ZAB)) ZAB)))))))))))))),?_⟩
    have e30:=n30
    refine ⟨_,rfl,p,_,_,S,rfl,(by show (0:Int)<_;decide),ZBI (by decide) (by decide),hpen,(by omega),fun r1 H1 a1 b1 pen1 kp1=>⟨_,rfl,_,_,rfl,rfl,_,rfl,ZDJ (fun c1=>?_) (fun c1=>?_)⟩⟩
    · exact ⟨(by show 1≤sizeLine;decide),fun q hq=>k (.ref q) .none _ ⟨q,rfl,ZAE⟩ trivial ((pen1.same (ZAM.new hq)).mono (by omega)) (kp1.trans (ZAM.keep (ZAM.new hq)))⟩
    refine ⟨_,rfl,_,_,rfl,rfl,_,rfl,ZDJ (fun c2=>?_) (fun c2=>?_)⟩
    · refine ⟨_,rfl,p,_,_,S,rfl,(by show (0:Int)<_;decide),ZBI (by decide) (by decide),pen1,(by omega),fun r2 H2 a2 b2 pen2 kp2=>⟨_,_,rfl,rfl,_,rfl,p,_,_,S,rfl,(by show (0:Int)<_;decide),ZBI (by decide) (by decide),pen2,(by omega),fun r3 H3 a3 b3 pen3 kp3=>⟨_,_,rfl,rfl,?_⟩⟩⟩
      exact ⟨_,_,rfl,(by omega),ZMS (by omega) (by omega),fun q hq=>k _ _ _ ZPU (ZIk (by omega) (by omega) (by omega)) ((pen3.same (ZAM.new hq)).mono (by omega)) (((kp1.trans kp2).trans kp3).trans (ZAM.keep (ZAM.new hq)))⟩
    refine ⟨_,rfl,rfl,_,rfl,ZDJ (fun c3=>?_) (fun c3=>?_)⟩
    · exact ⟨_,rfl,p,_,S,rfl,pen1,(by omega),fun u v H' hv ok pen' kp'=>k u v H' hv ok (pen'.mono (by omega)) (kp1.trans kp')⟩
    refine ⟨_,rfl,_,_,rfl,rfl,_,rfl,ZDJ (fun c4=>?_) (fun c4=>?_)⟩
    · refine ⟨(by show 8≤sizeLine;decide),fun l hl=>⟨_,rfl,_,rfl,p,_,_,S,rfl,(by show (0:Int)<_;decide),ZBI (by decide) (by decide),(pen1.same (ZAM.new hl)),(by omega),fun r2 H2 a2 b2 pen2 kp2=>?_⟩⟩
      obtain ⟨hl2,kq2⟩:=kpl pen1 hl kp2
      obtain ⟨v,hv,hvm⟩:=atR (xs:=ZH4) a2 b2
      obtain ⟨z,rfl,nz⟩:=ZJF v hvm
      exact ⟨l,_,_,_,rfl,rfl,SqL.of hl2,hv,ZAn,fun q hq=>k (.ref q) (.txt z) _ ⟨q,rfl,ZAE⟩ nz ((pen2.same (ZAM.new hq)).mono (by omega)) ((kp1.trans kq2).trans (ZAM.keep (ZAM.new hq)))⟩
    refine ⟨_,rfl,_,_,rfl,rfl,_,rfl,ZDJ (fun c5=>?_) (fun c5=>?_)⟩
    · exact ⟨_,rfl,p,_,_,S,rfl,(by show (0:Int)<_;decide),ZBI (by decide) (by decide),pen1,(by omega),fun r2 H2 a2 b2 pen2 kp2=>⟨rfl,ZAn,fun q hq=>k (.ref q) (.tru _) _ ⟨q,rfl,ZAE⟩ trivial ((pen2.same (ZAM.new hq)).mono (by omega)) ((kp1.trans kp2).trans (ZAM.keep (ZAM.new hq)))⟩⟩
    · refine ⟨(by show 9≤sizeLine;decide),fun l hl=>⟨_,rfl,_,rfl,p,_,_,S,rfl,(by show (0:Int)<_;decide),ZBI (by decide) (by decide),(pen1.same (ZAM.new hl)),(by omega),fun r2 H2 a2 b2 pen2 kp2=>?_⟩⟩
      obtain ⟨hl2,kq2⟩:=kpl pen1 hl kp2
      obtain ⟨v,hv,hvm⟩:=atR (xs:=ZDS.map V.str) a2 b2
      obtain ⟨w',rfl,nz⟩:=ZJG hvm
      refine ⟨l,_,_,_,rfl,rfl,SqL.of hl2,hv,_,rfl,p,_,S,rfl,pen2,(by omega),fun q h H3 hq nm x1 x2 x3 x4 pen3 kp3=>⟨ZAk,fun q2 hq2=>?_⟩⟩
      exact k (.ref q2) (.flt w' h.z h.r h.c) _ ⟨q2,rfl,q,ZAE,ZAM.new hq2 _ _ hq⟩ ⟨nz,nm,x1,x2,x3,x4⟩ ((pen3.same (ZAM.new hq2)).mono (by omega)) (((kp1.trans kq2).trans kp3).trans (ZAM.keep (ZAM.new hq2)))
theorem ZCV:ZAS ["_law_known","_law_sheet","_law_table","_law_high","_law_wide","_law_j","_law_row","_law_k","_law_one","_law_first"] ["_law_known","_law_sheet","_law_table","_law_high","_law_wide"] (ZAF ZCT):=⟨rfl,rfl,rfl,by decide +kernel,rfl,by decide +kernel,by decide +kernel⟩
theorem ZHb (T:Txt w K mg t):ZBS P w K mg base CX0 1 t.f__law_laid t.d__law_laid ["_law_known","_law_sheet","_law_table","_law_high","_law_wide"] (ZQo K):=by
  have D:=T.c__law_laid
  refine D.fn.ok ZCV (fun vs H Q E h=>?_) (fun cdv A outer s H vs Q E hr h=>?_)
  · obtain ⟨kn,l,z,hi,wi,kvs,bs,rows,h_,w_,rfl,_⟩:=h
    rfl
  · obtain ⟨kn,l,z,hi,wi,kvs,bs,rows,h_,w_,rfl,hkn,hk5,hl,ls,hlen,h1,h16,w1,w8,hw,k⟩:=h
    have hu1:=ZHA hr
    refine ⟨_,((ZAD (ZC1 PassesOwn.never rfl (ZJ4 rfl T.enumerate ZEf (ZAA (pv 2) ZAB)) (ZGx rfl (ZB0 (ZA2 (i:=5) ZCV.nd rfl (Or.inl rfl)) (ZB0 (ZA2 (i:=6) ZCV.nd rfl (Or.inl rfl)) ZER)))
      (ZAG (ZC1 PassesOwn.never rfl (ZJ4 rfl T.enumerate ZEf (ZAA (pv 6) ZAB)) (ZGx rfl (ZB0 (ZA2 (i:=7) ZCV.nd rfl (Or.inl rfl)) (ZB0 (ZA2 (i:=8) ZCV.nd rfl (Or.inl rfl)) ZER)))
      (ZAG (ZJ2 hu1 (pv 0) (ZAb (ZAA (pv 1) (ZAX (ZAZ ZA9 (ZAZ ZA9 (pv 3) (pv 5)) ZAC) (ZAX (ZAZ ZA9 (ZAZ ZA9 (pv 4) (pv 7)) ZAC) ZAB)))) (pv 8) rfl)))))
      (ZAD (ZAd (i:=9) ZCV.nd rfl (Or.inl rfl) (ZAb (ZAX (ZAZ ZA9 (pv 3) ZAC) (ZAX (ZAZ ZA9 (pv 4) ZAC) (ZAH ZFi (ZAH ZFi ZAB))))))
      (ZAD (ZAj (ZE7 (ZAL ZAm (ZAU ZAe (by rfl) T.len PySem.boot_len (ZAA (pv 2) ZAB)) ZAC (ZAO _)) (ZE6 (ZAL ZAm (ZAU ZAe (by rfl) T.len PySem.boot_len (ZAR (ZAN ZA3 (pv 2) ZAC (fun _ _=>rfl)) ZAB)) ZAC (ZAO _)))).pt (ZAG (ZAK (ZAb (ZAH ZAI (ZAA (pv 1) (ZAA (pv 9) ZAB)))))) ZAP)
      (ZAG (ZAK (ZAb (ZAH ZAI (ZAA (pv 1) (ZAA (pv 9) (ZAp (ZAb (ZAX (ZAZ ZA9 (pv 3) (ZAU ZAe (by rfl) T.len PySem.boot_len (ZAA (pv 2) ZAB))) (ZAX (ZAZ ZA9 (pv 4) (ZAU ZAe (by rfl) T.len PySem.boot_len (ZAR (ZAN ZA3 (pv 2) ZAC (fun _ _=>rfl)) ZAB))) (ZAH ZFi (ZAH ZFi ZAB))))) ZAB))))))))))),?_⟩
    have bl:bs.length=h_:=by rw [Paired.length ls,hlen]
    have nkl:l≠kn:=ZCH hl hkn (by intro z;cases z)
    have nkb:∀ b row,H b=some (.lst row)→b≠kn:=fun b row e=>ZCH e hkn (by intro z;cases z)
    refine ZHO fun N hN=>?_
    refine ⟨_,rfl,l,rfl,⟨_,SqL.of hl⟩,?_⟩
    refine ZIV (xs:=bs.map V.ref) (fun i σ H2=>∃ x5 x6 x7 x8 kv2,σ=[some (.ref kn),some (.str z),some (.ref l),some (.int hi),some (.int wi),x5,x6,x7,x8,none]∧H2 kn=some (.dT kv2)∧kv2.length≤kvs.length+i*w_∧ZH5 kv2 z hi wi rows i 0∧ZLn kvs kv2 z∧ZAl kn H H2)
      ⟨none,none,none,none,kvs,rfl,hkn,by omega,fun a b row v _ _ h3=>by omega,fun _ _=>rfl,ZAl.refl _ _⟩ ?_ ?_ ?_
    · rintro i σ H2 _ ⟨x5,x6,x7,x8,kv2,rfl,_,_,_,_,kp2⟩
      exact SqL.of (kp2 _ _ nkl hl)
    · rintro i x σ H2 b hx ⟨x5,x6,x7,x8,kv2,rfl,hk2,len2,la2,el2,kp2⟩ hb
      rw [List.getElem?_map] at hx
      obtain ⟨b0,hb0,rfl⟩:∃ b0,bs[i]?=some b0∧x=.ref b0:=by
        cases e:bs[i]? with
        | none=>rw [e] at hx;cases hx
        | some b0=>rw [e] at hx;cases hx;exact ⟨b0,rfl,rfl⟩
      obtain ⟨row,hrow,hbr⟩:=ZBA ls hb0
      have hi16:i<h_:=by have:=(List.getElem?_eq_some_iff.mp hb0).1;omega
      have hiw:i*w_≤16*8:=Nat.mul_le_mul (by omega) w8
      have rl:=hw row (List.mem_of_getElem? hrow)
      have s3:ZAM H2 (upd H2 b (.tup [.int i,.ref b0])):=ZAM.new hb
      have hb3:upd H2 b (.tup [.int i,.ref b0]) b=some (.tup [.int i,.ref b0]):=ZAE
      generalize upd H2 b (.tup [.int i,.ref b0])=H3 at *
      have hk3:=s3 _ _ hk2
      have kp3:ZAl kn H H3:=kp2.trans (ZAM.keep s3)
      refine ⟨b,_,rfl,SqT.of hb3,rfl,_,_,rfl,_,_,rfl,rfl,?_⟩
      refine ⟨_,rfl,b0,rfl,⟨_,SqL.of (kp3 _ _ (nkb _ _ hbr) hbr)⟩,?_⟩
      refine ZIV (xs:=row) (fun j σ H4=>∃ x7 x8 kv4,σ=[some (.ref kn),some (.str z),some (.ref l),some (.int hi),some (.int wi),some (.int i),some (.ref b0),x7,x8,none]∧H4 kn=some (.dT kv4)∧kv4.length≤kvs.length+i*w_+j∧ZH5 kv4 z hi wi rows i j∧ZLn kvs kv4 z∧ZAl kn H H4)
        ⟨x7,x8,kv2,rfl,hk3,by omega,la2,el2,kp3⟩ ?_ ?_ ?_
      · rintro j σ H4 _ ⟨x7,x8,kv4,rfl,_,_,_,_,kp4⟩
        exact SqL.of (kp4 _ _ (nkb _ _ hbr) hbr)
      · rintro j v σ H4 b4 hv ⟨x7,x8,kv4,rfl,hk4,len4,la4,el4,kp4⟩ hb4
        have hj:j<w_:=by have:=(List.getElem?_eq_some_iff.mp hv).1;omega
        have s5:ZAM H4 (upd H4 b4 (.tup [.int j,v])):=ZAM.new hb4
        have hb5:upd H4 b4 (.tup [.int j,v]) b4=some (.tup [.int j,v]):=ZAE
        generalize upd H4 b4 (.tup [.int j,v])=H5 at *
        have hk5':=s5 _ _ hk4
        refine ⟨b4,_,rfl,SqT.of hb5,rfl,_,_,rfl,_,_,rfl,rfl,?_⟩
        refine ⟨_,rfl,_,rfl,_,rfl,_,rfl,_,rfl,_,_,rfl,rfl,_,_,rfl,rfl,_,rfl,_,rfl,_,_,rfl,rfl,_,_,rfl,rfl,ZAk,fun q hq=>?_⟩
        have nq:kn≠q:=ZAY hk5' hq
        refine ⟨kn,_,rfl,ZLI.t (k:=cK z (hi+i+1) (wi+j+1)) (ZAM.new hq _ _ hk5') ZAE (ZDM (by omega)),?_⟩
        refine ⟨_,_,_,rfl,ZAE,?_,la4.next hrow hv,el4.put,fun b' o hb' e=>?_⟩
        · have:=ZDz kv4 (cK z (hi+i+1) (wi+j+1)) v
          omega
        · rw [ZAa hb'];exact ZAM.new hq _ _ (s5 _ _ (kp4 _ _ hb' e))
      · rintro σ H4 ⟨x7,x8,kv4,rfl,hk4,len4,la4,el4,kp4⟩
        exact ⟨_,_,_,_,kv4,rfl,hk4,by rw [Nat.succ_mul];omega,la4.row hrow (Nat.le_refl _),el4,kp4⟩
    · rintro σ H2 ⟨x5,x6,x7,x8,kv2,rfl,hk2,len2,la2,el2,kp2⟩
      refine hN _ _ ?_
      rw [List.length_map,bl] at len2 la2
      have hl2:=kp2 _ _ nkl hl
      refine ⟨_,rfl,_,_,rfl,rfl,_,rfl,_,_,rfl,rfl,(by show 4≤sizeLine;decide),fun q hq=>?_⟩
      have s3:ZAM H2 (upd H2 q (.tup (ZK8 ⟨hi+1,wi+1,true,false⟩))):=ZAM.new hq
      have hq3:upd H2 q (.tup (ZK8 ⟨hi+1,wi+1,true,false⟩)) q=some (.tup (ZK8 ⟨hi+1,wi+1,true,false⟩)):=ZAE
      generalize upd H2 q (.tup (ZK8 ⟨hi+1,wi+1,true,false⟩))=H3 at *
      have hl3:=s3 _ _ hl2
      obtain ⟨b0,bt,rfl⟩:=ZDb (l:=bs) (by omega)
      obtain ⟨r0,rt,rfl⟩:=ZDb (l:=rows) (by omega)
      have hb0:H b0=some (.lst r0):=by cases ls with | cons h _=>exact h
      have hb3:=s3 _ _ (kp2 _ _ (nkb _ _ hb0) hb0)
      have r0l:=hw r0 List.mem_cons_self
      have kp3:ZAl kn H H3:=kp2.trans (ZAM.keep s3)
      refine ⟨_,rfl,l,_,rfl,.inl (SqL.of hl3),rfl,_,rfl,?_⟩
      refine ZDJ (fun c1=>?_) (fun c1=>ZAo ?_)
      · refine ⟨_,rfl,l,_,_,_,rfl,rfl,SqL.of hl3,ZAc,b0,_,rfl,.inl (SqL.of hb3),rfl,_,rfl,ZDJ (fun c2=>?_) (fun c2=>?_)⟩
        · have e1:(((b0::bt).map V.ref).length:Int)=1:=by have:=of_decide_eq_true c1;injection this
          have e2:(r0.length:Int)=1:=by have:=of_decide_eq_true c2;injection this
          rw [List.length_map] at e1
          refine ⟨_,rfl,_,rfl,ZAk,fun a ha=>?_⟩
          exact k a (.cell (some z) ⟨hi+1,wi+1,true,false⟩) _ _ kv2 _ (ZAM.new ha _ _ (s3 _ _ hk2)) len2 la2 el2 ⟨q,ZAE,ZAM.new ha _ _ hq3⟩ rfl rfl rfl (by show hi+1=hi+h_;omega) (by show wi+1=wi+w_;omega) (kp3.trans (ZAM.keep (ZAM.new ha)))
        · refine ⟨_,rfl,_,rfl,_,rfl,_,rfl,l,_,rfl,.inl (SqL.of hl3),_,_,rfl,rfl,_,rfl,_,rfl,l,_,_,_,rfl,rfl,SqL.of hl3,ZAc,b0,_,rfl,.inl (SqL.of hb3),_,_,rfl,rfl,(by show 4≤sizeLine;decide),fun u hu'=>⟨(by show 4≤sizeLine;decide),fun a ha=>?_⟩⟩
          have e1:(((b0::bt).map V.ref).length:Int)=h_:=by rw [List.length_map];omega
          have e2:(r0.length:Int)=w_:=by omega
          exact k a (.rng (some z) ⟨hi+1,wi+1,true,false⟩ ⟨hi+((b0::bt).map V.ref).length,wi+r0.length,false,false⟩) _ _ kv2 _ (ZAM.new ha _ _ (ZAM.new hu' _ _ (s3 _ _ hk2))) len2 la2 el2 ⟨q,u,ZAE,ZAM.new ha _ _ (ZAM.new hu' _ _ hq3),ZAM.new ha _ _ ZAE⟩ rfl rfl rfl (by show hi+_=hi+h_;rw [e1]) (by show wi+_=wi+w_;rw [e2]) (kp3.trans (ZAM.keep ((ZAM.new hu').trans (ZAM.new ha))))
      · refine ⟨_,rfl,_,rfl,_,rfl,_,rfl,l,_,rfl,.inl (SqL.of hl3),_,_,rfl,rfl,_,rfl,_,rfl,l,_,_,_,rfl,rfl,SqL.of hl3,ZAc,b0,_,rfl,.inl (SqL.of hb3),_,_,rfl,rfl,(by show 4≤sizeLine;decide),fun u hu'=>⟨(by show 4≤sizeLine;decide),fun a ha=>?_⟩⟩
        have e1:(((b0::bt).map V.ref).length:Int)=h_:=by rw [List.length_map];omega
        have e2:(r0.length:Int)=w_:=by omega
        exact k a (.rng (some z) ⟨hi+1,wi+1,true,false⟩ ⟨hi+((b0::bt).map V.ref).length,wi+r0.length,false,false⟩) _ _ kv2 _ (ZAM.new ha _ _ (ZAM.new hu' _ _ (s3 _ _ hk2))) len2 la2 el2 ⟨q,u,ZAE,ZAM.new ha _ _ (ZAM.new hu' _ _ hq3),ZAM.new ha _ _ ZAE⟩ rfl rfl rfl (by show hi+_=hi+h_;rw [e1]) (by show wi+_=wi+w_;rw [e2]) (kp3.trans (ZAM.keep ((ZAM.new hu').trans (ZAM.new ha))))
theorem ZFe:ZAS ["_law_pen_here","_law_known","_law_sheet","_law_table"] ["_law_pen_here","_law_known","_law_sheet","_law_table"] (ZAF ZBP):=⟨rfl,rfl,rfl,by decide +kernel,rfl,by decide +kernel,by decide +kernel⟩
theorem ZDV (T:Txt w K mg t):ZBS P w K mg base CX0 3 t.f__law_put_down t.d__law_put_down ["_law_pen_here","_law_known","_law_sheet","_law_table"] (ZQp K):=by
  have D:=T.c__law_put_down
  refine D.fn.ok ZFe (fun vs H Q E h=>?_) (fun cdv A outer s H vs Q E hr h=>?_)
  · obtain ⟨p,kn,l,z,kvs,bs,rows,h_,w_,n,S,rfl,_⟩:=h
    rfl
  · obtain ⟨p,kn,l,z,kvs,bs,rows,h_,w_,n,S,rfl,hpen,hn,hkn,hk8,hl,lp,npb,ls,hlen,h1,h16,w1,w8,hw,k⟩:=h
    refine ⟨_,((ZAG (ZAK (ZAW T.c__law_laid (ZHb T) (hr.mono (by decide)) (ZAA (pv 1) (ZAA (pv 2) (ZAA (pv 3) (ZAg (ZAW T.c__law_take (ZAh T) (hr.mono (by decide)) (ZAA (pv 0) (ZAX (ZAZ ZDC ZAC (ZAU ZAe (by rfl) T.len PySem.boot_len (ZAA (pv 3) ZAB))) ZAB))) (ZAg (ZAW T.c__law_take (ZAh T) (hr.mono (by decide)) (ZAA (pv 0) (ZAX (ZAZ ZDC ZAC (ZAU ZAe (by rfl) T.len PySem.boot_len (ZAR (ZAN ZA3 (pv 3) ZAC (fun _ _=>rfl)) ZAB))) ZAB))) ZAB))))))))),?_⟩
    have bl:bs.length=h_:=by rw [Paired.length ls,hlen]
    have nkp:kn≠p:=by obtain ⟨_,eo⟩:=hpen.ob;exact ZCH hkn eo (by intro z;cases z)
    have e1:(((bs.map V.ref).length:Nat):Int)=h_:=by rw [List.length_map];omega
    refine ⟨_,rfl,_,rfl,_,rfl,_,rfl,_,rfl,l,_,rfl,.inl (SqL.of hl),_,_,rfl,rfl,p,_,_,S,rfl,(by rw [e1];omega),(by rw [e1];exact ZBI (by omega) (by omega)),hpen,(by omega),fun r1 H1 a1 b1 pen1 kp1=>?_⟩
    rw [e1] at b1
    have hl1:=kp1 _ _ lp hl
    obtain ⟨b0,bt,rfl⟩:=ZDb (l:=bs) (by omega)
    obtain ⟨r0,rt,rfl⟩:=ZDb (l:=rows) (by omega)
    have ls1:ZMT H1 (b0::bt) (r0::rt):=ZSK ls fun b row hb e=>kp1 _ _ (fun z=>npb (z▸hb)) e
    have hb0:H1 b0=some (.lst r0):=by cases ls1 with | cons h _=>exact h
    have r0l:=hw r0 List.mem_cons_self
    refine ⟨_,rfl,_,rfl,l,_,_,_,rfl,rfl,SqL.of hl1,ZAc,b0,_,rfl,.inl (SqL.of hb0),_,_,rfl,rfl,p,_,_,S,rfl,(by rw [r0l];omega),(by rw [r0l];exact ZBI (by omega) (by omega)),pen1,(by omega),fun r2 H2 a2 b2 pen2 kp2=>?_⟩
    rw [r0l] at b2
    have kp12:=kp1.trans kp2
    have ls2:ZMT H2 (b0::bt) (r0::rt):=ZSK ls fun b row hb e=>kp12 _ _ (fun z=>npb (z▸hb)) e
    have hk2:=kp12 _ _ nkp hkn
    refine ⟨kn,l,z,r1,r2,kvs,b0::bt,r0::rt,h_,w_,rfl,hk2,hk8,kp12 _ _ lp hl,ls2,hlen,h1,h16,w1,w8,hw,fun a lf c d kvs' H' x1 x2 x3 x4 x5 x6 x7 x8 x9 x10 kp'=>?_⟩
    exact k a lf c d r1 r2 kvs' H' x1 x2 x3 x4 x5 x6 x7 x8 x9 x10 a1 (by omega) a2 (by omega) (pen2.kx hk2 kp') (fun b o hb hb' e=>kp' _ _ hb' (kp12 _ _ hb e))
theorem ZC4:ZAS ["_law_told","_law_due"] ["_law_told","_law_due"] (ZAF ZA0):=⟨rfl,rfl,rfl,by decide +kernel,rfl,by decide +kernel,by decide +kernel⟩
theorem ZD8 (T:Txt w K mg t):∀ n:Nat,ZBS P w K mg base CX0 (n+1) t.f__law_typed_alike t.d__law_typed_alike ["_law_told","_law_due"] (ZQq n):=by
  have D:=T.c__law_typed_alike
  intro n
  induction n with
  | zero=>
    refine D.fn.ok ZC4 (fun vs H Q E h=>?_) (fun cdv A outer s H vs Q E hr h=>?_)
    · obtain ⟨u,v,tr,rfl,_⟩:=h
      rfl
    · obtain ⟨u,v,tr,rfl,h1,h2,k⟩:=h
      have hu1:=ZHA hr
      have ih:ZBS P w K mg base CX0 0 t.f__law_typed_alike t.d__law_typed_alike ["_law_told","_law_due"] (fun _ _ _ _=>False):=⟨fun _ _ _ _ z=>z.elim,fun _ _ _ _ _ _ _ _ _ _ _ _ _ z=>z.elim⟩
      refine ⟨_,((ZAD (ZAj (ZCd (ZAU ZAi (by rfl) T.isinstance ZAV (ZAA (pv 1) (ZAA (ZBz T.tuple ZCl) ZAB)))) (ZAD (ZAj (ZFj (ZII (ZCd (ZAU ZAi (by rfl) T.isinstance ZAV (ZAA (pv 0) (ZAA (ZBz T.tuple ZCl) ZAB))))) (ZDq (ZAL ZHk (ZAU ZAe (by rfl) T.len PySem.boot_len (ZAA (pv 0) ZAB)) (ZAU ZAe (by rfl) T.len PySem.boot_len (ZAA (pv 1) ZAB)) (ZAO _)))).pt (ZAG (ZAK ZFi)) ZAP)
      (ZAG (ZAK (ZAU (ZGK rfl) (by rfl) T.all ZGL (ZDK (ZDZ (fv:=["_law_told","_law_due"]) (js:=[0,1]) (cl:=[("_law_told",s.heap.objs.size+1),("_law_due",s.heap.objs.size+2)]) rfl (by with_unfolding_all rfl) ⟨rfl,by decide +kernel,by decide +kernel,rfl,by decide +kernel,by decide +kernel,(List.forall_mem_cons.mpr ⟨⟨rfl,rfl,rfl⟩,(List.forall_mem_cons.mpr ⟨⟨rfl,rfl,rfl⟩,(List.forall_mem_nil _)⟩)⟩),(List.forall_mem_cons.mpr ⟨rfl,(List.forall_mem_cons.mpr ⟨rfl,(List.forall_mem_nil _)⟩)⟩),(.cons rfl (.cons rfl .nil))⟩ (ZE9 rfl T.range (ZAg (ZAU ZAe (by rfl) T.len PySem.boot_len (ZAA (pv 1) ZAB)) ZAB)) (fun _ _ _ _ _=>ZFG) (fun _ _ _ _ _=>(ZAW T.c__law_typed_alike ih (hr.mono (by omega)) (ZAR (ZAN ZDL (pv 1) (pv 0) (fun _ _=>rfl)) (ZAR (ZAN ZDL (pv 2) (pv 0) (fun _ _=>rfl)) ZAB))))) ZAB))))) ZAP)
      (ZAD (ZAj (ZFj (ZCd (ZAU ZAi (by rfl) T.isinstance ZAV (ZAA (pv 1) (ZAA (ZBz T.bool ZCD) ZAB)))) (ZDq (ZCd (ZAU ZAi (by rfl) T.isinstance ZAV (ZAA (pv 0) (ZAA (ZBz T.bool ZCD) ZAB)))))).pt (ZAG (ZAK (ZDB (ZAU ZAi (by rfl) T.isinstance ZAV (ZAA (pv 1) (ZAA (ZBz T.bool ZCD) ZAB))) (ZDB (ZAU ZAi (by rfl) T.isinstance ZAV (ZAA (pv 0) (ZAA (ZBz T.bool ZCD) ZAB))) (ZDW (ZBB ZAm (pv 0) (pv 1) (ZAO _))))))) ZAP)
      (ZAD (ZAj (ZCd (ZAU ZAi (by rfl) T.isinstance ZAV (ZAA (pv 1) (ZAA (ZBz T.int ZCh) ZAB)))) (ZAG (ZAK (ZDB (ZAU ZAi (by rfl) T.isinstance ZAV (ZAA (pv 0) (ZAA (ZBz T.int ZCh) ZAB))) (ZDW (ZBB ZAm (pv 0) (pv 1) (ZAO _)))))) ZAP)
      (ZAG (ZAK (ZDB (ZAU ZAi (by rfl) T.isinstance ZAV (ZAA (pv 0) (ZAA (ZBz T.str ZDk) ZAB))) (ZDW (ZBB ZAm (pv 0) (pv 1) (ZAO _)))))))))),?_⟩
      refine ZNP fun X hX=>?_
      cases h1 with
      | bl b=>
        cases h2
        refine hX ?_
        refine ⟨_,rfl,_,_,_,_,false,rfl,.bl _,rfl,(fun _=>.inr trivial),T.ki_bt,false,rfl,ZAo ?_⟩
        refine ⟨_,rfl,_,_,_,_,true,rfl,.bl _,rfl,(fun _=>.inr trivial),ZCe _ _,true,rfl,ZBR (ZBR ?_)⟩
        refine ⟨_,rfl,_,_,_,_,true,rfl,.bl _,rfl,(fun _=>.inr trivial),ZCe _ _,true,rfl,ZBR ?_⟩
        refine ⟨_,rfl,_,_,_,_,true,rfl,.bl _,rfl,(fun _=>.inr trivial),ZCe _ _,true,rfl,ZBR ?_⟩
        exact ⟨_,rfl,_,rfl,rfl,rtv (by simp) (k _ (ZAM.refl _))⟩
      | int i=>
        cases h2
        refine hX ?_
        refine ⟨_,rfl,_,_,_,_,false,rfl,.int _,rfl,(fun _=>.inr trivial),T.kiit,false,rfl,ZAo ?_⟩
        refine ⟨_,rfl,_,_,_,_,false,rfl,.int _,rfl,(fun _=>.inr trivial),T.kib,false,rfl,ZAo ?_⟩
        refine ⟨_,rfl,_,_,_,_,false,rfl,.int _,rfl,(fun _=>.inr trivial),T.kib,false,rfl,ZAo ?_⟩
        refine ⟨_,rfl,_,_,_,_,true,rfl,.int _,rfl,(fun _=>.inr trivial),ZCe _ _,true,rfl,ZBR ?_⟩
        refine ⟨_,rfl,_,_,_,_,true,rfl,.int _,rfl,(fun _=>.inr trivial),ZCe _ _,true,rfl,ZBR ?_⟩
        exact ⟨_,rfl,_,rfl,rfl,rtv (by simp) (k _ (ZAM.refl _))⟩
      | str z=>
        cases h2
        refine hX ?_
        refine ⟨_,rfl,_,_,_,_,false,rfl,.str _,rfl,(fun _=>.inr trivial),T.kist,false,rfl,ZAo ?_⟩
        refine ⟨_,rfl,_,_,_,_,false,rfl,.str _,rfl,(fun _=>.inr trivial),T.ki_sb,false,rfl,ZAo ?_⟩
        refine ⟨_,rfl,_,_,_,_,false,rfl,.str _,rfl,(fun _=>.inr trivial),T.ki_sb,false,rfl,ZAo ?_⟩
        refine ⟨_,rfl,_,_,_,_,false,rfl,.str _,rfl,(fun _=>.inr trivial),T.ki_si,false,rfl,ZAo ?_⟩
        refine ⟨_,rfl,_,_,_,_,true,rfl,.str _,rfl,(fun _=>.inr trivial),ZCe _ _,true,rfl,ZBR ?_⟩
        exact ⟨_,rfl,_,rfl,rfl,rtv (by simp) (k _ (ZAM.refl _))⟩
  | succ n ih=>
    refine D.fn.ok ZC4 (fun vs H Q E h=>?_) (fun cdv A outer s H vs Q E hr h=>?_)
    · obtain ⟨u,v,tr,rfl,_⟩:=h
      rfl
    · obtain ⟨u,v,tr,rfl,h1,h2,k⟩:=h
      have hu1:=ZHA hr
      refine ⟨_,((ZAD (ZAj (ZCd (ZAU ZAi (by rfl) T.isinstance ZAV (ZAA (pv 1) (ZAA (ZBz T.tuple ZCl) ZAB)))) (ZAD (ZAj (ZFj (ZII (ZCd (ZAU ZAi (by rfl) T.isinstance ZAV (ZAA (pv 0) (ZAA (ZBz T.tuple ZCl) ZAB))))) (ZDq (ZAL ZHk (ZAU ZAe (by rfl) T.len PySem.boot_len (ZAA (pv 0) ZAB)) (ZAU ZAe (by rfl) T.len PySem.boot_len (ZAA (pv 1) ZAB)) (ZAO _)))).pt (ZAG (ZAK ZFi)) ZAP)
      (ZAG (ZAK (ZAU (ZGK rfl) (by rfl) T.all ZGL (ZDK (ZDZ (fv:=["_law_told","_law_due"]) (js:=[0,1]) (cl:=[("_law_told",s.heap.objs.size+1),("_law_due",s.heap.objs.size+2)]) rfl (by with_unfolding_all rfl) ⟨rfl,by decide +kernel,by decide +kernel,rfl,by decide +kernel,by decide +kernel,(List.forall_mem_cons.mpr ⟨⟨rfl,rfl,rfl⟩,(List.forall_mem_cons.mpr ⟨⟨rfl,rfl,rfl⟩,(List.forall_mem_nil _)⟩)⟩),(List.forall_mem_cons.mpr ⟨rfl,(List.forall_mem_cons.mpr ⟨rfl,(List.forall_mem_nil _)⟩)⟩),(.cons rfl (.cons rfl .nil))⟩ (ZE9 rfl T.range (ZAg (ZAU ZAe (by rfl) T.len PySem.boot_len (ZAA (pv 1) ZAB)) ZAB)) (fun _ _ _ _ _=>ZFG) (fun _ _ _ _ _=>(ZAW T.c__law_typed_alike ih (hr.mono (by omega)) (ZAR (ZAN ZDL (pv 1) (pv 0) (fun _ _=>rfl)) (ZAR (ZAN ZDL (pv 2) (pv 0) (fun _ _=>rfl)) ZAB))))) ZAB))))) ZAP)
      (ZAD (ZAj (ZFj (ZCd (ZAU ZAi (by rfl) T.isinstance ZAV (ZAA (pv 1) (ZAA (ZBz T.bool ZCD) ZAB)))) (ZDq (ZCd (ZAU ZAi (by rfl) T.isinstance ZAV (ZAA (pv 0) (ZAA (ZBz T.bool ZCD) ZAB)))))).pt (ZAG (ZAK (ZDB (ZAU ZAi (by rfl) T.isinstance ZAV (ZAA (pv 1) (ZAA (ZBz T.bool ZCD) ZAB))) (ZDB (ZAU ZAi (by rfl) T.isinstance ZAV (ZAA (pv 0) (ZAA (ZBz T.bool ZCD) ZAB))) (ZDW (ZBB ZAm (pv 0) (pv 1) (ZAO _))))))) ZAP)
      (ZAD (ZAj (ZCd (ZAU ZAi (by rfl) T.isinstance ZAV (ZAA (pv 1) (ZAA (ZBz T.int ZCh) ZAB)))) (ZAG (ZAK (ZDB (ZAU ZAi (by rfl) T.isinstance ZAV (ZAA (pv 0) (ZAA (ZBz T.int ZCh) ZAB))) (ZDW (ZBB ZAm (pv 0) (pv 1) (ZAO _)))))) ZAP)
      (ZAG (ZAK (ZDB (ZAU ZAi (by rfl) T.isinstance ZAV (ZAA (pv 0) (ZAA (ZBz T.str ZDk) ZAB))) (ZDW (ZBB ZAm (pv 0) (pv 1) (ZAO _)))))))))),?_⟩
      refine ZNP fun X hX=>?_
      cases h1 with
      | bl b=>
        cases h2
        refine hX ?_
        refine ⟨_,rfl,_,_,_,_,false,rfl,.bl _,rfl,(fun _=>.inr trivial),T.ki_bt,false,rfl,ZAo ?_⟩
        refine ⟨_,rfl,_,_,_,_,true,rfl,.bl _,rfl,(fun _=>.inr trivial),ZCe _ _,true,rfl,ZBR (ZBR ?_)⟩
        refine ⟨_,rfl,_,_,_,_,true,rfl,.bl _,rfl,(fun _=>.inr trivial),ZCe _ _,true,rfl,ZBR ?_⟩
        refine ⟨_,rfl,_,_,_,_,true,rfl,.bl _,rfl,(fun _=>.inr trivial),ZCe _ _,true,rfl,ZBR ?_⟩
        exact ⟨_,rfl,_,rfl,rfl,rtv (by simp) (k _ (ZAM.refl _))⟩
      | int i=>
        cases h2
        refine hX ?_
        refine ⟨_,rfl,_,_,_,_,false,rfl,.int _,rfl,(fun _=>.inr trivial),T.kiit,false,rfl,ZAo ?_⟩
        refine ⟨_,rfl,_,_,_,_,false,rfl,.int _,rfl,(fun _=>.inr trivial),T.kib,false,rfl,ZAo ?_⟩
        refine ⟨_,rfl,_,_,_,_,false,rfl,.int _,rfl,(fun _=>.inr trivial),T.kib,false,rfl,ZAo ?_⟩
        refine ⟨_,rfl,_,_,_,_,true,rfl,.int _,rfl,(fun _=>.inr trivial),ZCe _ _,true,rfl,ZBR ?_⟩
        refine ⟨_,rfl,_,_,_,_,true,rfl,.int _,rfl,(fun _=>.inr trivial),ZCe _ _,true,rfl,ZBR ?_⟩
        exact ⟨_,rfl,_,rfl,rfl,rtv (by simp) (k _ (ZAM.refl _))⟩
      | str z=>
        cases h2
        refine hX ?_
        refine ⟨_,rfl,_,_,_,_,false,rfl,.str _,rfl,(fun _=>.inr trivial),T.kist,false,rfl,ZAo ?_⟩
        refine ⟨_,rfl,_,_,_,_,false,rfl,.str _,rfl,(fun _=>.inr trivial),T.ki_sb,false,rfl,ZAo ?_⟩
        refine ⟨_,rfl,_,_,_,_,false,rfl,.str _,rfl,(fun _=>.inr trivial),T.ki_sb,false,rfl,ZAo ?_⟩
        refine ⟨_,rfl,_,_,_,_,false,rfl,.str _,rfl,(fun _=>.inr trivial),T.ki_si,false,rfl,ZAo ?_⟩
        refine ⟨_,rfl,_,_,_,_,true,rfl,.str _,rfl,(fun _=>.inr trivial),ZCe _ _,true,rfl,ZBR ?_⟩
        exact ⟨_,rfl,_,rfl,rfl,rtv (by simp) (k _ (ZAM.refl _))⟩
      | @tup a us ts _ e1 l1 n1 hh1=>
        cases h2 with
        | @tup b vs _ _ e2 l2 n2 hh2=>
          have ll:us.length=vs.length:=n1.trans n2.symm
          refine hX ?_
          refine ⟨_,rfl,_,_,_,_,true,rfl,.tup e2,rfl,(fun _=>.inr trivial),ZCe _ _,true,rfl,ZBR ?_⟩
          refine ⟨_,rfl,_,_,_,_,true,rfl,.tup e1,rfl,(fun _=>.inr trivial),ZCe _ _,true,rfl,ZAo ?_⟩
          refine ⟨_,rfl,a,us,rfl,.inr (SqT.of e1),_,rfl,b,vs,rfl,.inr (SqT.of e2),rfl,false,(by simp [ll]),ZAo ?_⟩
          refine ⟨_,rfl,b,vs,rfl,.inr (SqT.of e2),_,rfl,(by omega),(by omega),fun D hD=>?_⟩
          have sD:∀ o,ZAM H (upd H D o):=fun o=>ZAM.new hD
          refine ⟨fun i m H4=>m=vs.length-i∧i≤vs.length∧H4 D=some (.lst ((List.replicate i true).map V.bl))∧ZAM H H4,⟨vs.length,rfl,Nat.zero_le _,ZAE,sD _⟩,?_⟩
          rintro i m H4 ⟨rfl,hi,hD4,s4⟩
          by_cases hlt:i<vs.length
          · refine .inr ⟨(by show i<(vs.length:Int).toNat;omega),fun x H' y=>?_⟩
            obtain ⟨e4,rfl⟩:=y
            subst e4
            have hu1:us[i]?=some (us[i]'(by omega)):=List.getElem?_eq_getElem (by omega)
            have hv1:vs[i]?=some (vs[i]):=List.getElem?_eq_getElem hlt
            have ht1:ts[i]?=some (ts[i]'(by omega)):=List.getElem?_eq_getElem (by omega)
            refine ⟨_,rfl,_,rfl,a,_,_,_,rfl,rfl,SqT.of (s4 _ _ e1),(by rw [Int.zero_add];exact ZDY hu1),_,rfl,_,rfl,b,_,_,_,rfl,rfl,SqT.of (s4 _ _ e2),(by rw [Int.zero_add];exact ZDY hv1),?_⟩
            refine ⟨_,_,_,rfl,(hh1 _ _ _ hu1 ht1).kp (Kp.same s4),(hh2 _ _ _ hv1 ht1).kp (Kp.same s4),fun H5 s5=>?_⟩
            refine ⟨_,s5 _ _ hD4,ZDM (by rw [List.length_map,List.length_replicate];omega),vs.length-(i+1),(by omega),rfl,hlt,?_,fun b' o e=>?_⟩
            · rw [ZAE,List.replicate_succ',List.map_append];rfl
            · rw [ZAa (ZAY e hD)];exact s5 _ _ (s4 _ _ e)
          · have ei:i=vs.length:=by omega
            subst ei
            refine .inl ⟨(by show (vs.length:Int).toNat≤vs.length;omega),D,List.replicate vs.length true,rfl,SqL.of hD4,?_⟩
            rw [ZLo]
            exact k _ s4
theorem ZFy:ZAS ["_law_one","_law_more"] ["_law_one","_law_more"] (ZAF ZBe):=⟨rfl,rfl,rfl,by decide +kernel,rfl,by decide +kernel,by decide +kernel⟩
theorem ZBk (T:Txt w K mg t):ZBS P w K mg base CX0 2 t.f__law_outside t.d__law_outside ["_law_one","_law_more"] ZPC:=by
  have D:=T.c__law_outside
  refine D.fn.ok ZFy (fun vs H Q E h=>?_) (fun cdv A outer s H vs Q E hr h=>?_)
  · obtain ⟨u,kk,v,rfl,_⟩:=h
    rfl
  · obtain ⟨u,kk,v,rfl,hv,okv,h1,h2,k⟩:=h
    refine ⟨_,((ZAD (ZAj (ZE7 (ZAL ZAm (ZAN ZAJ (pv 0) ZAC (fun _ _=>rfl)) ZAI (ZAO _)) (ZE6 (ZAL ZIx (ZAU (ZJi rfl) (by rfl) T.max ZLh (ZAg (ZAU ZDg (by rfl) T.abs ZDj (ZAR (ZAN ZAJ (pv 0) ZAC (fun _ _=>rfl)) ZAB)) (ZAR (ZAN ZAJ (pv 0) ZAC (fun _ _=>rfl)) ZAB))) (ZAZ ZFD ZAC ZAC) (ZAO _)))).pt (ZAG (ZAK (ZAb (ZAH ZAI (ZAH ZAI ZAB))))) ZAP)
      (ZAD (ZAj (ZAL ZAm (ZAN ZAJ (pv 0) ZAC (fun _ _=>rfl)) ZAI (ZAO _)) (ZAG (ZAK (ZAW T.c__law_lowest (ZA4 T) (hr.mono (by decide)) (ZAX (ZAZ ZA9 (ZAN ZAJ (pv 0) ZAC (fun _ _=>rfl)) (ZAZ ZAq (pv 1) (ZAN ZAJ (pv 0) ZAC (fun _ _=>rfl)))) (ZAR (ZAN ZAJ (pv 0) ZAC (fun _ _=>rfl)) ZAB))))) ZAP)
      (ZAD (ZAj (ZAL ZAm (ZAN ZAJ (pv 0) ZAC (fun _ _=>rfl)) ZAI (ZAO _)) (ZAG (ZAK (ZAb (ZAH ZAI (ZGJ (ZL7 (ZAN ZAJ (pv 0) ZAC (fun _ _=>rfl))) ZAB))))) ZAP)
      (ZAD (ZAj (ZAL ZAm (ZAN ZAJ (pv 0) ZAC (fun _ _=>rfl)) ZAI (ZAO _)) (ZAG (ZAK (pv 0))) ZAP)
      (ZAG (ZAK (ZAb (ZAH ZAI (ZAH ZAI ZAB)))))))))),?_⟩
    obtain ⟨q,xs,rfl,hq,_⟩:=hv.hd
    cases v with
    | num t_ b_=>
      have hq':H q=some (.tup [vS "number",.int t_,.int b_]):=by obtain ⟨_,e,h⟩:=hv;cases e;exact h
      have hb:=okv.1.pos
      refine ⟨_,rfl,q,_,_,_,rfl,rfl,SqT.of hq,ZAc,rfl,true,(by show V.bl (decide (V.str (Str.ofString "number")=vS "number"))=_;decide +kernel),ZBR ?_⟩
      refine ⟨_,rfl,q,_,_,_,rfl,rfl,SqT.of hq',rfl,t_,rfl,_,rfl,q,_,_,_,rfl,rfl,SqT.of hq',rfl,_,_,rfl,_,_,rfl,rfl,⟨by decide,by decide,by decide⟩,_,_,rfl,rfl,ZNf t_ b_,rfl,ZDJ (fun c=>?_) (fun c=>?_)⟩
      · refine ⟨ZAn,fun p hp=>k _ _ ?_ (ZAM.new hp)⟩
        show ZBT _ _ (if ZNf t_ b_=true then .txt (Str.ofString "far") else .num (ZDA (t_+kk*b_) b_) (ZCz (t_+kk*b_) b_))
        rw [if_pos c]
        exact ⟨p,rfl,ZAE⟩
      · obtain ⟨g1,g2⟩:=ZMk c
        refine ⟨_,rfl,q,_,_,_,rfl,rfl,SqT.of hq,ZAc,rfl,true,(by show V.bl (decide (V.str (Str.ofString "number")=vS "number"))=_;decide +kernel),ZBR ?_⟩
        have hb1:b_<10 ^ 30:=by have:=okv.2.2;omega
        refine ⟨_,rfl,q,_,_,_,rfl,rfl,SqT.of hq',rfl,_,rfl,_,rfl,q,_,_,_,rfl,rfl,SqT.of hq',rfl,_,_,rfl,rfl,⟨ZMS (by omega) (by omega),ZMS (by omega) (by omega)⟩,_,_,rfl,rfl,_,rfl,q,_,_,_,rfl,rfl,SqT.of hq',rfl,t_+kk*b_,b_,rfl,(by omega),ZMS (by omega) (by omega),fun p hp=>k _ _ ?_ (ZAM.new hp)⟩
        show ZBT _ _ (if ZNf t_ b_=true then .txt (Str.ofString "far") else .num (ZDA (t_+kk*b_) b_) (ZCz (t_+kk*b_) b_))
        rw [if_neg c]
        exact ⟨p,rfl,ZAE⟩
    | tru b=>
      have hq':H q=some (.tup [vS "truth",.bl b]):=by obtain ⟨_,e,h⟩:=hv;cases e;exact h
      refine ⟨_,rfl,q,_,_,_,rfl,rfl,SqT.of hq,ZAc,rfl,false,(by show V.bl (decide (V.str (Str.ofString "truth")=vS "number"))=_;decide +kernel),ZAo ?_⟩
      refine ZAo ?_
      refine ⟨_,rfl,q,_,_,_,rfl,rfl,SqT.of hq,ZAc,rfl,false,(by show V.bl (decide (V.str (Str.ofString "truth")=vS "number"))=_;decide +kernel),ZAo ?_⟩
      refine ⟨_,rfl,q,_,_,_,rfl,rfl,SqT.of hq,ZAc,rfl,true,(by show V.bl (decide (V.str (Str.ofString "truth")=vS "truth"))=_;decide +kernel),ZBR ?_⟩
      exact ⟨_,rfl,q,_,_,_,rfl,rfl,SqT.of hq',rfl,b,rfl,ZAn,fun p hp=>k _ _ ⟨p,rfl,ZAE⟩ (ZAM.new hp)⟩
    | txt z=>
      refine ⟨_,rfl,q,_,_,_,rfl,rfl,SqT.of hq,ZAc,rfl,false,(by show V.bl (decide (V.str (Str.ofString "text")=vS "number"))=_;decide +kernel),ZAo ?_⟩
      refine ZAo ?_
      refine ⟨_,rfl,q,_,_,_,rfl,rfl,SqT.of hq,ZAc,rfl,false,(by show V.bl (decide (V.str (Str.ofString "text")=vS "number"))=_;decide +kernel),ZAo ?_⟩
      refine ⟨_,rfl,q,_,_,_,rfl,rfl,SqT.of hq,ZAc,rfl,false,(by show V.bl (decide (V.str (Str.ofString "text")=vS "truth"))=_;decide +kernel),ZAo ?_⟩
      refine ⟨_,rfl,q,_,_,_,rfl,rfl,SqT.of hq,ZAc,rfl,true,(by show V.bl (decide (V.str (Str.ofString "text")=vS "text"))=_;decide +kernel),ZBR ?_⟩
      exact ⟨_,rfl,k _ _ hv (ZAM.refl _)⟩
    | none=>
      refine ⟨_,rfl,q,_,_,_,rfl,rfl,SqT.of hq,ZAc,rfl,false,(by show V.bl (decide (V.str (Str.ofString "none")=vS "number"))=_;decide +kernel),ZAo ?_⟩
      refine ZAo ?_
      refine ⟨_,rfl,q,_,_,_,rfl,rfl,SqT.of hq,ZAc,rfl,false,(by show V.bl (decide (V.str (Str.ofString "none")=vS "number"))=_;decide +kernel),ZAo ?_⟩
      refine ⟨_,rfl,q,_,_,_,rfl,rfl,SqT.of hq,ZAc,rfl,false,(by show V.bl (decide (V.str (Str.ofString "none")=vS "truth"))=_;decide +kernel),ZAo ?_⟩
      refine ⟨_,rfl,q,_,_,_,rfl,rfl,SqT.of hq,ZAc,rfl,false,(by show V.bl (decide (V.str (Str.ofString "none")=vS "text"))=_;decide +kernel),ZAo ?_⟩
      exact ⟨ZAn,fun p hp=>k _ _ ⟨p,rfl,ZAE⟩ (ZAM.new hp)⟩
    | flt w z r c=>
      refine ⟨_,rfl,q,_,_,_,rfl,rfl,SqT.of hq,ZAc,rfl,false,(by show V.bl (decide (V.str (Str.ofString "fault")=vS "number"))=_;decide +kernel),ZAo ?_⟩
      refine ZAo ?_
      refine ⟨_,rfl,q,_,_,_,rfl,rfl,SqT.of hq,ZAc,rfl,false,(by show V.bl (decide (V.str (Str.ofString "fault")=vS "number"))=_;decide +kernel),ZAo ?_⟩
      refine ⟨_,rfl,q,_,_,_,rfl,rfl,SqT.of hq,ZAc,rfl,false,(by show V.bl (decide (V.str (Str.ofString "fault")=vS "truth"))=_;decide +kernel),ZAo ?_⟩
      refine ⟨_,rfl,q,_,_,_,rfl,rfl,SqT.of hq,ZAc,rfl,false,(by show V.bl (decide (V.str (Str.ofString "fault")=vS "text"))=_;decide +kernel),ZAo ?_⟩
      exact ⟨ZAn,fun p hp=>k _ _ ⟨p,rfl,ZAE⟩ (ZAM.new hp)⟩
theorem ZIF:ZAS ["_law_asked","_law_own","_law_more"] ["_law_asked","_law_own","_law_more"] (ZAF ZCU):=⟨rfl,rfl,rfl,by decide +kernel,rfl,by decide +kernel,by decide +kernel⟩
theorem ZHc (T:Txt w K mg t):ZBS P w K mg base CX0 3 t.f__law_note t.d__law_note ["_law_asked","_law_own","_law_more"] ZRN:=by
  have D:=T.c__law_note
  refine D.fn.ok ZIF (fun vs H Q E h=>?_) (fun cdv A outer s H vs Q E hr h=>?_)
  · obtain ⟨L,us,u,kk,v,rfl,_⟩:=h
    rfl
  · obtain ⟨L,us,u,kk,v,rfl,hL,hl,hv,okv,h1,h2,k⟩:=h
    refine ⟨_,((ZAD (ZCa (ZEn PySem.F.plainAttrs_list PySem.F.slot_list_append PySem.F.type_list_append ZBK (pv 0) (ZAA (pv 1) ZAB)))
      (ZAG (ZAK (ZAW T.c__law_outside (ZBk T) (hr.mono (by decide)) (ZAA (pv 1) (ZAA (pv 2) ZAB))))))),?_⟩
    have kL:Kp H (upd H L (.lst (us++[u]))):=ZFR hL
    refine ⟨_,rfl,.inl ⟨rfl,_,SqL.of hL⟩,_,rfl,L,us,_,rfl,rfl,hL,ZDM (by omega),?_⟩
    exact ⟨_,rfl,_,rfl,u,kk,v,rfl,hv.kp kL,okv,h1,h2,fun x H' hx s=>k x H' hx (s _ _ ZAE) fun b o hb e=>s _ _ (by rw [ZAa hb];exact e)⟩
theorem ZGr:ZAS ["_law_other","_law_more"] ["_law_other","_law_more"] (ZAF ZBv):=⟨rfl,rfl,rfl,by decide +kernel,rfl,by decide +kernel,by decide +kernel⟩
theorem ZFz (T:Txt w K mg t):ZBS P w K mg base CX0 3 t.f__law_of_sum t.d__law_of_sum ["_law_other","_law_more"] ZRO:=by
  have D:=T.c__law_of_sum
  refine D.fn.ok ZGr (fun vs H Q E h=>?_) (fun cdv A outer s H vs Q E hr h=>?_)
  · obtain ⟨u,kk,v,rfl,_⟩:=h
    rfl
  · obtain ⟨u,kk,v,rfl,hv,okv,h1,h2,k⟩:=h
    refine ⟨_,((ZAD (ZAj (ZAL ZAm (ZAN ZAJ (pv 0) ZAC (fun _ _=>rfl)) ZAI (ZAO _)) (ZAG (ZAK (pv 0))) ZAP)
      (ZAD (ZAj (ZAL ZAm (ZAN ZAJ (pv 0) ZAC (fun _ _=>rfl)) ZAI (ZAO _)) (ZAG (ZAK (ZAW T.c__law_outside (ZBk T) (hr.mono (by decide)) (ZAA (pv 0) (ZAA (pv 1) ZAB))))) ZAP)
      (ZAG (ZAK (ZAW T.c__law_outside (ZBk T) (hr.mono (by decide)) (ZAp (ZAb (ZAH ZAI (ZAH ZAC (ZAH ZAC ZAB)))) (ZAA (pv 1) ZAB)))))))),?_⟩
    obtain ⟨q,xs,rfl,hq,_⟩:=hv.hd
    have non:(∀ x H',ZBT H' x (ZCA kk (.num 0 1))→ZAM H H'→Q x H')→∀ p,H p=none→ZPC [.ref p,.int kk] (upd H p (.tup [vS "number",.int 0,.int 1])) Q E:=fun k' p hp=>
      ⟨.ref p,kk,.num 0 1,rfl,⟨p,rfl,ZAE⟩,⟨⟨by decide,by decide⟩,by decide,by decide⟩,h1,h2,fun x H' hx s=>k' x H' hx ((ZAM.new hp).trans s)⟩
    cases v with
    | num t_ b_=>
      refine ⟨_,rfl,q,_,_,_,rfl,rfl,SqT.of hq,ZAc,rfl,false,(by show V.bl (decide (V.str (Str.ofString "number")=vS "fault"))=_;decide +kernel),ZAo ?_⟩
      refine ⟨_,rfl,q,_,_,_,rfl,rfl,SqT.of hq,ZAc,rfl,true,(by show V.bl (decide (V.str (Str.ofString "number")=vS "number"))=_;decide +kernel),ZBR ?_⟩
      exact ⟨_,rfl,_,rfl,.ref q,kk,.num t_ b_,rfl,hv,okv,h1,h2,k⟩
    | tru b=>
      refine ⟨_,rfl,q,_,_,_,rfl,rfl,SqT.of hq,ZAc,rfl,false,(by show V.bl (decide (V.str (Str.ofString "truth")=vS "fault"))=_;decide +kernel),ZAo ?_⟩
      refine ⟨_,rfl,q,_,_,_,rfl,rfl,SqT.of hq,ZAc,rfl,false,(by show V.bl (decide (V.str (Str.ofString "truth")=vS "number"))=_;decide +kernel),ZAo ?_⟩
      exact ⟨ZAk,fun p hp=>⟨_,rfl,non k p hp⟩⟩
    | txt z=>
      refine ⟨_,rfl,q,_,_,_,rfl,rfl,SqT.of hq,ZAc,rfl,false,(by show V.bl (decide (V.str (Str.ofString "text")=vS "fault"))=_;decide +kernel),ZAo ?_⟩
      refine ⟨_,rfl,q,_,_,_,rfl,rfl,SqT.of hq,ZAc,rfl,false,(by show V.bl (decide (V.str (Str.ofString "text")=vS "number"))=_;decide +kernel),ZAo ?_⟩
      exact ⟨ZAk,fun p hp=>⟨_,rfl,non k p hp⟩⟩
    | none=>
      refine ⟨_,rfl,q,_,_,_,rfl,rfl,SqT.of hq,ZAc,rfl,false,(by show V.bl (decide (V.str (Str.ofString "none")=vS "fault"))=_;decide +kernel),ZAo ?_⟩
      refine ⟨_,rfl,q,_,_,_,rfl,rfl,SqT.of hq,ZAc,rfl,false,(by show V.bl (decide (V.str (Str.ofString "none")=vS "number"))=_;decide +kernel),ZAo ?_⟩
      exact ⟨ZAk,fun p hp=>⟨_,rfl,non k p hp⟩⟩
    | flt w z r c=>
      refine ⟨_,rfl,q,_,_,_,rfl,rfl,SqT.of hq,ZAc,rfl,true,(by show V.bl (decide (V.str (Str.ofString "fault")=vS "fault"))=_;decide +kernel),ZBR ?_⟩
      exact ⟨_,rfl,k _ _ hv (ZAM.refl _)⟩
theorem ZDI:ZAS ["_law_script","_law_pen_here","_law_turn","_law_more","_law_known","_law_one","_law_other","_law_home","_law_word","_law_sign","_law_outside_here","_law_due","_law_fault","_law_leaf","_law_dues","_law_asked","_law_formula","_law_one_due","_law_told"] ["_law_script"] (ZAF ZJI):=⟨rfl,rfl,rfl,by decide +kernel,rfl,by decide +kernel,by decide +kernel⟩
theorem ZPK (T:Txt w K mg t)(hC:∀ q∈[(t.c_reckoned,t.P_reckoned),(t.c_law,t.P_law)],PySem.W.CodeHd base q.1 q.2)(hB:BM mg base):ZBS P w K mg base CX0 18 t.f_law t.d_law ["_law_script"] (ZMf K t.P_reckoned t.P_law):=by
  have D:=T.c_law
  refine D.fn.okC ZDI (fun vs H Q E h=>?_) (fun cdv A outer s H vs Q E hcd hr h=>?_)
  · obtain ⟨a,ns,rfl,_⟩:=h
    rfl
  · obtain ⟨a,ns,rfl,hS,h63,hP1,hP2,k⟩:=h
    have hu1:=ZHA hr
    have hu2:=ZO9 hr
    have hCL:=hC (t.c_law,t.P_law) (by simp)
    have hCR:=hC (t.c_reckoned,t.P_reckoned) (by simp)
    refine ⟨_,((ZAD (ZAd (i:=1) ZDI.nd rfl (Or.inl rfl) (ZAW T.c__law_pen (ZIE T) (hr.mono (by decide)) (ZAA (pv 0) ZAB)))
      (ZAD (ZC1 PassesOwn.never rfl (ZE9 rfl T.range (ZAH ZAC ZAB)) (ZA2 (i:=2) ZDI.nd rfl (Or.inl rfl))
      (ZAD (ZAd (i:=3) ZDI.nd rfl (Or.inr rfl) (ZAZ ZDC (ZAW T.c__law_take (ZAh T) (hr.mono (by decide)) (ZAA (pv 1) (ZAH ZAC ZAB))) ZAC))
      (ZAD (ZAd (i:=4) ZDI.nd rfl (Or.inr rfl) ZLM)
      (ZAD (ZAd (i:=5) ZDI.nd rfl (Or.inl rfl) (ZAW T.c__law_drawn_value (ZCy T) (hr.mono (by decide)) (ZAA (pv 1) ZAB)))
      (ZAD (ZAd (i:=6) ZDI.nd rfl (Or.inl rfl) (ZAW T.c__law_drawn_value (ZCy T) (hr.mono (by decide)) (ZAA (pv 1) ZAB)))
      (ZAD (ZAd (i:=7) ZDI.nd rfl (Or.inl rfl) (ZAW T.c__law_drawn_cell (ZC3 T) (hr.mono (by decide)) (ZAA (pv 1) ZAB)))
      (ZAD (ZAd (i:=8) ZDI.nd rfl (Or.inl rfl) (ZAN ZA3 (ZBh (ZAH ZAI (ZAH ZAI (ZAH ZAI ZAB)))) (ZAW T.c__law_take (ZAh T) (hr.mono (by decide)) (ZAA (pv 1) (ZAH ZAC ZAB))) (fun _ _=>rfl)))
      (ZAD (ZAd (i:=9) ZDI.nd rfl (Or.inl rfl) (ZAN ZMA ZAI (ZAW T.c__law_take (ZAh T) (hr.mono (by decide)) (ZAA (pv 1) (ZAH ZAC ZAB))) (fun _ _=>rfl)))
      (ZAD (ZAd (i:=10) ZDI.nd rfl (Or.inl rfl) (ZAb (ZAH ZAI (ZAg (ZAW T.c__law_put_down (ZDV T) (hr.mono (by decide)) (ZAA (pv 1) (ZAA (pv 4) (ZAH ZAI (ZEz (ZBh (ZEz (ZBh (ZAA (pv 5) ZAB)) ZAB)) ZAB))))) ZAB))))
      (ZAD (ZAd (i:=11) ZDI.nd rfl (Or.inl rfl) (pv 5))
      (ZAD (ZAj (ZAL ZHk (ZAN ZAJ (pv 5) ZAC (fun _ _=>rfl)) ZAI (ZAO _)) (ZAG (ZAd (i:=11) ZDI.nd rfl (Or.inl rfl) (ZAW T.c__law_outside (ZBk T) (hr.mono (by decide)) (ZAA (pv 5) (ZAA (pv 3) ZAB))))) ZAP)
      (ZAD (ZAd (i:=12) ZDI.nd rfl (Or.inl rfl) (ZAb (ZAH ZAI (ZAA (pv 8) (ZAA (pv 7) ZAB)))))
      (ZAD (ZAd (i:=13) ZDI.nd rfl (Or.inl rfl) (ZAW T.c__law_put_down (ZDV T) (hr.mono (by decide)) (ZAA (pv 1) (ZAA (pv 4) (ZAH ZAI (ZEz (ZBh (ZEz (ZBh (ZAA (pv 6) ZAB)) ZAB)) ZAB))))))
      (ZAD (ZAd (i:=14) ZDI.nd rfl (Or.inl rfl) (ZBh (ZAp (ZAb (ZAA (pv 10) (ZAA (pv 11) ZAB))) (ZAp (ZAb (ZAp (ZAb (ZAH ZAI (ZAA (pv 8) ZAB))) (ZAA (pv 12) ZAB))) (ZAp (ZAb (ZAp (ZAb (ZAH ZAI (ZAA (pv 9) (ZAp (ZAb (ZAH ZAI (ZAA (pv 8) ZAB))) (ZAA (pv 13) ZAB))))) (ZAA (pv 12) ZAB))) ZAB)))))
      (ZAD (ZCa (ZEn PySem.F.plainAttrs_list PySem.F.slot_list_append PySem.F.type_list_append ZBK (pv 14) (ZAp (ZAb (ZAp (ZAb (ZAH ZAI (ZAA (pv 9) (ZAA (pv 10) (ZAA (pv 13) ZAB))))) (ZAg (ZAW T.c__law_of_two (ZDv T) (hr.mono (by decide)) (ZAA (pv 9) (ZAA (pv 11) (ZAA (pv 6) (ZAA (pv 7) ZAB))))) ZAB))) ZAB)))
      (ZAD (ZCa (ZEn PySem.F.plainAttrs_list PySem.F.slot_list_append PySem.F.type_list_append ZBK (pv 14) (ZAp (ZAb (ZAp (ZAb (ZAH ZAI (ZAA (pv 10) ZAB))) (ZAg (ZAW T.c__law_of_two (ZDv T) (hr.mono (by decide)) (ZAH ZAI (ZAp (ZAb (ZAH ZAI (ZAH ZAC (ZAH ZAC ZAB)))) (ZAA (pv 11) (ZAA (pv 7) ZAB))))) ZAB))) ZAB)))
      (ZAD (ZCa (ZEn PySem.F.plainAttrs_list PySem.F.slot_list_append PySem.F.type_list_append ZBK (pv 14) (ZAp (ZAb (ZAp (ZAb (ZAH ZAI (ZAp (ZAb (ZAH ZAI (ZAA (pv 8) ZAB))) ZAB))) (ZAA (pv 12) ZAB))) ZAB)))
      (ZAD (ZCa (ZEn PySem.F.plainAttrs_list PySem.F.slot_list_append PySem.F.type_list_append ZBK (pv 14) (ZAp (ZAb (ZAp (ZAb (ZAH ZAI (ZAA (pv 10) ZAB))) (ZAR (ZAN ZA3 (ZBh (ZAA (pv 11) (ZAg (ZAW T.c__law_outside (ZBk T) (hr.mono (by decide)) (ZAA (pv 11) (ZAA (pv 3) ZAB))) ZAB))) (ZBy ZEA (by rfl) T.int ZCh (ZCg (ZBB ZHk (ZAN ZAJ (pv 11) ZAC (fun _ _=>rfl)) ZAI (ZAO _)) ZAB)) (fun _ _=>rfl)) ZAB))) ZAB)))
      (ZAD (ZCa (ZEn PySem.F.plainAttrs_list PySem.F.slot_list_append PySem.F.type_list_append ZBK (pv 14) (ZAp (ZAb (ZAp (ZAb (ZAH ZAI (ZAp (ZAb (ZAH ZAI (ZAA (pv 13) ZAB))) ZAB))) (ZAg (ZAW T.c__law_of_sum (ZFz T) (hr.mono (by decide)) (ZAA (pv 6) (ZAA (pv 3) ZAB))) ZAB))) ZAB)))
      (ZAD (ZAd (i:=15) ZDI.nd rfl (Or.inr rfl) (ZBh ZAB))
      (ZAD (ZC1 PassesOwn.never rfl (ZDw (ZAZ ZOC (pv 14) (ZEB ZGH (pv 14) ZGE (ZEV ZAC)))) (ZGx rfl (ZB0 (ZA2 (i:=16) ZDI.nd rfl (Or.inl rfl)) (ZB0 (ZA2 (i:=17) ZDI.nd rfl (Or.inl rfl)) ZER)))
      (ZAD (ZAd (i:=18) ZDI.nd rfl (Or.inl rfl) (ZIa (k:=13) (hr.mono (by decide)) (by rfl) T.c_reckoned.gl T.c_reckoned.fn.kp T.c_reckoned.b (ZAA (pv 16) (ZAA (pv 7) (ZGP (ZJ8 (clos:=[("_law_known",s.heap.objs.size+2)]) rfl (by with_unfolding_all rfl) (hcd.symm.trans T.kc_law) hCL hB) (ZGP (ZJ8 (clos:=[("_law_more",s.heap.objs.size+3),("_law_asked",s.heap.objs.size+1)]) rfl (by with_unfolding_all rfl) (hcd.symm.trans T.kc_law) hCL hB) ZAB))))))
      (ZAG (ZAj (ZII (ZCd (ZAW T.c__law_typed_alike (ZD8 T 4) (hr.mono (by omega)) (ZAA (pv 18) (ZAp (ZAb (ZAp (ZAb (ZAA (pv 17) ZAB)) ZAB)) ZAB))))) (ZAG (ZAK ZFi)) ZAP))))
      (ZAG (ZAj (ZFj (ZAL ZIx (ZAU ZAe (by rfl) T.len PySem.boot_len (ZDK (ZDZ (fv:=[]) (js:=[]) (cl:=[]) rfl (by with_unfolding_all rfl) ⟨rfl,by decide +kernel,by decide +kernel,rfl,by decide +kernel,by decide +kernel,(List.forall_mem_nil _),(List.forall_mem_nil _),.nil⟩ (ZDw (pv 15)) (fun _ _ _ _ _=>(ZJt (ZAL ZAm (ZAN ZDL (pv 0) ZAC (fun _ _=>rfl)) ZAI (ZAO _)))) (fun _ _ _ _ _=>(by exact (pv 0)))) ZAB)) ZAC (ZAO _)) (ZDq (ZE7 (ZAL ZHk (ZAN ZAJ (pv 5) ZAC (fun _ _=>rfl)) ZAI (ZAO _)) (ZE6 (ZAL (ZNF hu2) (pv 5) (pv 15) rfl))).pt)).pt (ZAG (ZAK ZFi)) ZAP)))))))))))))))))))))))
      (ZAG (ZAK ZFi))))),?_⟩
    refine ⟨_,rfl,a,ns,rfl,hS,h63,fun p H1 hp0 pen1 s1=>?_⟩
    have ev1:ZFh K (a,ns) t.P_reckoned t.P_law H1 p 0:=⟨pen1,ZCI.nil (s1 _ _ hP1),ZCI.nil (s1 _ _ hP2)⟩
    refine ⟨_,rfl,(by decide),(by decide),?_⟩
    refine ZFC (fun i σ H2=>∃ x2 x3 x4 x5 x6 x7 x8 x9 x10 x11 x12 x13 x14 x15 x16 x17 x18,σ=[some (.ref a),some (.ref p),x2,x3,x4,x5,x6,x7,x8,x9,x10,x11,x12,x13,x14,x15,x16,x17,x18]∧ZFh K (a,ns) t.P_reckoned t.P_law H2 p (i*2000))
      ⟨_,_,_,_,_,_,_,_,_,_,_,_,_,_,_,_,_,rfl,ev1⟩ ?_ ?_
    · rintro i σ H2 hi ⟨x2,x3,x4,x5,x6,x7,x8,x9,x10,x11,x12,x13,x14,x15,x16,x17,x18,rfl,ev2⟩
      have hi6:i<6:=hi
      dsimp only [ZE8]
      refine ZK2 fun N1 hn1=>?_
      refine ⟨_,rfl,p,_,_,_,rfl,(by show (0:Int)<_;decide),ZBI (by decide) (by decide),ev2.pen,(by omega),fun r3 H3 a3 b3 pen3 kp3=>⟨_,_,rfl,rfl,?_⟩⟩
      have ev3:=ev2.kx pen3 kp3
      have m4:-4≤r3-4:=by omega
      have m5:r3-4≤4:=by omega
      refine fun kn hkn=>?_
      have ev4:=ev3.same (ZAM.new (o:=.dT []) hkn)
      have hkn4:upd H3 kn (.dT []) kn=some (.dT []):=ZAE
      generalize upd H3 kn (.dT [])=H4 at *
      have nkp:kn≠p:=by obtain ⟨_,eo⟩:=ev4.pen.ob;exact ZCH hkn4 eo (by intro z;cases z)
      refine ⟨_,rfl,p,_,_,rfl,ev4.pen,(by omega),fun u1 v1 H5 hv1 ok1 pen5 kp5=>?_⟩
      refine ⟨_,rfl,p,_,_,rfl,pen5,(by omega),fun u2 v2 H6 hv2 ok2 pen6 kp6=>?_⟩
      refine ⟨_,rfl,p,_,_,rfl,pen6,(by omega),fun qh hm H7 hq7 nm7 y1 y2 y3 y4 pen7 kp7=>?_⟩
      have ev7:=((ev4.kx pen5 kp5).kx pen6 kp6).kx pen7 kp7
      have k47:=kp5.trans (kp6.trans kp7)
      have hkn7:=k47 _ _ nkp hkn4
      have hv17:=hv1.kp ((pen5.kp kp6).trans (pen6.kp kp7))
      have hv27:=hv2.kp (pen6.kp kp7)
      have hh7:ZEH H7 (.ref qh) hm:=⟨qh,rfl,hq7⟩
      refine ⟨ZAk,fun lw hlw=>?_⟩
      have s8:=ZAM.new (o:=.lst [vS "gone",vS "name",vS "great"]) hlw
      have e8:upd H7 lw (.lst [vS "gone",vS "name",vS "great"]) lw=some (.lst [vS "gone",vS "name",vS "great"]):=ZAE
      have nlw:=ev7.pen.ne hlw
      generalize upd H7 lw (.lst [vS "gone",vS "name",vS "great"])=H8 at *
      have ev8:=ev7.same s8
      refine ⟨_,rfl,p,_,_,_,rfl,(by show (0:Int)<_;decide),ZBI (by decide) (by decide),ev8.pen,(by omega),fun r9 H9 a9 b9 pen9 kp9=>?_⟩
      obtain ⟨z_,hz_,hzf⟩:∃ z:Str,atI [vS "gone",vS "name",vS "great"] r9=some (.str z)∧z∈ZDS:=by
        have:r9=0∨r9=1∨r9=2:=by omega
        rcases this with rfl | rfl | rfl
        · exact ⟨_,rfl,by decide +kernel⟩
        · exact ⟨_,rfl,by decide +kernel⟩
        · exact ⟨_,rfl,by decide +kernel⟩
      refine ⟨lw,_,_,_,rfl,rfl,SqL.of (kp9 _ _ nlw e8),hz_,?_⟩
      have ev9:=ev8.kx pen9 kp9
      refine ⟨_,rfl,p,_,_,_,rfl,(by show (0:Int)<_;decide),ZBI (by decide) (by decide),ev9.pen,(by omega),fun r10 H10 a10 b10 pen10 kp10=>?_⟩
      obtain ⟨cc,hcc,hs7,hsO⟩:=ZRR a10 b10
      refine ⟨_,_,cc,rfl,rfl,(by decide +kernel),hcc,?_⟩
      refine hn1 _ _ ?_
      refine ZK3 fun N2 hn2=>?_
      generalize (⟨#[cc]⟩:Str)=sg at *
      have ev10:=ev9.kx pen10 kp10
      have k70:ZAl p H7 H10:=(ZAM.keep s8).trans (kp9.trans kp10)
      have kk70:=ev7.pen.kp k70
      have hkn10:=k70 _ _ nkp hkn7
      have hv110:=hv17.kp kk70
      have hv210:=hv27.kp kk70
      have hh10:=hh7.kp kk70
      refine ⟨_,rfl,_,rfl,_,rfl,(by show 1≤sizeLine;decide),fun bn hbn=>⟨(by show 1≤sizeLine;decide),fun ln hln=>?_⟩⟩
      have g1:=ZAM.new (o:=.lst [u1]) hbn
      have g2:=ZAM.new (o:=.lst [.ref bn]) hln
      have nbn:=ev10.pen.ne hbn
      have nln:=(ev10.same g1).pen.ne hln
      have ebn:=g2 _ _ (ZAE (H:=H10) (a:=bn) (o:=.lst [u1]))
      have eln:=ZAE (H:=upd H10 bn (.lst [u1])) (a:=ln) (o:=.lst [.ref bn])
      have sg1:=g1.trans g2
      generalize upd (upd H10 bn (.lst [u1])) ln (.lst [.ref bn])=H11 at *
      have ev11:=ev10.same sg1
      have t11:=TT.one (p:=p) eln ebn (hv110.kp (Kp.same sg1)) ok1 nln nbn
      have hkn11:=sg1 _ _ hkn10
      refine ⟨p,kn,ln,Str.ofString "main",[],[bn],[[u1]],1,1,_,(a,ns),rfl,ev11.pen,(by omega),hkn11,(by decide),eln,nln,t11.d.np,t11.d.ls,rfl,by decide,by decide,by decide,by decide,t11.d.row,fun a0 lf0 c0 d0 hi0 wi0 kvs0 H12 i1 i2 i3 i4 i5 i6 i7 i8 i9 i10 i11 i12 i13 i14 pen12 kp12=>?_⟩
      refine ⟨ZAn,fun t0 ht0=>?_⟩
      have lay0:ZGa H12 kvs0 (Str.ofString "main") [[u1]] 1 1 (.ref a0):=⟨a0,lf0,c0,d0,hi0,wi0,rfl,i5,i6,i7,i8,i9,i10,i11,i12,i13,i14,i3⟩
      have kk12:Kp H11 H12:=ev11.kp2 hkn11 kp12
      have ev12:=ev11.k2 hkn11 pen12 kp12
      have s13:=ZAM.new (o:=.tup [vS "outer",.ref a0]) ht0
      have e13:upd H12 t0 (.tup [vS "outer",.ref a0]) t0=some (.tup [vS "outer",.ref a0]):=ZAE
      generalize upd H12 t0 (.tup [vS "outer",.ref a0])=H13 at *
      have ev13:=ev12.same s13
      have kk13:Kp H10 H13:=(Kp.same sg1).trans (kk12.trans (Kp.same s13))
      have hv113:=hv110.kp kk13
      have hv213:=hv210.kp kk13
      have hh13:=hh10.kp kk13
      have lay13:=lay0.kp (Kp.same s13)
      have hkn13:=s13 _ _ i1
      refine ⟨_,rfl,?_⟩
      obtain ⟨q1,xs1,rfl,hq1,_⟩:=hv113.hd
      refine ⟨_,rfl,q1,_,_,_,rfl,rfl,SqT.of hq1,ZAc,rfl,!(isF v1),rfl,?_⟩
      refine iteJ (fun σ H=>∃ ud,σ=[some (.ref a),some (.ref p),some (.int (0+(i:Int))),some (.int (r3-4)),some (.ref kn),some (.ref q1),some u2,some (.ref qh),some (.str z_),some (.str sg),some (.ref t0),some ud,x12,x13,x14,x15,x16,x17,x18]∧ZBT H ud (ouV (ZCA (r3-4)) v1)∧ZAM H13 H) (fun c=>⟨.ref q1,rfl,?_,ZAM.refl _⟩) (fun c ZEu=>?_) ?_
      · unfold ouV
        rw [if_pos (by simpa using c)]
        exact hv113
      · refine ⟨_,rfl,_,rfl,.ref q1,r3-4,v1,rfl,hv113,ok1,m4,m5,fun x H' hx s=>ZEu _ _ ⟨x,rfl,?_,s⟩⟩
        unfold ouV
        rw [if_neg (by simpa using c)]
        exact hx
      rintro σ H14 ⟨ud,rfl,hud,s14⟩
      have okd:ZBi (ouV (ZCA (r3-4)) v1):=ZMj ok1 (ZKx m4 m5 ok1)
      have ev14:=ev13.same s14
      have hkn14:=s14 _ _ hkn13
      refine ⟨_,rfl,_,rfl,ZAk,fun qf hqf=>?_⟩
      have s15:=ZAM.new (o:=.tup [vS "fault",.str z_,.ref qh]) hqf
      have hft:=(hh13.kp (Kp.same s14)).fltS (z:=z_) hqf
      generalize upd H14 qf (.tup [vS "fault",.str z_,.ref qh])=H15 at *
      have s1315:=s14.trans s15
      have ev15:=ev14.same s15
      have hkn15:=s15 _ _ hkn14
      refine ⟨_,rfl,_,rfl,_,rfl,(by show 1≤sizeLine;decide),fun bm hbm=>⟨(by show 1≤sizeLine;decide),fun lm hlm=>?_⟩⟩
      have g3:=ZAM.new (o:=.lst [u2]) hbm
      have g4:=ZAM.new (o:=.lst [.ref bm]) hlm
      have nbm:=ev15.pen.ne hbm
      have nlm:=(ev15.same g3).pen.ne hlm
      have ebm:=g4 _ _ (ZAE (H:=H15) (a:=bm) (o:=.lst [u2]))
      have elm:=ZAE (H:=upd H15 bm (.lst [u2])) (a:=lm) (o:=.lst [.ref bm])
      have sg2:=g3.trans g4
      generalize upd (upd H15 bm (.lst [u2])) lm (.lst [.ref bm])=H16 at *
      have ev16:=ev15.same sg2
      have hkn16:=sg2 _ _ hkn15
      have t16:=TT.one (p:=p) elm ebm (hv213.kp (Kp.same (s1315.trans sg2))) ok2 nlm nbm
      refine ⟨p,kn,lm,Str.ofString "b",kvs0,[bm],[[u2]],1,1,_,(a,ns),rfl,ev16.pen,(by omega),hkn16,(by simp at i2;omega),elm,nlm,t16.d.np,t16.d.ls,rfl,by decide,by decide,by decide,by decide,t16.d.row,fun a1 lf1 c1 d1 hi1 wi1 kvs1 H17 j1 j2 j3 j4 j5 j6 j7 j8 j9 j10 j11 j12 j13 j14 pen17 kp17=>?_⟩
      have lay1:ZGa H17 kvs1 (Str.ofString "b") [[u2]] 1 1 (.ref a1):=⟨a1,lf1,c1,d1,hi1,wi1,rfl,j5,j6,j7,j8,j9,j10,j11,j12,j13,j14,j3⟩
      have kk17:Kp H16 H17:=ev16.kp2 hkn16 kp17
      have ev17:=ev16.k2 hkn16 pen17 kp17
      have kk1317:Kp H13 H17:=(Kp.same (s1315.trans sg2)).trans kk17
      have lay0':=(lay13.kp (Kp.same (s1315.trans sg2))).step kk17 j4 (by decide +kernel)
      have hv117:=hv113.kp kk1317
      have hv217:=hv213.kp kk1317
      have hh17:=hh13.kp kk1317
      have hud17:=hud.kp ((Kp.same (s15.trans sg2)).trans kk17)
      have hft17:=hft.kp ((Kp.same sg2).trans kk17)
      have e17:=kk1317 _ _ e13
      obtain ⟨b0,l0,sA,eb0,g0,zA',mA,ldA,useA⟩:=ZMg (m:=[[v1]]) lay0' ZKf (.cons (.cons hv117 .nil) .nil) rfl (by simp) (by decide) (by decide)
      cases eb0
      obtain ⟨b1,l1,sB,eb1,g1',zB',mB,ldB,useB⟩:=ZMg (m:=[[v2]]) lay1 ZSJ (.cons (.cons hv217 .nil) .nil) rfl (by simp) (by decide) (by decide)
      cases eb1
      have ndT:(([sA,sB]:List Sht).map fun s=>s.z).Nodup:=by show [sA.z,sB.z].Nodup;rw [zA',zB'];decide +kernel
      obtain ⟨dom,hdom⟩:∃ dom,dom=ZRL [sA,sB]:=⟨_,rfl⟩
      obtain ⟨g,hg⟩:∃ g,g=gS [sA,sB]:=⟨_,rfl⟩
      obtain ⟨⟨z0,cc0,dd0,lg0⟩,e0⟩:=useA [sA,sB] ndT (by simp)
      obtain ⟨⟨z1,cc1,dd1,lg1⟩,e1⟩:=useB [sA,sB] ndT (by simp)
      have dp17:DpF kn dom g H17:=by
        rw [hdom,hg]
        exact dp_S j1 ndT (List.forall_mem_cons.mpr ⟨ldA,List.forall_mem_cons.mpr ⟨ldB,List.forall_mem_nil _⟩⟩)
      rw [← hdom] at lg0 lg1
      rw [← hg] at e0 e1
      have L0:Lv6 dom g hm l0 v1:=⟨⟨⟨_,_,_,lg0⟩,by rw [e0];simpa using ok1⟩,e0,ok1⟩
      have L1:Lv6 dom g hm l1 v2:=⟨⟨⟨_,_,_,lg1⟩,by rw [e1];simpa using ok2⟩,e1,ok2⟩
      have okf:ZBi (fltS z_ hm):=⟨hzf,nm7,y1,y2,y3,y4⟩
      have fo0:ZB4 H17 (.ref t0) (.nd (.wd (zS "outer")) [.lf l0]):=mk1 (t:=t0) e17 rfl (.lf g0)
      have fb0:ZB4 H17 (.ref a1) (.lf l1):=.lf g1'
      have evT:=ev17.mono (n':=i*2000+1900) (by omega)
      refine hn2 _ _ ?_
      refine ZEZ (fun σ H=>∃ ld us,σ=[some (.ref a),some (.ref p),some (.int (0+(i:Int))),some (.int (r3-4)),some (.ref kn),some (.ref q1),some u2,some (.ref qh),some (.str z_),some (.str sg),some (.ref t0),some ud,some (.ref qf),some (.ref a1),some (.ref ld),x15,x16,x17,x18]∧Du K (a,ns) t.P_reckoned t.P_law H p (i*2000+1900) kn kvs1 H17 ld us [(.nd (.wd (zS "outer")) [.lf l0],ouV (ZCA (r3-4)) v1),(.lf (.flt z_),fltS z_ hm),(.nd (.op sg) [.lf (.flt z_),.lf l1],fltS z_ hm)]) (fun N hN=>?_) ?_
      · refine ⟨_,rfl,_,rfl,ZAn,fun p1 hp1=>?_⟩
        have w1:=ZAM.new (o:=.tup [.ref t0,ud]) hp1
        have d1:ZEQ (upd H17 p1 (.tup [.ref t0,ud])) (.ref p1) (.nd (.wd (zS "outer")) [.lf l0],ouV (ZCA (r3-4)) v1):=ZEQ.new hp1 fo0 hud17
        generalize upd H17 p1 (.tup [.ref t0,ud])=J1 at *
        refine ⟨_,rfl,ZAn,fun f2 hf2=>?_⟩
        have w2:=ZAM.new (o:=.tup [vS "fault",.str z_]) hf2
        have ef2:upd J1 f2 (.tup [vS "fault",.str z_]) f2=some (.tup [vS "fault",.str z_]):=ZAE
        generalize upd J1 f2 (.tup [vS "fault",.str z_])=J2 at *
        have ff2:ZB4 J2 (.ref f2) (.lf (.flt z_)):=.lf ef2
        refine ⟨_,rfl,ZAn,fun p2 hp2=>?_⟩
        have w3:=ZAM.new (o:=.tup [.ref f2,.ref qf]) hp2
        have d2:ZEQ (upd J2 p2 (.tup [.ref f2,.ref qf])) (.ref p2) (.lf (.flt z_),fltS z_ hm):=ZEQ.new hp2 ff2 (hft17.kp (Kp.same (w1.trans w2)))
        generalize upd J2 p2 (.tup [.ref f2,.ref qf])=J3 at *
        refine ⟨_,rfl,_,rfl,ZAn,fun f3 hf3=>?_⟩
        have w4:=ZAM.new (o:=.tup [vS "fault",.str z_]) hf3
        have ef3:upd J3 f3 (.tup [vS "fault",.str z_]) f3=some (.tup [vS "fault",.str z_]):=ZAE
        generalize upd J3 f3 (.tup [vS "fault",.str z_])=J4 at *
        have ff3:ZB4 J4 (.ref f3) (.lf (.flt z_)):=.lf ef3
        have w14:=(w1.trans (w2.trans (w3.trans w4)))
        refine ⟨_,rfl,(by show 4≤sizeLine;decide),fun o3 ho3=>?_⟩
        have w5:=ZAM.new (o:=.tup [vS "op",.str sg,.ref f3,.ref a1]) ho3
        have eo3:upd J4 o3 (.tup [vS "op",.str sg,.ref f3,.ref a1]) o3=some (.tup [vS "op",.str sg,.ref f3,.ref a1]):=ZAE
        generalize upd J4 o3 (.tup [vS "op",.str sg,.ref f3,.ref a1])=J5 at *
        have fo3:ZB4 J5 (.ref o3) (.nd (.op sg) [.lf (.flt z_),.lf l1]):=mk2 (t:=o3) eo3 rfl (ZB4.kp ff3 (Kp.same w5)) (ZB4.kp fb0 (Kp.same (w14.trans w5)))
        refine ⟨_,rfl,ZAn,fun p3 hp3=>?_⟩
        have w6:=ZAM.new (o:=.tup [.ref o3,.ref qf]) hp3
        have d3:ZEQ (upd J5 p3 (.tup [.ref o3,.ref qf])) (.ref p3) (.nd (.op sg) [.lf (.flt z_),.lf l1],fltS z_ hm):=ZEQ.new hp3 fo3 (hft17.kp (Kp.same (w14.trans w5)))
        generalize upd J5 p3 (.tup [.ref o3,.ref qf])=J6 at *
        refine ⟨ZAk,fun ld hld=>?_⟩
        have w7:=ZAM.new (o:=.lst [.ref p1,.ref p2,.ref p3]) hld
        have w16:=w14.trans (w5.trans (w6.trans w7))
        have nld:ld≠p:=(ev17.same (w14.trans (w5.trans w6))).pen.ne hld
        have eld:upd J6 ld (.lst [.ref p1,.ref p2,.ref p3]) ld=some (.lst [.ref p1,.ref p2,.ref p3]):=ZAE
        have du7:Paired (ZEQ (upd J6 ld (.lst [.ref p1,.ref p2,.ref p3]))) [.ref p1,.ref p2,.ref p3] [(.nd (.wd (zS "outer")) [.lf l0],ouV (ZCA (r3-4)) v1),(.lf (.flt z_),fltS z_ hm),(.nd (.op sg) [.lf (.flt z_),.lf l1],fltS z_ hm)]:=
          .cons (d1.kp (Kp.same (w2.trans (w3.trans (w4.trans (w5.trans (w6.trans w7))))))) (.cons (d2.kp (Kp.same (w4.trans (w5.trans (w6.trans w7))))) (.cons (d3.kp (Kp.same w7)) .nil))
        generalize upd J6 ld (.lst [.ref p1,.ref p2,.ref p3])=J7 at *
        exact hN _ _ ⟨ld,_,rfl,evT.same w16,w16 _ _ j1,eld,nld,du7,Kp.same w16,_,_,rfl⟩
      rintro σ J7 ⟨ld,us3,rfl,du3⟩
      refine ZEZ (fun σ H=>∃ ld us,σ=[some (.ref a),some (.ref p),some (.int (0+(i:Int))),some (.int (r3-4)),some (.ref kn),some (.ref q1),some u2,some (.ref qh),some (.str z_),some (.str sg),some (.ref t0),some ud,some (.ref qf),some (.ref a1),some (.ref ld),x15,x16,x17,x18]∧Du K (a,ns) t.P_reckoned t.P_law H p (i*2000+1900) kn kvs1 H17 ld us [(.nd (.wd (zS "outer")) [.lf l0],ouV (ZCA (r3-4)) v1),(.lf (.flt z_),fltS z_ hm),(.nd (.op sg) [.lf (.flt z_),.lf l1],fltS z_ hm),(.nd (.op sg) [.nd (.wd (zS "outer")) [.lf l0],.lf l1],opM sg (ouV (ZCA (r3-4)) v1) v2 hm)]) (fun N hN=>?_) ?_
      · refine ⟨_,rfl,.inl ⟨rfl,_,SqL.of du3.l⟩,?_⟩
        refine ⟨_,rfl,_,rfl,_,rfl,(by show 4≤sizeLine;decide),fun o4 ho4=>?_⟩
        have w8:=ZAM.new (o:=.tup [vS "op",.str sg,.ref t0,.ref a1]) ho4
        have eo4:upd J7 o4 (.tup [vS "op",.str sg,.ref t0,.ref a1]) o4=some (.tup [vS "op",.str sg,.ref t0,.ref a1]):=ZAE
        generalize upd J7 o4 (.tup [vS "op",.str sg,.ref t0,.ref a1])=J8 at *
        have fo4:ZB4 J8 (.ref o4) (.nd (.op sg) [.nd (.wd (zS "outer")) [.lf l0],.lf l1]):=mk2 (t:=o4) eo4 rfl (ZB4.kp fo0 (du3.q.trans (Kp.same w8))) (ZB4.kp fb0 (du3.q.trans (Kp.same w8)))
        refine ⟨_,rfl,_,rfl,_,rfl,_,rfl,sg,ud,u2,.ref qh,_,_,hm,rfl,hs7,hud17.kp (du3.q.trans (Kp.same w8)),hv217.kp (du3.q.trans (Kp.same w8)),okd,ok2,hh17.kp (du3.q.trans (Kp.same w8)),fun z4 J9 hz4 w9=>?_⟩
        refine ⟨ZAn,fun p4 hp4=>?_⟩
        have w10:=ZAM.new (o:=.tup [.ref o4,z4]) hp4
        have d4:ZEQ (upd J9 p4 (.tup [.ref o4,z4])) (.ref p4) (.nd (.op sg) [.nd (.wd (zS "outer")) [.lf l0],.lf l1],opM sg (ouV (ZCA (r3-4)) v1) v2 hm):=ZEQ.new hp4 (ZB4.kp fo4 (Kp.same w9)) hz4
        generalize upd J9 p4 (.tup [.ref o4,z4])=J10 at *
        have w810:=w8.trans (w9.trans w10)
        exact ⟨ld,_,_,rfl,rfl,w810 _ _ du3.l,ZDM (du3.len (by show 3≤1000;omega)),hN _ _ ⟨ld,_,rfl,du3.add w810 d4⟩⟩
      rintro σ KA ⟨ld,us4,rfl,du4⟩
      refine ZEZ (fun σ H=>∃ ld us,σ=[some (.ref a),some (.ref p),some (.int (0+(i:Int))),some (.int (r3-4)),some (.ref kn),some (.ref q1),some u2,some (.ref qh),some (.str z_),some (.str sg),some (.ref t0),some ud,some (.ref qf),some (.ref a1),some (.ref ld),x15,x16,x17,x18]∧Du K (a,ns) t.P_reckoned t.P_law H p (i*2000+1900) kn kvs1 H17 ld us [(.nd (.wd (zS "outer")) [.lf l0],ouV (ZCA (r3-4)) v1),(.lf (.flt z_),fltS z_ hm),(.nd (.op sg) [.lf (.flt z_),.lf l1],fltS z_ hm),(.nd (.op sg) [.nd (.wd (zS "outer")) [.lf l0],.lf l1],opM sg (ouV (ZCA (r3-4)) v1) v2 hm),(.nd .neg [.nd (.wd (zS "outer")) [.lf l0]],opM (Str.ofString "-") (.num 0 1) (ouV (ZCA (r3-4)) v1) hm)]) (fun N hN=>?_) ?_
      · refine ⟨_,rfl,.inl ⟨rfl,_,SqL.of du4.l⟩,?_⟩
        refine ⟨_,rfl,ZAn,fun o5 ho5=>?_⟩
        have m1:=ZAM.new (o:=.tup [vS "neg",.ref t0]) ho5
        have eo5:upd KA o5 (.tup [vS "neg",.ref t0]) o5=some (.tup [vS "neg",.ref t0]):=ZAE
        generalize upd KA o5 (.tup [vS "neg",.ref t0])=M1 at *
        have fo5:ZB4 M1 (.ref o5) (.nd .neg [.nd (.wd (zS "outer")) [.lf l0]]):=mk1 (t:=o5) eo5 rfl (ZB4.kp fo0 (du4.q.trans (Kp.same m1)))
        refine ⟨ZAk,fun qn hqn=>?_⟩
        have m2:=ZAM.new (o:=.tup [vS "number",.int 0,.int 1]) hqn
        have hn5:ZBT (upd M1 qn (.tup [vS "number",.int 0,.int 1])) (.ref qn) (.num 0 1):=⟨qn,rfl,ZAE⟩
        generalize upd M1 qn (.tup [vS "number",.int 0,.int 1])=M2 at *
        have k5:=du4.q.trans (Kp.same (m1.trans m2))
        refine ⟨_,rfl,_,rfl,Str.ofString "-",.ref qn,ud,.ref qh,.num 0 1,_,hm,rfl,(by decide +kernel),hn5,hud17.kp k5,⟨⟨by decide,by decide⟩,by decide,by decide⟩,okd,hh17.kp k5,fun z5 M3 hz5 m3=>?_⟩
        refine ⟨ZAn,fun p5 hp5=>?_⟩
        have m4':=ZAM.new (o:=.tup [.ref o5,z5]) hp5
        have d5:ZEQ (upd M3 p5 (.tup [.ref o5,z5])) (.ref p5) (.nd .neg [.nd (.wd (zS "outer")) [.lf l0]],opM (Str.ofString "-") (.num 0 1) (ouV (ZCA (r3-4)) v1) hm):=ZEQ.new hp5 (ZB4.kp fo5 (Kp.same (m2.trans m3))) hz5
        generalize upd M3 p5 (.tup [.ref o5,z5])=M4 at *
        have m14:=m1.trans (m2.trans (m3.trans m4'))
        exact ⟨ld,_,_,rfl,rfl,m14 _ _ du4.l,ZDM (du4.len (by show 4≤1000;omega)),hN _ _ ⟨ld,_,rfl,du4.add m14 d5⟩⟩
      rintro σ KB ⟨ld,us5,rfl,du5⟩
      refine ZEZ (fun σ H=>∃ ld us,σ=[some (.ref a),some (.ref p),some (.int (0+(i:Int))),some (.int (r3-4)),some (.ref kn),some (.ref q1),some u2,some (.ref qh),some (.str z_),some (.str sg),some (.ref t0),some ud,some (.ref qf),some (.ref a1),some (.ref ld),x15,x16,x17,x18]∧Du K (a,ns) t.P_reckoned t.P_law H p (i*2000+1900) kn kvs1 H17 ld us [(.nd (.wd (zS "outer")) [.lf l0],ouV (ZCA (r3-4)) v1),(.lf (.flt z_),fltS z_ hm),(.nd (.op sg) [.lf (.flt z_),.lf l1],fltS z_ hm),(.nd (.op sg) [.nd (.wd (zS "outer")) [.lf l0],.lf l1],opM sg (ouV (ZCA (r3-4)) v1) v2 hm),(.nd .neg [.nd (.wd (zS "outer")) [.lf l0]],opM (Str.ofString "-") (.num 0 1) (ouV (ZCA (r3-4)) v1) hm),(.nd (.wd (zS "outer")) [.lf (.flt z_)],fltS z_ hm)]) (fun N hN=>?_) ?_
      · refine ⟨_,rfl,.inl ⟨rfl,_,SqL.of du5.l⟩,?_⟩
        refine ⟨_,rfl,ZAn,fun f6 hf6=>⟨ZAn,fun o6 ho6=>?_⟩⟩
        have n1:=ZAM.new (o:=.tup [vS "fault",.str z_]) hf6
        have ef6:upd KB f6 (.tup [vS "fault",.str z_]) f6=some (.tup [vS "fault",.str z_]):=ZAE
        generalize upd KB f6 (.tup [vS "fault",.str z_])=N1 at *
        have n2:=ZAM.new (o:=.tup [vS "outer",.ref f6]) ho6
        have eo6:upd N1 o6 (.tup [vS "outer",.ref f6]) o6=some (.tup [vS "outer",.ref f6]):=ZAE
        generalize upd N1 o6 (.tup [vS "outer",.ref f6])=N2 at *
        have fo6:ZB4 N2 (.ref o6) (.nd (.wd (zS "outer")) [.lf (.flt z_)]):=mk1 (t:=o6) eo6 rfl (.lf (show ZGt N2 f6 (.flt z_) from n2 _ _ ef6))
        refine ⟨_,rfl,ZAn,fun p6 hp6=>?_⟩
        have n3:=ZAM.new (o:=.tup [.ref o6,.ref qf]) hp6
        have d6:ZEQ (upd N2 p6 (.tup [.ref o6,.ref qf])) (.ref p6) (.nd (.wd (zS "outer")) [.lf (.flt z_)],fltS z_ hm):=ZEQ.new hp6 fo6 (hft17.kp (du5.q.trans (Kp.same (n1.trans n2))))
        generalize upd N2 p6 (.tup [.ref o6,.ref qf])=N3 at *
        have n13:=n1.trans (n2.trans n3)
        exact ⟨ld,_,_,rfl,rfl,n13 _ _ du5.l,ZDM (du5.len (by show 5≤1000;omega)),hN _ _ ⟨ld,_,rfl,du5.add n13 d6⟩⟩
      rintro σ KC ⟨ld,us6,rfl,du6⟩
      refine ZEZ (fun σ H=>∃ ld us,σ=[some (.ref a),some (.ref p),some (.int (0+(i:Int))),some (.int (r3-4)),some (.ref kn),some (.ref q1),some u2,some (.ref qh),some (.str z_),some (.str sg),some (.ref t0),some ud,some (.ref qf),some (.ref a1),some (.ref ld),x15,x16,x17,x18]∧Du K (a,ns) t.P_reckoned t.P_law H p (i*2000+1900) kn kvs1 H17 ld us [(.nd (.wd (zS "outer")) [.lf l0],ouV (ZCA (r3-4)) v1),(.lf (.flt z_),fltS z_ hm),(.nd (.op sg) [.lf (.flt z_),.lf l1],fltS z_ hm),(.nd (.op sg) [.nd (.wd (zS "outer")) [.lf l0],.lf l1],opM sg (ouV (ZCA (r3-4)) v1) v2 hm),(.nd .neg [.nd (.wd (zS "outer")) [.lf l0]],opM (Str.ofString "-") (.num 0 1) (ouV (ZCA (r3-4)) v1) hm),(.nd (.wd (zS "outer")) [.lf (.flt z_)],fltS z_ hm),(.nd (.wd (zS "outer")) [.nd (.wd (zS "outer")) [.lf l0]],ouV (ZCA (r3-4)) (ouV (ZCA (r3-4)) v1))]) (fun N hN=>?_) ?_
      · refine ⟨_,rfl,.inl ⟨rfl,_,SqL.of du6.l⟩,?_⟩
        refine ⟨_,rfl,ZAn,fun o7 ho7=>?_⟩
        have q1':=ZAM.new (o:=.tup [vS "outer",.ref t0]) ho7
        have eo7:upd KC o7 (.tup [vS "outer",.ref t0]) o7=some (.tup [vS "outer",.ref t0]):=ZAE
        generalize upd KC o7 (.tup [vS "outer",.ref t0])=O1 at *
        have k7:=du6.q.trans (Kp.same q1')
        have fo7:ZB4 O1 (.ref o7) (.nd (.wd (zS "outer")) [.nd (.wd (zS "outer")) [.lf l0]]):=mk1 (t:=o7) eo7 rfl (ZB4.kp fo0 k7)
        have hud7:=hud17.kp k7
        refine ⟨_,rfl,_,rfl,_,rfl,ud,r3-4,_,rfl,hud7,okd,m4,m5,fun x7 O2 hx7 q2'=>⟨ZAn,fun lx hlx=>?_⟩⟩
        have q3':=ZAM.new (o:=.lst [ud,x7]) hlx
        have elx:upd O2 lx (.lst [ud,x7]) lx=some (.lst [ud,x7]):=ZAE
        generalize upd O2 lx (.lst [ud,x7])=O3 at *
        have hud73:=hud7.kp (Kp.same (q2'.trans q3'))
        have hx73:=hx7.kp (Kp.same q3')
        obtain ⟨qd,xsd,rfl,hqd,_⟩:=hud73.hd
        refine ⟨_,rfl,qd,_,_,_,rfl,rfl,SqT.of hqd,ZAc,rfl,?_⟩
        obtain ⟨y7,hy7,hv7⟩:∃ y,atI [V.ref qd,x7] (if (!isF (ouV (ZCA (r3-4)) v1))=true then 1 else 0)=some y∧ZBT O3 y (ouV (ZCA (r3-4)) (ouV (ZCA (r3-4)) v1)):=by
          cases c:isF (ouV (ZCA (r3-4)) v1) with
          | true=>exact ⟨_,rfl,by rw [show ouV (ZCA (r3-4)) (ouV (ZCA (r3-4)) v1)=ouV (ZCA (r3-4)) v1 from if_pos c];exact hud73⟩
          | false=>exact ⟨_,rfl,by rw [show ouV (ZCA (r3-4)) (ouV (ZCA (r3-4)) v1)=ZCA (r3-4) (ouV (ZCA (r3-4)) v1) from if_neg (by rw [c];simp)];exact hx73⟩
        refine .inr ⟨!isF (ouV (ZCA (r3-4)) v1),rfl,lx,_,_,_,rfl,rfl,SqL.of elx,hy7,?_⟩
        refine ⟨ZAn,fun p7 hp7=>?_⟩
        have q4':=ZAM.new (o:=.tup [.ref o7,y7]) hp7
        have d7:ZEQ (upd O3 p7 (.tup [.ref o7,y7])) (.ref p7) (.nd (.wd (zS "outer")) [.nd (.wd (zS "outer")) [.lf l0]],ouV (ZCA (r3-4)) (ouV (ZCA (r3-4)) v1)):=ZEQ.new hp7 (ZB4.kp fo7 (Kp.same (q2'.trans q3'))) hv7
        generalize upd O3 p7 (.tup [.ref o7,y7])=O4 at *
        have q14:=q1'.trans (q2'.trans (q3'.trans q4'))
        exact ⟨ld,_,_,rfl,rfl,q14 _ _ du6.l,ZDM (du6.len (by show 6≤1000;omega)),hN _ _ ⟨ld,_,rfl,du6.add q14 d7⟩⟩
      rintro σ KE ⟨ld,us7,rfl,du7⟩
      refine ZEZ (fun σ H=>∃ ld us,σ=[some (.ref a),some (.ref p),some (.int (0+(i:Int))),some (.int (r3-4)),some (.ref kn),some (.ref q1),some u2,some (.ref qh),some (.str z_),some (.str sg),some (.ref t0),some ud,some (.ref qf),some (.ref a1),some (.ref ld),x15,x16,x17,x18]∧Du K (a,ns) t.P_reckoned t.P_law H p (i*2000+1900) kn kvs1 H17 ld us (X6a l0 l1 z_ sg (r3-4) v1 v2 hm)) (fun N hN=>?_) ?_
      · refine ⟨_,rfl,.inl ⟨rfl,_,SqL.of du7.l⟩,?_⟩
        refine ⟨_,rfl,ZAn,fun f8 hf8=>⟨ZAn,fun o8 ho8=>?_⟩⟩
        have r1:=ZAM.new (o:=.tup [vS "sum",.ref a1]) hf8
        have ef8:upd KE f8 (.tup [vS "sum",.ref a1]) f8=some (.tup [vS "sum",.ref a1]):=ZAE
        generalize upd KE f8 (.tup [vS "sum",.ref a1])=R1 at *
        have r2:=ZAM.new (o:=.tup [vS "outer",.ref f8]) ho8
        have eo8:upd R1 o8 (.tup [vS "outer",.ref f8]) o8=some (.tup [vS "outer",.ref f8]):=ZAE
        generalize upd R1 o8 (.tup [vS "outer",.ref f8])=R2 at *
        have k8:=du7.q.trans (Kp.same (r1.trans r2))
        have fo8:ZB4 R2 (.ref o8) (.nd (.wd (zS "outer")) [.nd (.wd (zS "sum")) [.lf l1]]):=mk1 (t:=o8) eo8 rfl (mk1 (t:=f8) (r2 _ _ ef8) rfl (ZB4.kp fb0 k8))
        refine ⟨_,rfl,_,rfl,u2,r3-4,v2,rfl,hv217.kp k8,ok2,m4,m5,fun x8 R3 hx8 r3'=>⟨ZAn,fun p8 hp8=>?_⟩⟩
        have r4:=ZAM.new (o:=.tup [.ref o8,x8]) hp8
        have d8:ZEQ (upd R3 p8 (.tup [.ref o8,x8])) (.ref p8) (.nd (.wd (zS "outer")) [.nd (.wd (zS "sum")) [.lf l1]],ZPD (r3-4) v2):=ZEQ.new hp8 (ZB4.kp fo8 (Kp.same r3')) hx8
        generalize upd R3 p8 (.tup [.ref o8,x8])=R4 at *
        have r14:=r1.trans (r2.trans (r3'.trans r4))
        exact ⟨ld,_,_,rfl,rfl,r14 _ _ du7.l,ZDM (du7.len (by show 7≤1000;omega)),hN _ _ ⟨ld,_,rfl,du7.add r14 d8⟩⟩
      rintro σ KD ⟨ld,us8,rfl,du8⟩
      have h8:=ZRT L0 L1 hzf okf hsO m4 m5
      have hx1:∀ xd,(X6a l0 l1 z_ sg (r3-4) v1 v2 hm++(X6a l0 l1 z_ sg (r3-4) v1 v2 hm).take 1)[0]?=some xd→xd=(.nd (.wd (zS "outer")) [.lf l0],ouV (ZCA (r3-4)) v1):=fun xd h=>(Option.some.inj h).symm
      have lu:us8.length=8:=Paired.length du8.d
      generalize X6a l0 l1 z_ sg (r3-4) v1 v2 hm=XL at *
      refine ⟨Nat.zero_le _,fun L hL=>?_⟩
      have nkL:kn≠L:=fun z=>by rw [← z,du8.k] at hL;cases hL
      have sL:=ZAM.new (o:=.lst []) hL
      have hL1:upd KD L (.lst []) L=some (.lst []):=ZAE
      generalize upd KD L (.lst [])=G1 at *
      refine ⟨_,rfl,_,rfl,_,rfl,ld,us8,rfl,SqL.of (sL _ _ du8.l),fun lc hlc=>?_⟩
      have ec:ZFE us8 none (some 1)=us8.take 1:=ZMO (j:=1) (by omega)
      have sc:=ZAM.new (o:=.lst (ZFE us8 none (some 1))) hlc
      have hlc1:upd G1 lc (.lst (ZFE us8 none (some 1))) lc=some (.lst (us8.take 1)):=by rw [ZAE,ec]
      generalize upd G1 lc (.lst (ZFE us8 none (some 1)))=G2 at *
      refine ⟨ld,lc,us8,us8.take 1,rfl,rfl,sc _ _ (sL _ _ du8.l),hlc1,ZC0 (by rw [List.length_take];omega),fun lq hlq=>⟨lq,rfl,⟨_,SqL.of ZAE⟩,?_⟩⟩
      have sq:=ZAM.new (o:=.lst (us8++us8.take 1)) hlq
      have hlq1:upd G2 lq (.lst (us8++us8.take 1)) lq=some (.lst (us8++us8.take 1)):=ZAE
      have nLq:lq≠L:=fun z=>by rw [z,sc _ _ hL1] at hlq;cases hlq
      generalize upd G2 lq (.lst (us8++us8.take 1))=HS at *
      have sS:=sL.trans (sc.trans sq)
      have hLS:=(sc.trans sq) _ _ hL1
      have evS:=du8.e.same sS
      have kS:=du8.q.trans (Kp.same sS)
      have duS0:Paired (ZEQ HS) us8 XL:=Paired.imp' (fun _ _ x=>ZEQ.kp x (Kp.same sS)) du8.d
      have duS:Paired (ZEQ HS) (us8++us8.take 1) (XL++XL.take 1):=ZKr duS0 (ZLl 1 duS0)
      have all9:∀ x∈XL++XL.take 1,OkD dom g (ZCA (r3-4)) hm x:=fun x hx=>(List.mem_append.mp hx).elim (h8 x) (fun h=>h8 x (List.mem_of_mem_take h))
      have dpS:DpF kn dom g HS:=dp17.kq j1 (sS _ _ du8.k) kS
      have hhS:=hh17.kp kS
      have hvS:=hv117.kp kS
      refine ZEw (xs:=us8++us8.take 1) (fun j σ H5=>∃ x16 x17 x18 us acc,σ=[some (.ref a),some (.ref p),some (.int (0+(i:Int))),some (.int (r3-4)),some (.ref kn),some (.ref q1),some u2,some (.ref qh),some (.str z_),some (.str sg),some (.ref t0),some ud,some (.ref qf),some (.ref a1),some (.ref ld),some (.ref L),x16,x17,x18]∧ZFh K (a,ns) t.P_reckoned t.P_law H5 p (i*2000+1900)∧SmX L HS H5∧H5 L=some (.lst us)∧ZEG H5 us acc∧acc.length≤4*j∧(∀ v∈acc,isF v=false)∧(1≤j→isF v1=false→v1∈acc))
        ⟨_,_,_,[],[],rfl,evS,fun b o _ e _=>e,hLS,.nil,Nat.zero_le _,List.forall_mem_nil _,fun z=>absurd z (by omega)⟩ ?_ ?_ ?_
      · rintro j σ H5 _ ⟨x16,x17,x18,us,acc,rfl,ev5,sm5,_⟩
        exact SqL.of (sm5 _ _ nLq hlq1 rfl)
      · rintro j x σ H5 hx ⟨x16,x17,x18,us,acc,rfl,ev5,sm5,hL5,vus5,hl5,nf5,in5⟩
        have kp5:Kp HS H5:=sm5.kp hLS
        obtain ⟨xd,hxd,q,f,y,rfl,hq,fm,vy⟩:=ZBA duS hx
        have okd:=all9 xd (List.mem_of_getElem? hxd)
        have fm5:=ZB4.kp fm kp5
        have dp5:DpF kn dom g H5:=ZMh nkL HS H5 sm5 kp5 dpS
        have hh5:=hhS.kp kp5
        have hj:j<9:=by
          have:=(List.getElem?_eq_some_iff.mp hx).1
          rw [List.length_append,List.length_take] at this
          omega
        refine ⟨q,_,rfl,SqT.of (kp5 _ _ hq),rfl,_,_,rfl,_,_,rfl,rfl,?_⟩
        obtain ⟨psL,hPL,_⟩:=id ev5.tL
        refine ⟨_,rfl,_,rfl,ev5.tL,fun f1 HA nf1 keep1 tab1 lam1=>⟨tab1,fun f2 HB nf2 keep2 tab2 lam2=>?_⟩⟩
        obtain ⟨psM,hPM,_⟩:=id tab1
        obtain ⟨cd1,ctv1,hf1,hc1⟩:=lam1
        obtain ⟨cd2,ctv2,hf2,hc2⟩:=lam2
        have hf1':=keep2 _ _ (ZCH hf1 hPM (by intro z;cases z)) hf1
        have hc1':ZHr HB qL cd1:=hc1.keep fun b o e=>keep2 _ _ (ZCH e hPM (by intro z;cases z)) e
        have sd:=(SmD.tab hPL keep1).trans (SmD.tab hPM keep2)
        have sdd:=sd.trans (SmD.del qL HB)
        have tR6:ZCI HB t.P_reckoned qR:=ZMY (ZMY ev5.tR T.ne_reckoned_law hPL keep1) T.ne_reckoned_law hPM keep2
        refine ⟨qL,ZMe t.P_reckoned L f1 f2 (DpF kn dom g) (ZSR L) (ZGe (ZCA (r3-4)) g) (lg6 (ZCA (r3-4)) g) (ZKt dom g (ZCA (r3-4)) (ZGe (ZCA (r3-4)) g) (lg6 (ZCA (r3-4)) g)),fun base' W=>?_,?_⟩
        · refine ZID (fo:=ZCA (r3-4)) T ?_ ?_ (ZMh nkL) (ZPA L) (hCR.keeps W.sub) (hB.keep W.sub)
          · refine W.lam (k:=0) (ps:=["_law_spot"]) (fv:=["_law_known"]) (js:=[4]) hf1' hc1' ⟨rfl,rfl,rfl,by decide +kernel,(List.forall_mem_cons.mpr ⟨rfl,(List.forall_mem_nil _)⟩),by decide +kernel,by decide +kernel,(List.forall_mem_cons.mpr ⟨⟨rfl,rfl,rfl⟩,(List.forall_mem_nil _)⟩),(List.forall_mem_cons.mpr ⟨rfl,(List.forall_mem_nil _)⟩),(.cons rfl .nil)⟩ (fun us hl=>by obtain ⟨_,rfl⟩:=ZCY hl;rfl) (fun vs H Q E h=>?_) (fun A outer s H vs Q E hr h=>?_)
            · obtain ⟨_,_,_,_,rfl,_⟩:=h
              rfl
            · obtain ⟨q,z,r,c,rfl,hq,⟨kv,hkv,dk⟩,dm,k'⟩:=h
              have hu1:=ZHA hr
              obtain ⟨x,hx,vx⟩:=dk z r c dm
              refine ⟨_,(ZJ1 hu1 (pv 1) (pv 0) (fun _ _=>rfl)),?_⟩
              exact ⟨_,rfl,_,rfl,kn,x,rfl,hx▸ZHe.t (k:=cK z r c) hkv hq,k' x H vx (ZAM.refl _)⟩
          · refine W.lam (k:=3) (ps:=["_law_own"]) (fv:=["_law_more","_law_asked"]) (js:=[3,15]) hf2 hc2 ⟨rfl,rfl,rfl,by decide +kernel,(List.forall_mem_cons.mpr ⟨rfl,(List.forall_mem_nil _)⟩),by decide +kernel,by decide +kernel,(List.forall_mem_cons.mpr ⟨⟨rfl,rfl,rfl⟩,(List.forall_mem_cons.mpr ⟨⟨rfl,rfl,rfl⟩,(List.forall_mem_nil _)⟩)⟩),(List.forall_mem_cons.mpr ⟨rfl,(List.forall_mem_cons.mpr ⟨rfl,(List.forall_mem_nil _)⟩)⟩),(.cons rfl (.cons rfl .nil))⟩ (fun us hl=>by obtain ⟨_,rfl⟩:=ZCY hl;rfl) (fun vs H Q E h=>?_) (fun A outer s H vs Q E hr h=>?_)
            · obtain ⟨_,_,_,rfl,_⟩:=h
              rfl
            · obtain ⟨x,v,acc',rfl,hv,okv,nf,⟨us',hus,vus⟩,hbd,k'⟩:=h
              have hul:us'.length=acc'.length:=Paired.length vus
              rw [List.length_append] at hbd
              refine ⟨_,(ZAW T.c__law_note (ZHc T) (hr.mono (by decide)) (ZAA (pv 2) (ZAA (pv 0) (ZAA (pv 1) ZAB)))),?_⟩
              exact ⟨_,rfl,_,rfl,_,rfl,L,us',x,r3-4,v,rfl,hus,(by omega),hv,okv,m4,m5,fun y H' hy hL' kx=>k' y H' hy kx ⟨_,hL',ZHN (ZEG.kp vus (Kp.lst hus kx)) (hv.kp (Kp.lst hus kx))⟩⟩
        have lgl:=ZK1 (fo:=ZCA (r3-4)) (g:=g) (hm:=hm) (alF xd.1)
        rw [ZFP] at lgl
        have lgn:=okd.n
        refine ⟨f,.ref qh,xd.1,3,hm,acc,rfl,ZB4.kp fm5 sdd.kp,okd.f,(by decide),okd.a,DpF.smd sdd dp5,⟨us,sdd _ _ hL5 rfl,ZEG.kp vus5 sdd.kp⟩,(by rw [List.length_append];omega),hh5.kp sdd.kp,ZNY tR6 qRL,fun x HC hx6 keep3 tab3 ask3 hn=>?_⟩
        rw [okd.e] at hx6
        obtain ⟨usC,hus3,vus3⟩:=ask3
        obtain ⟨psR,hPR,_⟩:=id tR6
        have hL6:HB L=some (.lst us):=sd _ _ hL5 rfl
        have kx:∀ b o,b≠t.P_reckoned→b≠L→HB b=some o→L2.put qL HB HC b=some o:=ZKv keep3
        have husD:L2.put qL HB HC L=some (.lst usC):=by rw [ZCJ (by rw [hL6];exact ZKX rfl)];exact hus3
        have vusD:=ZEG.kp vus3 (Kp.back hn)
        have evD:ZFh K (a,ns) t.P_reckoned t.P_law (L2.put qL HB HC) p (i*2000+1900):=⟨du8.e.pen.lz hL (ev5.pen.smd sd) hPR kx,ZLz tab3 hn,ZPB tab2 (Ne.symm T.ne_reckoned_law) hPR hL6 kx⟩
        have smD:SmX L HS (L2.put qL HB HC):=fun b o nb e d=>kx b o (fun z=>by have e':=sd _ _ (sm5 b o nb e d) d;rw [z,hPR] at e';cases e';cases d) nb (sd _ _ (sm5 b o nb e d) d)
        have hx':=hx6.kp (Kp.back hn)
        have vyD:=vy.kp (smD.kp hLS)
        generalize L2.put qL HB HC=HD at *
        refine ⟨_,rfl,_,rfl,(by show 1≤sizeLine;decide),fun qa hqa=>⟨(by show 1≤sizeLine;decide),fun qb hqb=>?_⟩⟩
        have s2:=(ZAM.new (o:=.tup [y]) hqa).trans (ZAM.new (o:=.tup [.ref qa]) hqb)
        have t2:ZHf (upd (upd HD qa (.tup [y])) qb (.tup [.ref qa])) (.ref qb) (.tup [.tup [trV xd.2]]) 4:=.ofP (n:=3) ZAE (by simp) (.cons (.ofP (n:=2) (ZAM.new hqb _ _ ZAE) (by simp) (.cons (vyD.kp (Kp.same s2)).tr .nil)) .nil)
        refine ⟨x,.ref qb,_,rfl,hx'.tr.kp (Kp.same s2),t2,fun HE s3=>⟨true,rfl,ZAo ?_⟩⟩
        have s23:=s2.trans s3
        refine ⟨_,_,_,usC,_,rfl,evD.same s23,fun b o nb e d=>s23 _ _ (smD b o nb e d),s23 _ _ husD,ZEG.kp vusD (Kp.same s23),(by rw [List.length_append];omega),fun v hv=>(List.mem_append.mp hv).elim (nf5 v) ZPH,fun _ c=>?_⟩
        by_cases hj0:j=0
        · subst hj0
          rw [hx1 xd hxd]
          exact List.mem_append_right _ (ZPI L0 c)
        · exact List.mem_append_left _ (in5 (by omega) c)
      · rintro σ H6 ⟨x16,x17,x18,us,acc,rfl,ev6,sm6,hL6,vus6,hl6,nf6,in6⟩
        have in6':=in6 (by rw [List.length_append];omega)
        have hv16:=hvS.kp (sm6.kp hLS)
        refine ⟨_,rfl,L,rfl,⟨_,SqL.of hL6⟩,fun D hD=>?_⟩
        refine ⟨fun j mm H=>mm=us.length-j∧j≤us.length∧H D=some (.lst [])∧ZAM H6 H,⟨us.length,rfl,Nat.zero_le _,ZAE,ZAM.new hD⟩,?_⟩
        rintro j mm H51 ⟨rfl,hj,hD51,s51⟩
        have hus51:=s51 _ _ hL6
        by_cases hlt:j<us.length
        · obtain ⟨xo,hxo⟩:∃ x,us[j]?=some x:=⟨_,List.getElem?_eq_getElem hlt⟩
          refine .inr ⟨⟨_,_,SqL.of hus51,hxo⟩,fun x' H' y=>?_⟩
          obtain ⟨e4,y⟩:=y
          subst e4
          have hx':=y _ (SqL.of hus51)
          rw [hxo] at hx'
          cases hx'
          obtain ⟨vo,hvo,xv⟩:=ZBA vus6 hxo
          have nfo:=nf6 vo (List.mem_of_getElem? hvo)
          have xv51:=ZBT.kp xv (Kp.same s51)
          obtain ⟨q,xs,rfl,hq,hit⟩:=xv51.hd
          refine ⟨_,rfl,q,_,_,_,rfl,rfl,SqT.of hq,ZAc,rfl,false,congrArg V.bl nfo,ZAo ?_⟩
          exact ⟨us.length-(j+1),(by omega),rfl,hlt,hD51,s51⟩
        · have ej:j=us.length:=by omega
          subst ej
          refine .inl ⟨⟨_,SqL.of hus51,Nat.le_refl _⟩,?_⟩
          refine ⟨D,_,rfl,.inl (SqL.of hD51),_,_,rfl,rfl,false,(by decide),ZAo ?_⟩
          obtain ⟨q',xs',e',hq',it'⟩:=(hv16.kp (Kp.same s51)).hd
          cases e'
          have vus51:=ZEG.kp vus6 (Kp.same s51)
          have evZ:=(ev6.same s51).mono (n':=(i+1)*2000) (by omega)
          refine ⟨_,rfl,q1,_,_,_,rfl,rfl,SqT.of hq',ZAc,rfl,!(isF v1),rfl,ZDJ (fun c=>?_) (fun c=>?_)⟩
          · refine ⟨_,rfl,_,rfl,q1,L,_,_,_,rfl,rfl,hus51,hq',it',vus51.tps,false,(by rw [ZL5 vus51 (in6' (by simpa using c))];rfl),ZAo ?_⟩
            exact ⟨_,_,_,_,_,_,_,_,_,_,_,_,_,_,_,_,_,rfl,evZ⟩
          · refine ZAo ?_
            exact ⟨_,_,_,_,_,_,_,_,_,_,_,_,_,_,_,_,_,rfl,evZ⟩
    · rintro σ H2 ⟨x2,x3,x4,x5,x6,x7,x8,x9,x10,x11,x12,x13,x14,x15,x16,x17,x18,rfl,ev2⟩
      exact k _
end
theorem ZPL {l:PySem.W.OpenLaw}{w:World}{K:PySem.W.Frag}{h:Heap}{q:Program}{loose:List Str}{mean:ExcName→Option Value}{mg mb:Str→Option Value}{fa:Addr}(X:K.In h)(T0:PyProof.Rows.Top q loose mean mg mb h)(hfa:mg "law"=some (.ref fa))
    {w_PART_PLACES:Addr} {o_PART_PLACES:Obj} {w_ONE_PLACE:Addr} {o_ONE_PLACE:Obj} {u_GREATEST_WHOLE:Value} {u_SIGNS:Value} {u_MOST_SIGNS:Value} {u_COLUMN_LETTERS:Value} {w_NOUGHT:Addr} {o_NOUGHT:Obj} {f0 f1 f2 f3 f4 f5 f6 f7 f8 f9 f10 f11 f12 f13 f14 f15 f16 f17 f18 f19 f20 f21 f22 f23 f24 f25 f26 f27 f28 f29 f30 f31 f32 f33 f34 f35 f36 f37 f38 f39 f40 f41 f42 f43 f44 f45 f46 f47 f48 f49 f50 f51 f52 f53 f54 f55 f56 f57 f58 f59 f60 f61 f62 f63:Addr} {od0 an0 od1 an1 od2 an2 od3 an3 od4 an4 od5 an5 od6 an6 od7 an7 od8 an8 od9 an9 od10 an10 od11 an11 od12 an12 od13 an13 od14 an14 od15 an15 od16 an16 od17 an17 od18 an18 od19 an19 od20 an20 od21 an21 od22 an22 od23 an23 od24 an24 od25 an25 od26 an26 od27 an27 od28 an28 od29 an29 od30 an30 od31 an31 od32 an32 od33 an33 od34 an34 od35 an35 od36 an36 od37 an37 od38 an38 od39 an39 od40 an40 od41 an41 od42 an42 od43 an43 od44 an44 od45 an45 od46 an46 od47 an47 od48 an48 od49 an49 od50 an50 od51 an51 od52 an52 od53 an53 od54 an54 od55 an55 od56 an56 od57 an57 od58 an58 od59 an59 od60 an60 od61 an61 od62 an62 od63 an63:Option Addr} {sl0 sl1 sl2 sl3 sl4 sl5 sl6 sl7 sl8 sl9 sl10 sl11 sl12 sl13 sl14 sl15 sl16 sl17 sl18 sl19 sl20 sl21 sl22 sl23 sl24 sl25 sl26 sl27 sl28 sl29 sl30 sl31 sl32 sl33 sl34 sl35 sl36 sl37 sl38 sl39 sl40 sl41 sl42 sl43 sl44 sl45 sl46 sl47 sl48 sl49 sl50 sl51 sl52 sl53 sl54 sl55 sl56 sl57 sl58 sl59 sl60 sl61 sl62 sl63:Array (Option Value)} {oc0 kV0 dc0 pm0 cd0 ct0 oc1 kV1 dc1 pm1 cd1 ct1 oc2 kV2 dc2 pm2 cd2 ct2 oc3 kV3 dc3 pm3 cd3 ct3 oc4 kV4 dc4 pm4 cd4 ct4 oc5 kV5 dc5 pm5 cd5 ct5 oc6 kV6 dc6 pm6 cd6 ct6 oc7 kV7 dc7 pm7 cd7 ct7 oc8 kV8 dc8 pm8 cd8 ct8 oc9 kV9 dc9 pm9 cd9 ct9 oc10 kV10 dc10 pm10 cd10 ct10 oc11 kV11 dc11 pm11 cd11 ct11 oc12 kV12 dc12 pm12 cd12 ct12 oc13 kV13 dc13 pm13 cd13 ct13 oc14 kV14 dc14 pm14 cd14 ct14 oc15 kV15 dc15 pm15 cd15 ct15 oc16 kV16 dc16 pm16 cd16 ct16 oc17 kV17 dc17 pm17 cd17 ct17 oc18 kV18 dc18 pm18 cd18 ct18 oc19 kV19 dc19 pm19 cd19 ct19 oc20 kV20 dc20 pm20 cd20 ct20 oc21 kV21 dc21 pm21 cd21 ct21 oc22 kV22 dc22 pm22 cd22 ct22 oc23 kV23 dc23 pm23 cd23 ct23 oc24 kV24 dc24 pm24 cd24 ct24 oc25 kV25 dc25 pm25 cd25 ct25 oc26 kV26 dc26 pm26 cd26 ct26 oc27 kV27 dc27 pm27 cd27 ct27 oc28 kV28 dc28 pm28 cd28 ct28 oc29 kV29 dc29 pm29 cd29 ct29 oc30 kV30 dc30 pm30 cd30 ct30 oc31 kV31 dc31 pm31 cd31 ct31 oc32 kV32 dc32 pm32 cd32 ct32 oc33 kV33 dc33 pm33 cd33 ct33 oc34 kV34 dc34 pm34 cd34 ct34 oc35 kV35 dc35 pm35 cd35 ct35 oc36 kV36 dc36 pm36 cd36 ct36 oc37 kV37 dc37 pm37 cd37 ct37 oc38 kV38 dc38 pm38 cd38 ct38 oc39 kV39 dc39 pm39 cd39 ct39 oc40 kV40 dc40 pm40 cd40 ct40 oc41 kV41 dc41 pm41 cd41 ct41 oc42 kV42 dc42 pm42 cd42 ct42 oc43 kV43 dc43 pm43 cd43 ct43 oc44 kV44 dc44 pm44 cd44 ct44 oc45 kV45 dc45 pm45 cd45 ct45 oc46 kV46 dc46 pm46 cd46 ct46 oc47 kV47 dc47 pm47 cd47 ct47 oc48 kV48 dc48 pm48 cd48 ct48 oc49 kV49 dc49 pm49 cd49 ct49 oc50 kV50 dc50 pm50 cd50 ct50 oc51 kV51 dc51 pm51 cd51 ct51 oc52 kV52 dc52 pm52 cd52 ct52 oc53 kV53 dc53 pm53 cd53 ct53 oc54 kV54 dc54 pm54 cd54 ct54 oc55 kV55 dc55 pm55 cd55 ct55 oc56 kV56 dc56 pm56 cd56 ct56 oc57 kV57 dc57 pm57 cd57 ct57 oc58 kV58 dc58 pm58 cd58 ct58 oc59 kV59 dc59 pm59 cd59 ct59 oc60 kV60 dc60 pm60 cd60 ct60 oc61 kV61 dc61 pm61 cd61 ct61 oc62 kV62 dc62 pm62 cd62 ct62 oc63 kV63 dc63 pm63 cd63 ct63:Value} {cc_reckoned pp_reckoned cc_law pp_law:Addr}
    (a0:PySem.W.nsIn K mainGlobals "is_whole"=some (some (.ref f0))) (l0:K.lookup f0=some ⟨oc0,od0,.func (PySem.W.fnOf "is_whole" "is_whole" (ZAT ZCm) (ZAQ ZCm) (ZAF ZCm) .none kV0 dc0 pm0 an0 cd0 ct0),sl0⟩) (c0:PySem.W.codeIn K cd0 "is_whole"=true) (k0:PySem.W.keepIn K (.ref f0)=true)
    (a1:PySem.W.nsIn K mainGlobals "greatest_divisor"=some (some (.ref f1))) (l1:K.lookup f1=some ⟨oc1,od1,.func (PySem.W.fnOf "greatest_divisor" "greatest_divisor" (ZAT ZAv) (ZAQ ZAv) (ZAF ZAv) .none kV1 dc1 pm1 an1 cd1 ct1),sl1⟩) (c1:PySem.W.codeIn K cd1 "greatest_divisor"=true) (k1:PySem.W.keepIn K (.ref f1)=true)
    (a2:PySem.W.nsIn K mainGlobals "is_number"=some (some (.ref f2))) (l2:K.lookup f2=some ⟨oc2,od2,.func (PySem.W.fnOf "is_number" "is_number" (ZAT ZCK) (ZAQ ZCK) (ZAF ZCK) .none kV2 dc2 pm2 an2 cd2 ct2),sl2⟩) (c2:PySem.W.codeIn K cd2 "is_number"=true) (k2:PySem.W.keepIn K (.ref f2)=true)
    (a3:PySem.W.nsIn K mainGlobals "number_of"=some (some (.ref f3))) (l3:K.lookup f3=some ⟨oc3,od3,.func (PySem.W.fnOf "number_of" "number_of" (ZAT ZCL) (ZAQ ZCL) (ZAF ZCL) .none kV3 dc3 pm3 an3 cd3 ct3),sl3⟩) (c3:PySem.W.codeIn K cd3 "number_of"=true) (k3:PySem.W.keepIn K (.ref f3)=true)
    (a4:PySem.W.nsIn K mainGlobals "sum_of"=some (some (.ref f4))) (l4:K.lookup f4=some ⟨oc4,od4,.func (PySem.W.fnOf "sum_of" "sum_of" (ZAT ZDm) (ZAQ ZDm) (ZAF ZDm) .none kV4 dc4 pm4 an4 cd4 ct4),sl4⟩) (c4:PySem.W.codeIn K cd4 "sum_of"=true) (k4:PySem.W.keepIn K (.ref f4)=true)
    (a5:PySem.W.nsIn K mainGlobals "difference_of"=some (some (.ref f5))) (l5:K.lookup f5=some ⟨oc5,od5,.func (PySem.W.fnOf "difference_of" "difference_of" (ZAT ZBL) (ZAQ ZBL) (ZAF ZBL) .none kV5 dc5 pm5 an5 cd5 ct5),sl5⟩) (c5:PySem.W.codeIn K cd5 "difference_of"=true) (k5:PySem.W.keepIn K (.ref f5)=true)
    (a6:PySem.W.nsIn K mainGlobals "product_of"=some (some (.ref f6))) (l6:K.lookup f6=some ⟨oc6,od6,.func (PySem.W.fnOf "product_of" "product_of" (ZAT ZB5) (ZAQ ZB5) (ZAF ZB5) .none kV6 dc6 pm6 an6 cd6 ct6),sl6⟩) (c6:PySem.W.codeIn K cd6 "product_of"=true) (k6:PySem.W.keepIn K (.ref f6)=true)
    (a7:PySem.W.nsIn K mainGlobals "quotient_of"=some (some (.ref f7))) (l7:K.lookup f7=some ⟨oc7,od7,.func (PySem.W.fnOf "quotient_of" "quotient_of" (ZAT ZBm) (ZAQ ZBm) (ZAF ZBm) .none kV7 dc7 pm7 an7 cd7 ct7),sl7⟩) (c7:PySem.W.codeIn K cd7 "quotient_of"=true) (k7:PySem.W.keepIn K (.ref f7)=true)
    (a8:PySem.W.nsIn K mainGlobals "is_less"=some (some (.ref f8))) (l8:K.lookup f8=some ⟨oc8,od8,.func (PySem.W.fnOf "is_less" "is_less" (ZAT ZDG) (ZAQ ZDG) (ZAF ZDG) .none kV8 dc8 pm8 an8 cd8 ct8),sl8⟩) (c8:PySem.W.codeIn K cd8 "is_less"=true) (k8:PySem.W.keepIn K (.ref f8)=true)
    (a9:PySem.W.nsIn K mainGlobals "has_few_figures"=some (some (.ref f9))) (l9:K.lookup f9=some ⟨oc9,od9,.func (PySem.W.fnOf "has_few_figures" "has_few_figures" (ZAT ZA5) (ZAQ ZA5) (ZAF ZA5) .none kV9 dc9 pm9 an9 cd9 ct9),sl9⟩) (c9:PySem.W.codeIn K cd9 "has_few_figures"=true) (k9:PySem.W.keepIn K (.ref f9)=true)
    (a10:PySem.W.nsIn K mainGlobals "is_short_number"=some (some (.ref f10))) (l10:K.lookup f10=some ⟨oc10,od10,.func (PySem.W.fnOf "is_short_number" "is_short_number" (ZAT ZA6) (ZAQ ZA6) (ZAF ZA6) .none kV10 dc10 pm10 an10 cd10 ct10),sl10⟩) (c10:PySem.W.codeIn K cd10 "is_short_number"=true) (k10:PySem.W.keepIn K (.ref f10)=true)
    (a11:PySem.W.nsIn K mainGlobals "number_in"=some (some (.ref f11))) (l11:K.lookup f11=some ⟨oc11,od11,.func (PySem.W.fnOf "number_in" "number_in" (ZAT ZCM) (ZAQ ZCM) (ZAF ZCM) .none kV11 dc11 pm11 an11 cd11 ct11),sl11⟩) (c11:PySem.W.codeIn K cd11 "number_in"=true) (k11:PySem.W.keepIn K (.ref f11)=true)
    (a12:PySem.W.nsIn K mainGlobals "number_value"=some (some (.ref f12))) (l12:K.lookup f12=some ⟨oc12,od12,.func (PySem.W.fnOf "number_value" "number_value" (ZAT ZBU) (ZAQ ZBU) (ZAF ZBU) .none kV12 dc12 pm12 an12 cd12 ct12),sl12⟩) (c12:PySem.W.codeIn K cd12 "number_value"=true) (k12:PySem.W.keepIn K (.ref f12)=true)
    (a13:PySem.W.nsIn K mainGlobals "reckoned_numbers"=some (some (.ref f13))) (l13:K.lookup f13=some ⟨oc13,od13,.func (PySem.W.fnOf "reckoned_numbers" "reckoned_numbers" (ZAT ZAw) (ZAQ ZAw) (ZAF ZAw) .none kV13 dc13 pm13 an13 cd13 ct13),sl13⟩) (c13:PySem.W.codeIn K cd13 "reckoned_numbers"=true) (k13:PySem.W.keepIn K (.ref f13)=true)
    (a14:PySem.W.nsIn K mainGlobals "cell_text"=some (some (.ref f14))) (l14:K.lookup f14=some ⟨oc14,od14,.func (PySem.W.fnOf "cell_text" "cell_text" (ZAT ZCN) (ZAQ ZCN) (ZAF ZCN) .none kV14 dc14 pm14 an14 cd14 ct14),sl14⟩) (c14:PySem.W.codeIn K cd14 "cell_text"=true) (k14:PySem.W.keepIn K (.ref f14)=true)
    (a15:PySem.W.nsIn K mainGlobals "is_text"=some (some (.ref f15))) (l15:K.lookup f15=some ⟨oc15,od15,.func (PySem.W.fnOf "is_text" "is_text" (ZAT ZDH) (ZAQ ZDH) (ZAF ZDH) .none kV15 dc15 pm15 an15 cd15 ct15),sl15⟩) (c15:PySem.W.codeIn K cd15 "is_text"=true) (k15:PySem.W.keepIn K (.ref f15)=true)
    (a16:PySem.W.nsIn K mainGlobals "number_text"=some (some (.ref f16))) (l16:K.lookup f16=some ⟨oc16,od16,.func (PySem.W.fnOf "number_text" "number_text" (ZAT ZBn) (ZAQ ZBn) (ZAF ZBn) .none kV16 dc16 pm16 an16 cd16 ct16),sl16⟩) (c16:PySem.W.codeIn K cd16 "number_text"=true) (k16:PySem.W.keepIn K (.ref f16)=true)
    (a17:PySem.W.nsIn K mainGlobals "value_text"=some (some (.ref f17))) (l17:K.lookup f17=some ⟨oc17,od17,.func (PySem.W.fnOf "value_text" "value_text" (ZAT ZB6) (ZAQ ZB6) (ZAF ZB6) .none kV17 dc17 pm17 an17 cd17 ct17),sl17⟩) (c17:PySem.W.codeIn K cd17 "value_text"=true) (k17:PySem.W.keepIn K (.ref f17)=true)
    (a18:PySem.W.nsIn K mainGlobals "signs_in"=some (some (.ref f18))) (l18:K.lookup f18=some ⟨oc18,od18,.func (PySem.W.fnOf "signs_in" "signs_in" (ZAT ZCn) (ZAQ ZCn) (ZAF ZCn) .none kV18 dc18 pm18 an18 cd18 ct18),sl18⟩) (c18:PySem.W.codeIn K cd18 "signs_in"=true) (k18:PySem.W.keepIn K (.ref f18)=true)
    (a19:PySem.W.nsIn K mainGlobals "joined_texts"=some (some (.ref f19))) (l19:K.lookup f19=some ⟨oc19,od19,.func (PySem.W.fnOf "joined_texts" "joined_texts" (ZAT ZBV) (ZAQ ZBV) (ZAF ZBV) .none kV19 dc19 pm19 an19 cd19 ct19),sl19⟩) (c19:PySem.W.codeIn K cd19 "joined_texts"=true) (k19:PySem.W.keepIn K (.ref f19)=true)
    (a20:PySem.W.nsIn K mainGlobals "signed"=some (some (.ref f20))) (l20:K.lookup f20=some ⟨oc20,od20,.func (PySem.W.fnOf "signed" "signed" (ZAT ZDn) (ZAQ ZDn) (ZAF ZDn) .none kV20 dc20 pm20 an20 cd20 ct20),sl20⟩) (c20:PySem.W.codeIn K cd20 "signed"=true) (k20:PySem.W.keepIn K (.ref f20)=true)
    (a21:PySem.W.nsIn K mainGlobals "table_shape"=some (some (.ref f21))) (l21:K.lookup f21=some ⟨oc21,od21,.func (PySem.W.fnOf "table_shape" "table_shape" (ZAT ZBo) (ZAQ ZBo) (ZAF ZBo) .none kV21 dc21 pm21 an21 cd21 ct21),sl21⟩) (c21:PySem.W.codeIn K cd21 "table_shape"=true) (k21:PySem.W.keepIn K (.ref f21)=true)
    (a22:PySem.W.nsIn K mainGlobals "fitted_shape"=some (some (.ref f22))) (l22:K.lookup f22=some ⟨oc22,od22,.func (PySem.W.fnOf "fitted_shape" "fitted_shape" (ZAT ZBW) (ZAQ ZBW) (ZAF ZBW) .none kV22 dc22 pm22 an22 cd22 ct22),sl22⟩) (c22:PySem.W.codeIn K cd22 "fitted_shape"=true) (k22:PySem.W.keepIn K (.ref f22)=true)
    (a23:PySem.W.nsIn K mainGlobals "filled_table"=some (some (.ref f23))) (l23:K.lookup f23=some ⟨oc23,od23,.func (PySem.W.fnOf "filled_table" "filled_table" (ZAT ZBX) (ZAQ ZBX) (ZAF ZBX) .none kV23 dc23 pm23 an23 cd23 ct23),sl23⟩) (c23:PySem.W.codeIn K cd23 "filled_table"=true) (k23:PySem.W.keepIn K (.ref f23)=true)
    (a24:PySem.W.nsIn K mainGlobals "spread_table"=some (some (.ref f24))) (l24:K.lookup f24=some ⟨oc24,od24,.func (PySem.W.fnOf "spread_table" "spread_table" (ZAT ZBY) (ZAQ ZBY) (ZAF ZBY) .none kV24 dc24 pm24 an24 cd24 ct24),sl24⟩) (c24:PySem.W.codeIn K cd24 "spread_table"=true) (k24:PySem.W.keepIn K (.ref f24)=true)
    (a25:PySem.W.nsIn K mainGlobals "values_in"=some (some (.ref f25))) (l25:K.lookup f25=some ⟨oc25,od25,.func (PySem.W.fnOf "values_in" "values_in" (ZAT ZCO) (ZAQ ZCO) (ZAF ZCO) .none kV25 dc25 pm25 an25 cd25 ct25),sl25⟩) (c25:PySem.W.codeIn K cd25 "values_in"=true) (k25:PySem.W.keepIn K (.ref f25)=true)
    (a26:PySem.W.nsIn K mainGlobals "first_fault"=some (some (.ref f26))) (l26:K.lookup f26=some ⟨oc26,od26,.func (PySem.W.fnOf "first_fault" "first_fault" (ZAT ZBp) (ZAQ ZBp) (ZAF ZBp) .none kV26 dc26 pm26 an26 cd26 ct26),sl26⟩) (c26:PySem.W.codeIn K cd26 "first_fault"=true) (k26:PySem.W.keepIn K (.ref f26)=true)
    (a27:PySem.W.nsIn K mainGlobals "numbers_among"=some (some (.ref f27))) (l27:K.lookup f27=some ⟨oc27,od27,.func (PySem.W.fnOf "numbers_among" "numbers_among" (ZAT ZBM) (ZAQ ZBM) (ZAF ZBM) .none kV27 dc27 pm27 an27 cd27 ct27),sl27⟩) (c27:PySem.W.codeIn K cd27 "numbers_among"=true) (k27:PySem.W.keepIn K (.ref f27)=true)
    (a28:PySem.W.nsIn K mainGlobals "sum_of_all"=some (some (.ref f28))) (l28:K.lookup f28=some ⟨oc28,od28,.func (PySem.W.fnOf "sum_of_all" "sum_of_all" (ZAT ZB7) (ZAQ ZB7) (ZAF ZB7) .none kV28 dc28 pm28 an28 cd28 ct28),sl28⟩) (c28:PySem.W.codeIn K cd28 "sum_of_all"=true) (k28:PySem.W.keepIn K (.ref f28)=true)
    (a29:PySem.W.nsIn K mainGlobals "sum_among"=some (some (.ref f29))) (l29:K.lookup f29=some ⟨oc29,od29,.func (PySem.W.fnOf "sum_among" "sum_among" (ZAT ZCP) (ZAQ ZCP) (ZAF ZCP) .none kV29 dc29 pm29 an29 cd29 ct29),sl29⟩) (c29:PySem.W.codeIn K cd29 "sum_among"=true) (k29:PySem.W.keepIn K (.ref f29)=true)
    (a30:PySem.W.nsIn K mainGlobals "summed_up"=some (some (.ref f30))) (l30:K.lookup f30=some ⟨oc30,od30,.func (PySem.W.fnOf "summed_up" "summed_up" (ZAT ZCQ) (ZAQ ZCQ) (ZAF ZCQ) .none kV30 dc30 pm30 an30 cd30 ct30),sl30⟩) (c30:PySem.W.codeIn K cd30 "summed_up"=true) (k30:PySem.W.keepIn K (.ref f30)=true)
    (a31:PySem.W.nsIn K mainGlobals "table_in_rows"=some (some (.ref f31))) (l31:K.lookup f31=some ⟨oc31,od31,.func (PySem.W.fnOf "table_in_rows" "table_in_rows" (ZAT ZBN) (ZAQ ZBN) (ZAF ZBN) .none kV31 dc31 pm31 an31 cd31 ct31),sl31⟩) (c31:PySem.W.codeIn K cd31 "table_in_rows"=true) (k31:PySem.W.keepIn K (.ref f31)=true)
    (a32:PySem.W.nsIn K mainGlobals "signed_table"=some (some (.ref f32))) (l32:K.lookup f32=some ⟨oc32,od32,.func (PySem.W.fnOf "signed_table" "signed_table" (ZAT ZBZ) (ZAQ ZBZ) (ZAF ZBZ) .none kV32 dc32 pm32 an32 cd32 ct32),sl32⟩) (c32:PySem.W.codeIn K cd32 "signed_table"=true) (k32:PySem.W.keepIn K (.ref f32)=true)
    (a33:PySem.W.nsIn K mainGlobals "cells_of"=some (some (.ref f33))) (l33:K.lookup f33=some ⟨oc33,od33,.func (PySem.W.fnOf "cells_of" "cells_of" (ZAT ZCo) (ZAQ ZCo) (ZAF ZCo) .none kV33 dc33 pm33 an33 cd33 ct33),sl33⟩) (c33:PySem.W.codeIn K cd33 "cells_of"=true) (k33:PySem.W.keepIn K (.ref f33)=true)
    (a34:PySem.W.nsIn K mainGlobals "table_of_one"=some (some (.ref f34))) (l34:K.lookup f34=some ⟨oc34,od34,.func (PySem.W.fnOf "table_of_one" "table_of_one" (ZAT ZBa) (ZAQ ZBa) (ZAF ZBa) .none kV34 dc34 pm34 an34 cd34 ct34),sl34⟩) (c34:PySem.W.codeIn K cd34 "table_of_one"=true) (k34:PySem.W.keepIn K (.ref f34)=true)
    (a35:PySem.W.nsIn K mainGlobals "parts_of"=some (some (.ref f35))) (l35:K.lookup f35=some ⟨oc35,od35,.func (PySem.W.fnOf "parts_of" "parts_of" (ZAT ZCp) (ZAQ ZCp) (ZAF ZCp) .none kV35 dc35 pm35 an35 cd35 ct35),sl35⟩) (c35:PySem.W.codeIn K cd35 "parts_of"=true) (k35:PySem.W.keepIn K (.ref f35)=true)
    (a36:PySem.W.nsIn K mainGlobals "block_led_to"=some (some (.ref f36))) (l36:K.lookup f36=some ⟨oc36,od36,.func (PySem.W.fnOf "block_led_to" "block_led_to" (ZAT ZBb) (ZAQ ZBb) (ZAF ZBb) .none kV36 dc36 pm36 an36 cd36 ct36),sl36⟩) (c36:PySem.W.codeIn K cd36 "block_led_to"=true) (k36:PySem.W.keepIn K (.ref f36)=true)
    (a37:PySem.W.nsIn K mainGlobals "all_parts"=some (some (.ref f37))) (l37:K.lookup f37=some ⟨oc37,od37,.func (PySem.W.fnOf "all_parts" "all_parts" (ZAT ZCR) (ZAQ ZCR) (ZAF ZCR) .none kV37 dc37 pm37 an37 cd37 ct37),sl37⟩) (c37:PySem.W.codeIn K cd37 "all_parts"=true) (k37:PySem.W.keepIn K (.ref f37)=true)
    (a38:PySem.W.nsIn K mainGlobals "told_by_parts"=some (some (.ref f38))) (l38:K.lookup f38=some ⟨oc38,od38,.func (PySem.W.fnOf "told_by_parts" "told_by_parts" (ZAT ZBO) (ZAQ ZBO) (ZAF ZBO) .none kV38 dc38 pm38 an38 cd38 ct38),sl38⟩) (c38:PySem.W.codeIn K cd38 "told_by_parts"=true) (k38:PySem.W.keepIn K (.ref f38)=true)
    (a39:PySem.W.nsIn K mainGlobals "block_shape"=some (some (.ref f39))) (l39:K.lookup f39=some ⟨oc39,od39,.func (PySem.W.fnOf "block_shape" "block_shape" (ZAT ZBq) (ZAQ ZBq) (ZAF ZBq) .none kV39 dc39 pm39 an39 cd39 ct39),sl39⟩) (c39:PySem.W.codeIn K cd39 "block_shape"=true) (k39:PySem.W.keepIn K (.ref f39)=true)
    (a40:PySem.W.nsIn K mainGlobals "shown_table"=some (some (.ref f40))) (l40:K.lookup f40=some ⟨oc40,od40,.func (PySem.W.fnOf "shown_table" "shown_table" (ZAT ZBr) (ZAQ ZBr) (ZAF ZBr) .none kV40 dc40 pm40 an40 cd40 ct40),sl40⟩) (c40:PySem.W.codeIn K cd40 "shown_table"=true) (k40:PySem.W.keepIn K (.ref f40)=true)
    (a41:PySem.W.nsIn K mainGlobals "leaf_table"=some (some (.ref f41))) (l41:K.lookup f41=some ⟨oc41,od41,.func (PySem.W.fnOf "leaf_table" "leaf_table" (ZAT ZB8) (ZAQ ZB8) (ZAF ZB8) .none kV41 dc41 pm41 an41 cd41 ct41),sl41⟩) (c41:PySem.W.codeIn K cd41 "leaf_table"=true) (k41:PySem.W.keepIn K (.ref f41)=true)
    (a42:PySem.W.nsIn K mainGlobals "outer_value"=some (some (.ref f42))) (l42:K.lookup f42=some ⟨oc42,od42,.func (PySem.W.fnOf "outer_value" "outer_value" (ZAT ZBs) (ZAQ ZBs) (ZAF ZBs) .none kV42 dc42 pm42 an42 cd42 ct42),sl42⟩) (c42:PySem.W.codeIn K cd42 "outer_value"=true) (k42:PySem.W.keepIn K (.ref f42)=true)
    (a43:PySem.W.nsIn K mainGlobals "single_value"=some (some (.ref f43))) (l43:K.lookup f43=some ⟨oc43,od43,.func (PySem.W.fnOf "single_value" "single_value" (ZAT ZBc) (ZAQ ZBc) (ZAF ZBc) .none kV43 dc43 pm43 an43 cd43 ct43),sl43⟩) (c43:PySem.W.codeIn K cd43 "single_value"=true) (k43:PySem.W.keepIn K (.ref f43)=true)
    (a44:PySem.W.nsIn K mainGlobals "table_by_parts"=some (some (.ref f44))) (l44:K.lookup f44=some ⟨oc44,od44,.func (PySem.W.fnOf "table_by_parts" "table_by_parts" (ZAT ZBD) (ZAQ ZBD) (ZAF ZBD) .none kV44 dc44 pm44 an44 cd44 ct44),sl44⟩) (c44:PySem.W.codeIn K cd44 "table_by_parts"=true) (k44:PySem.W.keepIn K (.ref f44)=true)
    (a45:PySem.W.nsIn K mainGlobals "reckoned"=some (some (.ref f45))) (l45:K.lookup f45=some ⟨oc45,od45,.func (PySem.W.fnOf "reckoned" "reckoned" (ZAT ZCq) (ZAQ ZCq) (ZAF ZCq) .none kV45 dc45 pm45 an45 cd45 ct45),sl45⟩) (c45:PySem.W.codeIn K cd45 "reckoned"=true) (k45:PySem.W.keepIn K (.ref f45)=true)
    (a46:PySem.W.nsIn K mainGlobals "_law_in_bounds"=some (some (.ref f46))) (l46:K.lookup f46=some ⟨oc46,od46,.func (PySem.W.fnOf "_law_in_bounds" "_law_in_bounds" (ZAT ZBE) (ZAQ ZBE) (ZAF ZBE) .none kV46 dc46 pm46 an46 cd46 ct46),sl46⟩) (c46:PySem.W.codeIn K cd46 "_law_in_bounds"=true) (k46:PySem.W.keepIn K (.ref f46)=true)
    (a47:PySem.W.nsIn K mainGlobals "_law_plain_signs"=some (some (.ref f47))) (l47:K.lookup f47=some ⟨oc47,od47,.func (PySem.W.fnOf "_law_plain_signs" "_law_plain_signs" (ZAT ZAx) (ZAQ ZAx) (ZAF ZAx) .none kV47 dc47 pm47 an47 cd47 ct47),sl47⟩) (c47:PySem.W.codeIn K cd47 "_law_plain_signs"=true) (k47:PySem.W.keepIn K (.ref f47)=true)
    (a48:PySem.W.nsIn K mainGlobals "_law_lowest"=some (some (.ref f48))) (l48:K.lookup f48=some ⟨oc48,od48,.func (PySem.W.fnOf "_law_lowest" "_law_lowest" (ZAT ZBt) (ZAQ ZBt) (ZAF ZBt) .none kV48 dc48 pm48 an48 cd48 ct48),sl48⟩) (c48:PySem.W.codeIn K cd48 "_law_lowest"=true) (k48:PySem.W.keepIn K (.ref f48)=true)
    (a49:PySem.W.nsIn K mainGlobals "_law_of_numbers"=some (some (.ref f49))) (l49:K.lookup f49=some ⟨oc49,od49,.func (PySem.W.fnOf "_law_of_numbers" "_law_of_numbers" (ZAT ZA7) (ZAQ ZA7) (ZAF ZA7) .none kV49 dc49 pm49 an49 cd49 ct49),sl49⟩) (c49:PySem.W.codeIn K cd49 "_law_of_numbers"=true) (k49:PySem.W.keepIn K (.ref f49)=true)
    (a50:PySem.W.nsIn K mainGlobals "_law_of_two"=some (some (.ref f50))) (l50:K.lookup f50=some ⟨oc50,od50,.func (PySem.W.fnOf "_law_of_two" "_law_of_two" (ZAT ZBu) (ZAQ ZBu) (ZAF ZBu) .none kV50 dc50 pm50 an50 cd50 ct50),sl50⟩) (c50:PySem.W.codeIn K cd50 "_law_of_two"=true) (k50:PySem.W.keepIn K (.ref f50)=true)
    (a51:PySem.W.nsIn K mainGlobals "_law_cell_at"=some (some (.ref f51))) (l51:K.lookup f51=some ⟨oc51,od51,.func (PySem.W.fnOf "_law_cell_at" "_law_cell_at" (ZAT ZBd) (ZAQ ZBd) (ZAF ZBd) .none kV51 dc51 pm51 an51 cd51 ct51),sl51⟩) (c51:PySem.W.codeIn K cd51 "_law_cell_at"=true) (k51:PySem.W.keepIn K (.ref f51)=true)
    (a52:PySem.W.nsIn K mainGlobals "_law_pen"=some (some (.ref f52))) (l52:K.lookup f52=some ⟨oc52,od52,.func (PySem.W.fnOf "_law_pen" "_law_pen" (ZAT ZCr) (ZAQ ZCr) (ZAF ZCr) .none kV52 dc52 pm52 an52 cd52 ct52),sl52⟩) (c52:PySem.W.codeIn K cd52 "_law_pen"=true) (k52:PySem.W.keepIn K (.ref f52)=true)
    (a53:PySem.W.nsIn K mainGlobals "_law_take"=some (some (.ref f53))) (l53:K.lookup f53=some ⟨oc53,od53,.func (PySem.W.fnOf "_law_take" "_law_take" (ZAT ZCS) (ZAQ ZCS) (ZAF ZCS) .none kV53 dc53 pm53 an53 cd53 ct53),sl53⟩) (c53:PySem.W.codeIn K cd53 "_law_take"=true) (k53:PySem.W.keepIn K (.ref f53)=true)
    (a54:PySem.W.nsIn K mainGlobals "_law_drawn_cell"=some (some (.ref f54))) (l54:K.lookup f54=some ⟨oc54,od54,.func (PySem.W.fnOf "_law_drawn_cell" "_law_drawn_cell" (ZAT ZA8) (ZAQ ZA8) (ZAF ZA8) .none kV54 dc54 pm54 an54 cd54 ct54),sl54⟩) (c54:PySem.W.codeIn K cd54 "_law_drawn_cell"=true) (k54:PySem.W.keepIn K (.ref f54)=true)
    (a55:PySem.W.nsIn K mainGlobals "_law_great_value"=some (some (.ref f55))) (l55:K.lookup f55=some ⟨oc55,od55,.func (PySem.W.fnOf "_law_great_value" "_law_great_value" (ZAT ZAy) (ZAQ ZAy) (ZAF ZAy) .none kV55 dc55 pm55 an55 cd55 ct55),sl55⟩) (c55:PySem.W.codeIn K cd55 "_law_great_value"=true) (k55:PySem.W.keepIn K (.ref f55)=true)
    (a56:PySem.W.nsIn K mainGlobals "_law_drawn_value"=some (some (.ref f56))) (l56:K.lookup f56=some ⟨oc56,od56,.func (PySem.W.fnOf "_law_drawn_value" "_law_drawn_value" (ZAT ZAz) (ZAQ ZAz) (ZAF ZAz) .none kV56 dc56 pm56 an56 cd56 ct56),sl56⟩) (c56:PySem.W.codeIn K cd56 "_law_drawn_value"=true) (k56:PySem.W.keepIn K (.ref f56)=true)
    (a57:PySem.W.nsIn K mainGlobals "_law_laid"=some (some (.ref f57))) (l57:K.lookup f57=some ⟨oc57,od57,.func (PySem.W.fnOf "_law_laid" "_law_laid" (ZAT ZCT) (ZAQ ZCT) (ZAF ZCT) .none kV57 dc57 pm57 an57 cd57 ct57),sl57⟩) (c57:PySem.W.codeIn K cd57 "_law_laid"=true) (k57:PySem.W.keepIn K (.ref f57)=true)
    (a58:PySem.W.nsIn K mainGlobals "_law_put_down"=some (some (.ref f58))) (l58:K.lookup f58=some ⟨oc58,od58,.func (PySem.W.fnOf "_law_put_down" "_law_put_down" (ZAT ZBP) (ZAQ ZBP) (ZAF ZBP) .none kV58 dc58 pm58 an58 cd58 ct58),sl58⟩) (c58:PySem.W.codeIn K cd58 "_law_put_down"=true) (k58:PySem.W.keepIn K (.ref f58)=true)
    (a59:PySem.W.nsIn K mainGlobals "_law_typed_alike"=some (some (.ref f59))) (l59:K.lookup f59=some ⟨oc59,od59,.func (PySem.W.fnOf "_law_typed_alike" "_law_typed_alike" (ZAT ZA0) (ZAQ ZA0) (ZAF ZA0) .none kV59 dc59 pm59 an59 cd59 ct59),sl59⟩) (c59:PySem.W.codeIn K cd59 "_law_typed_alike"=true) (k59:PySem.W.keepIn K (.ref f59)=true)
    (a60:PySem.W.nsIn K mainGlobals "_law_outside"=some (some (.ref f60))) (l60:K.lookup f60=some ⟨oc60,od60,.func (PySem.W.fnOf "_law_outside" "_law_outside" (ZAT ZBe) (ZAQ ZBe) (ZAF ZBe) .none kV60 dc60 pm60 an60 cd60 ct60),sl60⟩) (c60:PySem.W.codeIn K cd60 "_law_outside"=true) (k60:PySem.W.keepIn K (.ref f60)=true)
    (a61:PySem.W.nsIn K mainGlobals "_law_note"=some (some (.ref f61))) (l61:K.lookup f61=some ⟨oc61,od61,.func (PySem.W.fnOf "_law_note" "_law_note" (ZAT ZCU) (ZAQ ZCU) (ZAF ZCU) .none kV61 dc61 pm61 an61 cd61 ct61),sl61⟩) (c61:PySem.W.codeIn K cd61 "_law_note"=true) (k61:PySem.W.keepIn K (.ref f61)=true)
    (a62:PySem.W.nsIn K mainGlobals "_law_of_sum"=some (some (.ref f62))) (l62:K.lookup f62=some ⟨oc62,od62,.func (PySem.W.fnOf "_law_of_sum" "_law_of_sum" (ZAT ZBv) (ZAQ ZBv) (ZAF ZBv) .none kV62 dc62 pm62 an62 cd62 ct62),sl62⟩) (c62:PySem.W.codeIn K cd62 "_law_of_sum"=true) (k62:PySem.W.keepIn K (.ref f62)=true)
    (a63:PySem.W.nsIn K mainGlobals "law"=some (some (.ref f63))) (l63:K.lookup f63=some ⟨oc63,od63,.func (PySem.W.fnOf "law" "law" (ZAT ZJI) (ZAQ ZJI) (ZAF ZJI) .none kV63 dc63 pm63 an63 cd63 ct63),sl63⟩) (c63:PySem.W.codeIn K cd63 "law"=true) (k63:PySem.W.keepIn K (.ref f63)=true)
    (z_len:PySem.W.nsIn K mainGlobals "len"=some none)
    (z_range:PySem.W.nsIn K mainGlobals "range"=some none)
    (z_isinstance:PySem.W.nsIn K mainGlobals "isinstance"=some none)
    (z_int:PySem.W.nsIn K mainGlobals "int"=some none)
    (z_bool:PySem.W.nsIn K mainGlobals "bool"=some none)
    (z_str:PySem.W.nsIn K mainGlobals "str"=some none)
    (z_tuple:PySem.W.nsIn K mainGlobals "tuple"=some none)
    (z_list:PySem.W.nsIn K mainGlobals "list"=some none)
    (z_reversed:PySem.W.nsIn K mainGlobals "reversed"=some none)
    (z_min:PySem.W.nsIn K mainGlobals "min"=some none)
    (z_all:PySem.W.nsIn K mainGlobals "all"=some none)
    (z_abs:PySem.W.nsIn K mainGlobals "abs"=some none)
    (z_enumerate:PySem.W.nsIn K mainGlobals "enumerate"=some none)
    (z_zip:PySem.W.nsIn K mainGlobals "zip"=some none)
    (z_max:PySem.W.nsIn K mainGlobals "max"=some none)
    (g_PART_PLACES:PySem.W.nsIn K mainGlobals "PART_PLACES"=some (some (.ref w_PART_PLACES)))
    (h_PART_PLACES:K.lookup w_PART_PLACES=some o_PART_PLACES)
    (r_PART_PLACES:∃ kvs,ZRs w o_PART_PLACES kvs∧Paired (fun (kv:Key×V) (kt:Key×List V)=>kv.1=kt.1∧∃ a,kv.2=.ref a∧∀ H,SqT K H a kt.2) kvs PPK)
    (n_PART_PLACES:(w_PART_PLACES==sysModules)=false)
    (g_ONE_PLACE:PySem.W.nsIn K mainGlobals "ONE_PLACE"=some (some (.ref w_ONE_PLACE)))
    (h_ONE_PLACE:K.lookup w_ONE_PLACE=some o_ONE_PLACE)
    (r_ONE_PLACE:o_ONE_PLACE.cls=.type "tuple"∧∃ its n,o_ONE_PLACE.data=.seq its n∧its.size≤sizeLine∧ZBJ [V.int 1,V.int 1] its.toList)
    (g_GREATEST_WHOLE:PySem.W.nsIn K mainGlobals "GREATEST_WHOLE"=some (some u_GREATEST_WHOLE))
    (r_GREATEST_WHOLE:ZBC (.int 999999999999999999999999999999) u_GREATEST_WHOLE)
    (g_SIGNS:PySem.W.nsIn K mainGlobals "SIGNS"=some (some u_SIGNS))
    (r_SIGNS:ZBC (.str (Str.ofString "abcdefghijklmnopqrstuvwxyz0123456789 ")) u_SIGNS)
    (g_MOST_SIGNS:PySem.W.nsIn K mainGlobals "MOST_SIGNS"=some (some u_MOST_SIGNS))
    (r_MOST_SIGNS:ZBC (.int 20) u_MOST_SIGNS)
    (g_COLUMN_LETTERS:PySem.W.nsIn K mainGlobals "COLUMN_LETTERS"=some (some u_COLUMN_LETTERS))
    (r_COLUMN_LETTERS:ZBC (.str (Str.ofString "ABCDEFGHIJKLMNOPQRSTUVWXYZ")) u_COLUMN_LETTERS)
    (g_NOUGHT:PySem.W.nsIn K mainGlobals "NOUGHT"=some (some (.ref w_NOUGHT)))
    (h_NOUGHT:K.lookup w_NOUGHT=some o_NOUGHT)
    (r_NOUGHT:o_NOUGHT.cls=.type "tuple"∧∃ its n,o_NOUGHT.data=.seq its n∧its.size≤sizeLine∧ZBJ [V.str (Str.ofString "number"),V.int 0,V.int 1] its.toList)
    (kist:PySem.W.kitOne K (.type "str") (.type "tuple")=some false)
    (kiit:PySem.W.kitOne K (.type "int") (.type "tuple")=some false)
    (kib:PySem.W.kitOne K (.type "int") (.type "bool")=some false)
    (ki_bt:PySem.W.kitOne K (.type "bool") (.type "tuple")=some false)
    (ki_sb:PySem.W.kitOne K (.type "str") (.type "bool")=some false)
    (ki_si:PySem.W.kitOne K (.type "str") (.type "int")=some false)
    (t_reckoned:PySem.W.tabIn K "reckoned"=some (cc_reckoned,pp_reckoned)) (rr_reckoned:(PyProof.Rows.recsOf q).any (fun e=>e.name == "reckoned")=true)
    (t_law:PySem.W.tabIn K "law"=some (cc_law,pp_law)) (rr_law:(PyProof.Rows.recsOf q).any (fun e=>e.name == "law")=true)
    (nn_reckoned_law:pp_reckoned≠pp_law):
    ∃ (fd:FuncData) (tabs:List (Addr×Addr)) (sp:Sp),(∀ (s:Shared) (v:Value),BindsTo s fd ⟨[v],[]⟩ [("_law_script",v)])∧PySem.W.TabsAt tabs h∧(∀ (H:Hp) (a:Addr) (ns:List Int),ns.length≤63→(∀ q∈tabs,H q.2=some (.tbl #[]))→SqL K H a (ns.map V.int)→sp [.ref a] H (fun v _=>v=.bl true) E0)∧∀ base:Heap,K.In base→base.Ns mainGlobals mg→(∀ q∈tabs,PySem.W.CodeHd base q.1 q.2)→BM mg base→ZBS l.prog w K mg base CX0 18 fa fd ["_law_script"] sp:=by
  have G:=T0.g
  have e:=hfa.symm.trans (PySem.W.mg_of X G a63)
  cases e
  have F0:=ZAf (st:=ZCm) l0 c0 k0
  have b0:=F0.binds (ps:=["thing"]) fun _ _ _ _ _ _ us hl=>by obtain ⟨_,rfl⟩:=ZCY hl;rfl
  have F1:=ZAf (st:=ZAv) l1 c1 k1
  have b1:=F1.binds (ps:=["one","other"]) fun _ _ _ _ _ _ us hl=>by obtain ⟨_,_,rfl⟩:=ZB9 hl;rfl
  have F2:=ZAf (st:=ZCK) l2 c2 k2
  have b2:=F2.binds (ps:=["top","bottom"]) fun _ _ _ _ _ _ us hl=>by obtain ⟨_,_,rfl⟩:=ZB9 hl;rfl
  have F3:=ZAf (st:=ZCL) l3 c3 k3
  have b3:=F3.binds (ps:=["top","bottom"]) fun _ _ _ _ _ _ us hl=>by obtain ⟨_,_,rfl⟩:=ZB9 hl;rfl
  have F4:=ZAf (st:=ZDm) l4 c4 k4
  have b4:=F4.binds (ps:=["a","b"]) fun _ _ _ _ _ _ us hl=>by obtain ⟨_,_,rfl⟩:=ZB9 hl;rfl
  have F5:=ZAf (st:=ZBL) l5 c5 k5
  have b5:=F5.binds (ps:=["a","b"]) fun _ _ _ _ _ _ us hl=>by obtain ⟨_,_,rfl⟩:=ZB9 hl;rfl
  have F6:=ZAf (st:=ZB5) l6 c6 k6
  have b6:=F6.binds (ps:=["a","b"]) fun _ _ _ _ _ _ us hl=>by obtain ⟨_,_,rfl⟩:=ZB9 hl;rfl
  have F7:=ZAf (st:=ZBm) l7 c7 k7
  have b7:=F7.binds (ps:=["a","b"]) fun _ _ _ _ _ _ us hl=>by obtain ⟨_,_,rfl⟩:=ZB9 hl;rfl
  have F8:=ZAf (st:=ZDG) l8 c8 k8
  have b8:=F8.binds (ps:=["a","b"]) fun _ _ _ _ _ _ us hl=>by obtain ⟨_,_,rfl⟩:=ZB9 hl;rfl
  have F9:=ZAf (st:=ZA5) l9 c9 k9
  have b9:=F9.binds (ps:=["thing"]) fun _ _ _ _ _ _ us hl=>by obtain ⟨_,rfl⟩:=ZCY hl;rfl
  have F10:=ZAf (st:=ZA6) l10 c10 k10
  have b10:=F10.binds (ps:=["top","bottom"]) fun _ _ _ _ _ _ us hl=>by obtain ⟨_,_,rfl⟩:=ZB9 hl;rfl
  have F11:=ZAf (st:=ZCM) l11 c11 k11
  have b11:=F11.binds (ps:=["value"]) fun _ _ _ _ _ _ us hl=>by obtain ⟨_,rfl⟩:=ZCY hl;rfl
  have F12:=ZAf (st:=ZBU) l12 c12 k12
  have b12:=F12.binds (ps:=["number","cell"]) fun _ _ _ _ _ _ us hl=>by obtain ⟨_,_,rfl⟩:=ZB9 hl;rfl
  have F13:=ZAf (st:=ZAw) l13 c13 k13
  have b13:=F13.binds (ps:=["sign","a","b","cell"]) fun _ _ _ _ _ _ us hl=>by obtain ⟨_,_,_,_,rfl⟩:=ZHT hl;rfl
  have F14:=ZAf (st:=ZCN) l14 c14 k14
  have b14:=F14.binds (ps:=["cell"]) fun _ _ _ _ _ _ us hl=>by obtain ⟨_,rfl⟩:=ZCY hl;rfl
  have F15:=ZAf (st:=ZDH) l15 c15 k15
  have b15:=F15.binds (ps:=["thing"]) fun _ _ _ _ _ _ us hl=>by obtain ⟨_,rfl⟩:=ZCY hl;rfl
  have F16:=ZAf (st:=ZBn) l16 c16 k16
  have b16:=F16.binds (ps:=["top","bottom"]) fun _ _ _ _ _ _ us hl=>by obtain ⟨_,_,rfl⟩:=ZB9 hl;rfl
  have F17:=ZAf (st:=ZB6) l17 c17 k17
  have b17:=F17.binds (ps:=["value"]) fun _ _ _ _ _ _ us hl=>by obtain ⟨_,rfl⟩:=ZCY hl;rfl
  have F18:=ZAf (st:=ZCn) l18 c18 k18
  have b18:=F18.binds (ps:=["value"]) fun _ _ _ _ _ _ us hl=>by obtain ⟨_,rfl⟩:=ZCY hl;rfl
  have F19:=ZAf (st:=ZBV) l19 c19 k19
  have b19:=F19.binds (ps:=["one","other","cell"]) fun _ _ _ _ _ _ us hl=>by obtain ⟨_,_,_,rfl⟩:=ZNj hl;rfl
  have F20:=ZAf (st:=ZDn) l20 c20 k20
  have b20:=F20.binds (ps:=["sign","one","other","cell"]) fun _ _ _ _ _ _ us hl=>by obtain ⟨_,_,_,_,rfl⟩:=ZHT hl;rfl
  have F21:=ZAf (st:=ZBo) l21 c21 k21
  have b21:=F21.binds (ps:=["table"]) fun _ _ _ _ _ _ us hl=>by obtain ⟨_,rfl⟩:=ZCY hl;rfl
  have F22:=ZAf (st:=ZBW) l22 c22 k22
  have b22:=F22.binds (ps:=["one","other"]) fun _ _ _ _ _ _ us hl=>by obtain ⟨_,_,rfl⟩:=ZB9 hl;rfl
  have F23:=ZAf (st:=ZBX) l23 c23 k23
  have b23:=F23.binds (ps:=["shape","value"]) fun _ _ _ _ _ _ us hl=>by obtain ⟨_,_,rfl⟩:=ZB9 hl;rfl
  have F24:=ZAf (st:=ZBY) l24 c24 k24
  have b24:=F24.binds (ps:=["table","shape"]) fun _ _ _ _ _ _ us hl=>by obtain ⟨_,_,rfl⟩:=ZB9 hl;rfl
  have F25:=ZAf (st:=ZCO) l25 c25 k25
  have b25:=F25.binds (ps:=["table"]) fun _ _ _ _ _ _ us hl=>by obtain ⟨_,rfl⟩:=ZCY hl;rfl
  have F26:=ZAf (st:=ZBp) l26 c26 k26
  have b26:=F26.binds (ps:=["values"]) fun _ _ _ _ _ _ us hl=>by obtain ⟨_,rfl⟩:=ZCY hl;rfl
  have F27:=ZAf (st:=ZBM) l27 c27 k27
  have b27:=F27.binds (ps:=["values"]) fun _ _ _ _ _ _ us hl=>by obtain ⟨_,rfl⟩:=ZCY hl;rfl
  have F28:=ZAf (st:=ZB7) l28 c28 k28
  have b28:=F28.binds (ps:=["numbers"]) fun _ _ _ _ _ _ us hl=>by obtain ⟨_,rfl⟩:=ZCY hl;rfl
  have F29:=ZAf (st:=ZCP) l29 c29 k29
  have b29:=F29.binds (ps:=["values","cell"]) fun _ _ _ _ _ _ us hl=>by obtain ⟨_,_,rfl⟩:=ZB9 hl;rfl
  have F30:=ZAf (st:=ZCQ) l30 c30 k30
  have b30:=F30.binds (ps:=["table","cell"]) fun _ _ _ _ _ _ us hl=>by obtain ⟨_,_,rfl⟩:=ZB9 hl;rfl
  have F31:=ZAf (st:=ZBN) l31 c31 k31
  have b31:=F31.binds (ps:=["values","wide"]) fun _ _ _ _ _ _ us hl=>by obtain ⟨_,_,rfl⟩:=ZB9 hl;rfl
  have F32:=ZAf (st:=ZBZ) l32 c32 k32
  have b32:=F32.binds (ps:=["sign","one","other","cell"]) fun _ _ _ _ _ _ us hl=>by obtain ⟨_,_,_,_,rfl⟩:=ZHT hl;rfl
  have F33:=ZAf (st:=ZCo) l33 c33 k33
  have b33:=F33.binds (ps:=["block"]) fun _ _ _ _ _ _ us hl=>by obtain ⟨_,rfl⟩:=ZCY hl;rfl
  have F34:=ZAf (st:=ZBa) l34 c34 k34
  have b34:=F34.binds (ps:=["value"]) fun _ _ _ _ _ _ us hl=>by obtain ⟨_,rfl⟩:=ZCY hl;rfl
  have F35:=ZAf (st:=ZCp) l35 c35 k35
  have b35:=F35.binds (ps:=["formula"]) fun _ _ _ _ _ _ us hl=>by obtain ⟨_,rfl⟩:=ZCY hl;rfl
  have F36:=ZAf (st:=ZBb) l36 c36 k36
  have b36:=F36.binds (ps:=["reference"]) fun _ _ _ _ _ _ us hl=>by obtain ⟨_,rfl⟩:=ZCY hl;rfl
  have F37:=ZAf (st:=ZCR) l37 c37 k37
  have b37:=F37.binds (ps:=["formula"]) fun _ _ _ _ _ _ us hl=>by obtain ⟨_,rfl⟩:=ZCY hl;rfl
  have F38:=ZAf (st:=ZBO) l38 c38 k38
  have b38:=F38.binds (ps:=["row","tell_one"]) fun _ _ _ _ _ _ us hl=>by obtain ⟨_,_,rfl⟩:=ZB9 hl;rfl
  have F39:=ZAf (st:=ZBq) l39 c39 k39
  have b39:=F39.binds (ps:=["block"]) fun _ _ _ _ _ _ us hl=>by obtain ⟨_,rfl⟩:=ZCY hl;rfl
  have F40:=ZAf (st:=ZBr) l40 c40 k40
  have b40:=F40.binds (ps:=["block","shows"]) fun _ _ _ _ _ _ us hl=>by obtain ⟨_,_,rfl⟩:=ZB9 hl;rfl
  have F41:=ZAf (st:=ZB8) l41 c41 k41
  have b41:=F41.binds (ps:=["leaf","cell","shows"]) fun _ _ _ _ _ _ us hl=>by obtain ⟨_,_,_,rfl⟩:=ZNj hl;rfl
  have F42:=ZAf (st:=ZBs) l42 c42 k42
  have b42:=F42.binds (ps:=["value","outer"]) fun _ _ _ _ _ _ us hl=>by obtain ⟨_,_,rfl⟩:=ZB9 hl;rfl
  have F43:=ZAf (st:=ZBc) l43 c43 k43
  have b43:=F43.binds (ps:=["formula","tables","cell","outer"]) fun _ _ _ _ _ _ us hl=>by obtain ⟨_,_,_,_,rfl⟩:=ZHT hl;rfl
  have F44:=ZAf (st:=ZBD) l44 c44 k44
  have b44:=F44.binds (ps:=["formula","tables","cell","shows","outer"]) fun _ _ _ _ _ _ us hl=>by obtain ⟨_,_,_,_,_,rfl⟩:=ZPJ hl;rfl
  have F45:=ZAf (st:=ZCq) l45 c45 k45
  have b45:=F45.binds (ps:=["opened","cell","shows","outer"]) fun _ _ _ _ _ _ us hl=>by obtain ⟨_,_,_,_,rfl⟩:=ZHT hl;rfl
  have F46:=ZAf (st:=ZBE) l46 c46 k46
  have b46:=F46.binds (ps:=["_law_one","_law_home"]) fun _ _ _ _ _ _ us hl=>by obtain ⟨_,_,rfl⟩:=ZB9 hl;rfl
  have F47:=ZAf (st:=ZAx) l47 c47 k47
  have b47:=F47.binds (ps:=["_law_one"]) fun _ _ _ _ _ _ us hl=>by obtain ⟨_,rfl⟩:=ZCY hl;rfl
  have F48:=ZAf (st:=ZBt) l48 c48 k48
  have b48:=F48.binds (ps:=["_law_top","_law_bottom"]) fun _ _ _ _ _ _ us hl=>by obtain ⟨_,_,rfl⟩:=ZB9 hl;rfl
  have F49:=ZAf (st:=ZA7) l49 c49 k49
  have b49:=F49.binds (ps:=["_law_sign","_law_a","_law_b","_law_home"]) fun _ _ _ _ _ _ us hl=>by obtain ⟨_,_,_,_,rfl⟩:=ZHT hl;rfl
  have F50:=ZAf (st:=ZBu) l50 c50 k50
  have b50:=F50.binds (ps:=["_law_sign","_law_a","_law_b","_law_home"]) fun _ _ _ _ _ _ us hl=>by obtain ⟨_,_,_,_,rfl⟩:=ZHT hl;rfl
  have F51:=ZAf (st:=ZBd) l51 c51 k51
  have b51:=F51.binds (ps:=["_law_script","_law_k"]) fun _ _ _ _ _ _ us hl=>by obtain ⟨_,_,rfl⟩:=ZB9 hl;rfl
  have F52:=ZAf (st:=ZCr) l52 c52 k52
  have b52:=F52.binds (ps:=["_law_script"]) fun _ _ _ _ _ _ us hl=>by obtain ⟨_,rfl⟩:=ZCY hl;rfl
  have F53:=ZAf (st:=ZCS) l53 c53 k53
  have b53:=F53.binds (ps:=["_law_pen_here","_law_most"]) fun _ _ _ _ _ _ us hl=>by obtain ⟨_,_,rfl⟩:=ZB9 hl;rfl
  have F54:=ZAf (st:=ZA8) l54 c54 k54
  have b54:=F54.binds (ps:=["_law_pen_here"]) fun _ _ _ _ _ _ us hl=>by obtain ⟨_,rfl⟩:=ZCY hl;rfl
  have F55:=ZAf (st:=ZAy) l55 c55 k55
  have b55:=F55.binds (ps:=["_law_pen_here"]) fun _ _ _ _ _ _ us hl=>by obtain ⟨_,rfl⟩:=ZCY hl;rfl
  have F56:=ZAf (st:=ZAz) l56 c56 k56
  have b56:=F56.binds (ps:=["_law_pen_here"]) fun _ _ _ _ _ _ us hl=>by obtain ⟨_,rfl⟩:=ZCY hl;rfl
  have F57:=ZAf (st:=ZCT) l57 c57 k57
  have b57:=F57.binds (ps:=["_law_known","_law_sheet","_law_table","_law_high","_law_wide"]) fun _ _ _ _ _ _ us hl=>by obtain ⟨_,_,_,_,_,rfl⟩:=ZPJ hl;rfl
  have F58:=ZAf (st:=ZBP) l58 c58 k58
  have b58:=F58.binds (ps:=["_law_pen_here","_law_known","_law_sheet","_law_table"]) fun _ _ _ _ _ _ us hl=>by obtain ⟨_,_,_,_,rfl⟩:=ZHT hl;rfl
  have F59:=ZAf (st:=ZA0) l59 c59 k59
  have b59:=F59.binds (ps:=["_law_told","_law_due"]) fun _ _ _ _ _ _ us hl=>by obtain ⟨_,_,rfl⟩:=ZB9 hl;rfl
  have F60:=ZAf (st:=ZBe) l60 c60 k60
  have b60:=F60.binds (ps:=["_law_one","_law_more"]) fun _ _ _ _ _ _ us hl=>by obtain ⟨_,_,rfl⟩:=ZB9 hl;rfl
  have F61:=ZAf (st:=ZCU) l61 c61 k61
  have b61:=F61.binds (ps:=["_law_asked","_law_own","_law_more"]) fun _ _ _ _ _ _ us hl=>by obtain ⟨_,_,_,rfl⟩:=ZNj hl;rfl
  have F62:=ZAf (st:=ZBv) l62 c62 k62
  have b62:=F62.binds (ps:=["_law_other","_law_more"]) fun _ _ _ _ _ _ us hl=>by obtain ⟨_,_,rfl⟩:=ZB9 hl;rfl
  have F63:=ZAf (st:=ZJI) l63 c63 k63
  have b63:=F63.binds (ps:=["_law_script"]) fun _ _ _ _ _ _ us hl=>by obtain ⟨_,rfl⟩:=ZCY hl;rfl
  have T:Txt w K mg ⟨f0,_,f1,_,f2,_,f3,_,f4,_,f5,_,f6,_,f7,_,f8,_,f9,_,f10,_,f11,_,f12,_,f13,_,f14,_,f15,_,f16,_,f17,_,f18,_,f19,_,f20,_,f21,_,f22,_,f23,_,f24,_,f25,_,f26,_,f27,_,f28,_,f29,_,f30,_,f31,_,f32,_,f33,_,f34,_,f35,_,f36,_,f37,_,f38,_,f39,_,f40,_,f41,_,f42,_,f43,_,f44,_,f45,_,f46,_,f47,_,f48,_,f49,_,f50,_,f51,_,f52,_,f53,_,f54,_,f55,_,f56,_,f57,_,f58,_,f59,_,f60,_,f61,_,f62,_,_,_,cc_reckoned,pp_reckoned,cc_law,pp_law⟩:=⟨⟨F0,PySem.W.mg_of X G a0,b0⟩,⟨F1,PySem.W.mg_of X G a1,b1⟩,⟨F2,PySem.W.mg_of X G a2,b2⟩,⟨F3,PySem.W.mg_of X G a3,b3⟩,⟨F4,PySem.W.mg_of X G a4,b4⟩,⟨F5,PySem.W.mg_of X G a5,b5⟩,⟨F6,PySem.W.mg_of X G a6,b6⟩,⟨F7,PySem.W.mg_of X G a7,b7⟩,⟨F8,PySem.W.mg_of X G a8,b8⟩,⟨F9,PySem.W.mg_of X G a9,b9⟩,⟨F10,PySem.W.mg_of X G a10,b10⟩,⟨F11,PySem.W.mg_of X G a11,b11⟩,⟨F12,PySem.W.mg_of X G a12,b12⟩,⟨F13,PySem.W.mg_of X G a13,b13⟩,⟨F14,PySem.W.mg_of X G a14,b14⟩,⟨F15,PySem.W.mg_of X G a15,b15⟩,⟨F16,PySem.W.mg_of X G a16,b16⟩,⟨F17,PySem.W.mg_of X G a17,b17⟩,⟨F18,PySem.W.mg_of X G a18,b18⟩,⟨F19,PySem.W.mg_of X G a19,b19⟩,⟨F20,PySem.W.mg_of X G a20,b20⟩,⟨F21,PySem.W.mg_of X G a21,b21⟩,⟨F22,PySem.W.mg_of X G a22,b22⟩,⟨F23,PySem.W.mg_of X G a23,b23⟩,⟨F24,PySem.W.mg_of X G a24,b24⟩,⟨F25,PySem.W.mg_of X G a25,b25⟩,⟨F26,PySem.W.mg_of X G a26,b26⟩,⟨F27,PySem.W.mg_of X G a27,b27⟩,⟨F28,PySem.W.mg_of X G a28,b28⟩,⟨F29,PySem.W.mg_of X G a29,b29⟩,⟨F30,PySem.W.mg_of X G a30,b30⟩,⟨F31,PySem.W.mg_of X G a31,b31⟩,⟨F32,PySem.W.mg_of X G a32,b32⟩,⟨F33,PySem.W.mg_of X G a33,b33⟩,⟨F34,PySem.W.mg_of X G a34,b34⟩,⟨F35,PySem.W.mg_of X G a35,b35⟩,⟨F36,PySem.W.mg_of X G a36,b36⟩,⟨F37,PySem.W.mg_of X G a37,b37⟩,⟨F38,PySem.W.mg_of X G a38,b38⟩,⟨F39,PySem.W.mg_of X G a39,b39⟩,⟨F40,PySem.W.mg_of X G a40,b40⟩,⟨F41,PySem.W.mg_of X G a41,b41⟩,⟨F42,PySem.W.mg_of X G a42,b42⟩,⟨F43,PySem.W.mg_of X G a43,b43⟩,⟨F44,PySem.W.mg_of X G a44,b44⟩,⟨F45,PySem.W.mg_of X G a45,b45⟩,⟨F46,PySem.W.mg_of X G a46,b46⟩,⟨F47,PySem.W.mg_of X G a47,b47⟩,⟨F48,PySem.W.mg_of X G a48,b48⟩,⟨F49,PySem.W.mg_of X G a49,b49⟩,⟨F50,PySem.W.mg_of X G a50,b50⟩,⟨F51,PySem.W.mg_of X G a51,b51⟩,⟨F52,PySem.W.mg_of X G a52,b52⟩,⟨F53,PySem.W.mg_of X G a53,b53⟩,⟨F54,PySem.W.mg_of X G a54,b54⟩,⟨F55,PySem.W.mg_of X G a55,b55⟩,⟨F56,PySem.W.mg_of X G a56,b56⟩,⟨F57,PySem.W.mg_of X G a57,b57⟩,⟨F58,PySem.W.mg_of X G a58,b58⟩,⟨F59,PySem.W.mg_of X G a59,b59⟩,⟨F60,PySem.W.mg_of X G a60,b60⟩,⟨F61,PySem.W.mg_of X G a61,b61⟩,⟨F62,PySem.W.mg_of X G a62,b62⟩,⟨F63,PySem.W.mg_of X G a63,b63⟩,PySem.W.mg_none_of X G z_len,PySem.W.mg_none_of X G z_range,PySem.W.mg_none_of X G z_isinstance,PySem.W.mg_none_of X G z_int,PySem.W.mg_none_of X G z_bool,PySem.W.mg_none_of X G z_str,PySem.W.mg_none_of X G z_tuple,PySem.W.mg_none_of X G z_list,PySem.W.mg_none_of X G z_reversed,PySem.W.mg_none_of X G z_min,PySem.W.mg_none_of X G z_all,PySem.W.mg_none_of X G z_abs,PySem.W.mg_none_of X G z_enumerate,PySem.W.mg_none_of X G z_zip,PySem.W.mg_none_of X G z_max,(let ⟨k,d,p⟩:=r_PART_PLACES;⟨k,⟨_,PySem.W.mg_of X G g_PART_PLACES,_,h_PART_PLACES,d,n_PART_PLACES⟩,p⟩),⟨_,_,PySem.W.mg_of X G g_ONE_PLACE,h_ONE_PLACE,r_ONE_PLACE⟩,⟨_,PySem.W.mg_of X G g_GREATEST_WHOLE,r_GREATEST_WHOLE⟩,⟨_,PySem.W.mg_of X G g_SIGNS,r_SIGNS⟩,⟨_,PySem.W.mg_of X G g_MOST_SIGNS,r_MOST_SIGNS⟩,⟨_,PySem.W.mg_of X G g_COLUMN_LETTERS,r_COLUMN_LETTERS⟩,⟨_,_,PySem.W.mg_of X G g_NOUGHT,h_NOUGHT,r_NOUGHT⟩,kist,kiit,kib,ki_bt,ki_sb,ki_si,ZKD F45 a45 t_reckoned,ZKD F63 a63 t_law,nn_reckoned_law⟩
  have x_reckoned:PySem.W.CodeHd h cc_reckoned pp_reckoned∧h.get? pp_reckoned=some (PySem.W.tabObj #[]):=by
    obtain ⟨d,hd⟩:=ZMH rr_reckoned
    exact PySem.W.tab_of T0 X hd t_reckoned
  have x_law:PySem.W.CodeHd h cc_law pp_law∧h.get? pp_law=some (PySem.W.tabObj #[]):=by
    obtain ⟨d,hd⟩:=ZMH rr_law
    exact PySem.W.tab_of T0 X hd t_law
  refine ⟨_,[(cc_reckoned,pp_reckoned),(cc_law,pp_law)],ZMf K pp_reckoned pp_law,fun s v=>.of_eq rfl,(List.forall_mem_cons.mpr ⟨x_reckoned,(List.forall_mem_cons.mpr ⟨x_law,List.forall_mem_nil _⟩)⟩),fun H a ns hl hT hS=>⟨a,ns,rfl,hS,hl,hT (cc_reckoned,pp_reckoned) (by simp),hT (cc_law,pp_law) (by simp),fun _=>rfl⟩,fun base _ _ hC hB=>ZPK T hC hB⟩
theorem walk {l:PySem.W.OpenLaw}{q:Program}{loose:List Str}{XP:(Str→Option Value)→Heap→Prop}{YP:World→Heap→Prop}{d:DefRec}{K:Params→PySem.W.Frag}(hn:l.most=some 63)(hdf:d.params.defaults=[])
    (hY:∀ (w:World) (h:Heap),YP w h→(K w.params).In h) (hKT:∀ w:World,PySem.W.noTabs (K w.params)=true)
    (F:∀ (w:World) (mean:ExcName→Option Value) (mg mb:Str→Option Value) (fa:Addr) (h:Heap),(K w.params).In h→PyProof.Rows.Top q (PySem.W.looseW q loose) mean mg mb h→mg d.name=some (.ref fa)→
      ∃ (fd:FuncData) (tabs:List (Addr×Addr)) (sp:Sp),(∀ (s:Shared) (v:Value),BindsTo s fd ⟨[v],[]⟩ [("_law_script",v)])∧PySem.W.TabsAt tabs h∧(∀ (H:Hp) (a:Addr) (ns:List Int),ns.length≤63→(∀ q∈tabs,H q.2=some (.tbl #[]))→SqL (K w.params) H a (ns.map V.int)→sp [.ref a] H (fun v _=>v=.bl true) E0)∧∀ base:Heap,(K w.params).In base→base.Ns mainGlobals mg→(∀ q∈tabs,PySem.W.CodeHd base q.1 q.2)→BM mg base→ZBS l.prog w (K w.params) mg base CX0 18 fa fd ["_law_script"] sp):
    PySem.W.WalkO q loose XP YP l.row.toRowW d [] (fun f vs=>PySem.call f vs):=
  L2.ZLa (n:=63) (k:=18) (x:="_law_script") hn (by decide) hdf ⟨rfl,by decide,by decide⟩ hY hKT F
end Fs
open PySem PySem.W PyProof.Rows
set_option maxRecDepth 100000 in
set_option maxHeartbeats 0 in
theorem PySem.Challenge.cw_freshsheet_k36_faults_and_the_outside_holds : PySem.Challenge.rw_freshsheet_k36_faults_and_the_outside.Holds := by
  w_on;o_law
  refine holds_open (r:=OpenLaw.row PySem.Challenge.rw_freshsheet_k36_faults_and_the_outside) (q:=Hw.qv) (loose:=Hw.lo) (Xt:=Hw.Xv) (XP:=XL Hw.qv []) (Yf:=Hook.obs (kHook Hw.pack.heap_1 Hw.hAs Hw.hAs_eq)) (Ya:=Hook.val (kHook Hw.pack.heap_1 Hw.hAs Hw.hAs_eq)) (YP:=Hook.says (kHook Hw.pack.heap_1 Hw.hAs Hw.hAs_eq)) (N:=Hw.N0) Hw.left (Hook.of (kHook Hw.pack.heap_1 Hw.hAs Hw.hAs_eq)) (Hook.keeps (kHook Hw.pack.heap_1 Hw.hAs Hw.hAs_eq)) (fun s e=>xl_of s (Bool.and_eq_true_iff.mp e).1) XL.keeps (by rfl) (by rfl) (by rfl) (fun s e=>recFacts_of (Bool.and_eq_true_iff.mp e).2) (by rfl) (by first | assumption | decide +kernel) (by decide +kernel) ⟨rfl,rfl,rfl,rfl,rfl,by decide +kernel⟩ ?hw ?hc
  case hw=>w_witness2
  k_fill
  refine Fs.walk (l:=PySem.Challenge.rw_freshsheet_k36_faults_and_the_outside) rfl rfl (fun w h Y=>PySem.W.kIn_of Y) (fun w=>by kernel_rfl) ?F
  case F=>
    intro w mean mg mb fa h KX T0 hmg
    refine' Fs.ZPL KX T0 hmg ?a0 ?l0 ?c0 ?k0 ?a1 ?l1 ?c1 ?k1 ?a2 ?l2 ?c2 ?k2 ?a3 ?l3 ?c3 ?k3 ?a4 ?l4 ?c4 ?k4 ?a5 ?l5 ?c5 ?k5 ?a6 ?l6 ?c6 ?k6 ?a7 ?l7 ?c7 ?k7 ?a8 ?l8 ?c8 ?k8 ?a9 ?l9 ?c9 ?k9 ?a10 ?l10 ?c10 ?k10 ?a11 ?l11 ?c11 ?k11 ?a12 ?l12 ?c12 ?k12 ?a13 ?l13 ?c13 ?k13 ?a14 ?l14 ?c14 ?k14 ?a15 ?l15 ?c15 ?k15 ?a16 ?l16 ?c16 ?k16 ?a17 ?l17 ?c17 ?k17 ?a18 ?l18 ?c18 ?k18 ?a19 ?l19 ?c19 ?k19 ?a20 ?l20 ?c20 ?k20 ?a21 ?l21 ?c21 ?k21 ?a22 ?l22 ?c22 ?k22 ?a23 ?l23 ?c23 ?k23 ?a24 ?l24 ?c24 ?k24 ?a25 ?l25 ?c25 ?k25 ?a26 ?l26 ?c26 ?k26 ?a27 ?l27 ?c27 ?k27 ?a28 ?l28 ?c28 ?k28 ?a29 ?l29 ?c29 ?k29 ?a30 ?l30 ?c30 ?k30 ?a31 ?l31 ?c31 ?k31 ?a32 ?l32 ?c32 ?k32 ?a33 ?l33 ?c33 ?k33 ?a34 ?l34 ?c34 ?k34 ?a35 ?l35 ?c35 ?k35 ?a36 ?l36 ?c36 ?k36 ?a37 ?l37 ?c37 ?k37 ?a38 ?l38 ?c38 ?k38 ?a39 ?l39 ?c39 ?k39 ?a40 ?l40 ?c40 ?k40 ?a41 ?l41 ?c41 ?k41 ?a42 ?l42 ?c42 ?k42 ?a43 ?l43 ?c43 ?k43 ?a44 ?l44 ?c44 ?k44 ?a45 ?l45 ?c45 ?k45 ?a46 ?l46 ?c46 ?k46 ?a47 ?l47 ?c47 ?k47 ?a48 ?l48 ?c48 ?k48 ?a49 ?l49 ?c49 ?k49 ?a50 ?l50 ?c50 ?k50 ?a51 ?l51 ?c51 ?k51 ?a52 ?l52 ?c52 ?k52 ?a53 ?l53 ?c53 ?k53 ?a54 ?l54 ?c54 ?k54 ?a55 ?l55 ?c55 ?k55 ?a56 ?l56 ?c56 ?k56 ?a57 ?l57 ?c57 ?k57 ?a58 ?l58 ?c58 ?k58 ?a59 ?l59 ?c59 ?k59 ?a60 ?l60 ?c60 ?k60 ?a61 ?l61 ?c61 ?k61 ?a62 ?l62 ?c62 ?k62 ?a63 ?l63 ?c63 ?k63 ?z_len ?z_range ?z_isinstance ?z_int ?z_bool ?z_str ?z_tuple ?z_list ?z_reversed ?z_min ?z_all ?z_abs ?z_enumerate ?z_zip ?z_max ?g_PART_PLACES ?h_PART_PLACES ?r_PART_PLACES ?n_PART_PLACES ?g_ONE_PLACE ?h_ONE_PLACE ?r_ONE_PLACE ?g_GREATEST_WHOLE ?r_GREATEST_WHOLE ?g_SIGNS ?r_SIGNS ?g_MOST_SIGNS ?r_MOST_SIGNS ?g_COLUMN_LETTERS ?r_COLUMN_LETTERS ?g_NOUGHT ?h_NOUGHT ?r_NOUGHT ?kist ?kiit ?kib ?ki_bt ?ki_sb ?ki_si ?t_reckoned ?rr_reckoned ?t_law ?rr_law ?nn_reckoned_law
    (case a0=>k_is)
    (case l0=>k_is)
    (case c0=>k_is)
    (case k0=>k_is)
    (case a1=>k_is)
    (case l1=>k_is)
    (case c1=>k_is)
    (case k1=>k_is)
    (case a2=>k_is)
    (case l2=>k_is)
    (case c2=>k_is)
    (case k2=>k_is)
    (case a3=>k_is)
    (case l3=>k_is)
    (case c3=>k_is)
    (case k3=>k_is)
    (case a4=>k_is)
    (case l4=>k_is)
    (case c4=>k_is)
    (case k4=>k_is)
    (case a5=>k_is)
    (case l5=>k_is)
    (case c5=>k_is)
    (case k5=>k_is)
    (case a6=>k_is)
    (case l6=>k_is)
    (case c6=>k_is)
    (case k6=>k_is)
    (case a7=>k_is)
    (case l7=>k_is)
    (case c7=>k_is)
    (case k7=>k_is)
    (case a8=>k_is)
    (case l8=>k_is)
    (case c8=>k_is)
    (case k8=>k_is)
    (case a9=>k_is)
    (case l9=>k_is)
    (case c9=>k_is)
    (case k9=>k_is)
    (case a10=>k_is)
    (case l10=>k_is)
    (case c10=>k_is)
    (case k10=>k_is)
    (case a11=>k_is)
    (case l11=>k_is)
    (case c11=>k_is)
    (case k11=>k_is)
    (case a12=>k_is)
    (case l12=>k_is)
    (case c12=>k_is)
    (case k12=>k_is)
    (case a13=>k_is)
    (case l13=>k_is)
    (case c13=>k_is)
    (case k13=>k_is)
    (case a14=>k_is)
    (case l14=>k_is)
    (case c14=>k_is)
    (case k14=>k_is)
    (case a15=>k_is)
    (case l15=>k_is)
    (case c15=>k_is)
    (case k15=>k_is)
    (case a16=>k_is)
    (case l16=>k_is)
    (case c16=>k_is)
    (case k16=>k_is)
    (case a17=>k_is)
    (case l17=>k_is)
    (case c17=>k_is)
    (case k17=>k_is)
    (case a18=>k_is)
    (case l18=>k_is)
    (case c18=>k_is)
    (case k18=>k_is)
    (case a19=>k_is)
    (case l19=>k_is)
    (case c19=>k_is)
    (case k19=>k_is)
    (case a20=>k_is)
    (case l20=>k_is)
    (case c20=>k_is)
    (case k20=>k_is)
    (case a21=>k_is)
    (case l21=>k_is)
    (case c21=>k_is)
    (case k21=>k_is)
    (case a22=>k_is)
    (case l22=>k_is)
    (case c22=>k_is)
    (case k22=>k_is)
    (case a23=>k_is)
    (case l23=>k_is)
    (case c23=>k_is)
    (case k23=>k_is)
    (case a24=>k_is)
    (case l24=>k_is)
    (case c24=>k_is)
    (case k24=>k_is)
    (case a25=>k_is)
    (case l25=>k_is)
    (case c25=>k_is)
    (case k25=>k_is)
    (case a26=>k_is)
    (case l26=>k_is)
    (case c26=>k_is)
    (case k26=>k_is)
    (case a27=>k_is)
    (case l27=>k_is)
    (case c27=>k_is)
    (case k27=>k_is)
    (case a28=>k_is)
    (case l28=>k_is)
    (case c28=>k_is)
    (case k28=>k_is)
    (case a29=>k_is)
    (case l29=>k_is)
    (case c29=>k_is)
    (case k29=>k_is)
    (case a30=>k_is)
    (case l30=>k_is)
    (case c30=>k_is)
    (case k30=>k_is)
    (case a31=>k_is)
    (case l31=>k_is)
    (case c31=>k_is)
    (case k31=>k_is)
    (case a32=>k_is)
    (case l32=>k_is)
    (case c32=>k_is)
    (case k32=>k_is)
    (case a33=>k_is)
    (case l33=>k_is)
    (case c33=>k_is)
    (case k33=>k_is)
    (case a34=>k_is)
    (case l34=>k_is)
    (case c34=>k_is)
    (case k34=>k_is)
    (case a35=>k_is)
    (case l35=>k_is)
    (case c35=>k_is)
    (case k35=>k_is)
    (case a36=>k_is)
    (case l36=>k_is)
    (case c36=>k_is)
    (case k36=>k_is)
    (case a37=>k_is)
    (case l37=>k_is)
    (case c37=>k_is)
    (case k37=>k_is)
    (case a38=>k_is)
    (case l38=>k_is)
    (case c38=>k_is)
    (case k38=>k_is)
    (case a39=>k_is)
    (case l39=>k_is)
    (case c39=>k_is)
    (case k39=>k_is)
    (case a40=>k_is)
    (case l40=>k_is)
    (case c40=>k_is)
    (case k40=>k_is)
    (case a41=>k_is)
    (case l41=>k_is)
    (case c41=>k_is)
    (case k41=>k_is)
    (case a42=>k_is)
    (case l42=>k_is)
    (case c42=>k_is)
    (case k42=>k_is)
    (case a43=>k_is)
    (case l43=>k_is)
    (case c43=>k_is)
    (case k43=>k_is)
    (case a44=>k_is)
    (case l44=>k_is)
    (case c44=>k_is)
    (case k44=>k_is)
    (case a45=>k_is)
    (case l45=>k_is)
    (case c45=>k_is)
    (case k45=>k_is)
    (case a46=>k_is)
    (case l46=>k_is)
    (case c46=>k_is)
    (case k46=>k_is)
    (case a47=>k_is)
    (case l47=>k_is)
    (case c47=>k_is)
    (case k47=>k_is)
    (case a48=>k_is)
    (case l48=>k_is)
    (case c48=>k_is)
    (case k48=>k_is)
    (case a49=>k_is)
    (case l49=>k_is)
    (case c49=>k_is)
    (case k49=>k_is)
    (case a50=>k_is)
    (case l50=>k_is)
    (case c50=>k_is)
    (case k50=>k_is)
    (case a51=>k_is)
    (case l51=>k_is)
    (case c51=>k_is)
    (case k51=>k_is)
    (case a52=>k_is)
    (case l52=>k_is)
    (case c52=>k_is)
    (case k52=>k_is)
    (case a53=>k_is)
    (case l53=>k_is)
    (case c53=>k_is)
    (case k53=>k_is)
    (case a54=>k_is)
    (case l54=>k_is)
    (case c54=>k_is)
    (case k54=>k_is)
    (case a55=>k_is)
    (case l55=>k_is)
    (case c55=>k_is)
    (case k55=>k_is)
    (case a56=>k_is)
    (case l56=>k_is)
    (case c56=>k_is)
    (case k56=>k_is)
    (case a57=>k_is)
    (case l57=>k_is)
    (case c57=>k_is)
    (case k57=>k_is)
    (case a58=>k_is)
    (case l58=>k_is)
    (case c58=>k_is)
    (case k58=>k_is)
    (case a59=>k_is)
    (case l59=>k_is)
    (case c59=>k_is)
    (case k59=>k_is)
    (case a60=>k_is)
    (case l60=>k_is)
    (case c60=>k_is)
    (case k60=>k_is)
    (case a61=>k_is)
    (case l61=>k_is)
    (case c61=>k_is)
    (case k61=>k_is)
    (case a62=>k_is)
    (case l62=>k_is)
    (case c62=>k_is)
    (case k62=>k_is)
    (case a63=>k_is)
    (case l63=>k_is)
    (case c63=>k_is)
    (case k63=>k_is)
    (case z_len=>k_is)
    (case z_range=>k_is)
    (case z_isinstance=>k_is)
    (case z_int=>k_is)
    (case z_bool=>k_is)
    (case z_str=>k_is)
    (case z_tuple=>k_is)
    (case z_list=>k_is)
    (case z_reversed=>k_is)
    (case z_min=>k_is)
    (case z_all=>k_is)
    (case z_abs=>k_is)
    (case z_enumerate=>k_is)
    (case z_zip=>k_is)
    (case z_max=>k_is)
    (case g_PART_PLACES=>k_is)
    (case h_PART_PLACES=>k_is)
    (case r_PART_PLACES=>exact ⟨[(Sum.inr (Str.ofString "op"),L2.V.ref _),(Sum.inr (Str.ofString "neg"),L2.V.ref _),(Sum.inr (Str.ofString "if"),L2.V.ref _),(Sum.inr (Str.ofString "sum"),L2.V.ref _),(Sum.inr (Str.ofString "count"),L2.V.ref _),(Sum.inr (Str.ofString "least"),L2.V.ref _),(Sum.inr (Str.ofString "most"),L2.V.ref _),(Sum.inr (Str.ofString "sumif"),L2.V.ref _),(Sum.inr (Str.ofString "find"),L2.V.ref _),(Sum.inr (Str.ofString "turn"),L2.V.ref _),(Sum.inr (Str.ofString "stack"),L2.V.ref _),(Sum.inr (Str.ofString "grid"),L2.V.ref _),(Sum.inr (Str.ofString "outer"),L2.V.ref _)],⟨⟨rfl,rfl,rfl⟩,_,_,rfl,.cons ⟨rfl,rfl,rfl⟩ (.cons ⟨rfl,rfl,rfl⟩ (.cons ⟨rfl,rfl,rfl⟩ (.cons ⟨rfl,rfl,rfl⟩ (.cons ⟨rfl,rfl,rfl⟩ (.cons ⟨rfl,rfl,rfl⟩ (.cons ⟨rfl,rfl,rfl⟩ (.cons ⟨rfl,rfl,rfl⟩ (.cons ⟨rfl,rfl,rfl⟩ (.cons ⟨rfl,rfl,rfl⟩ (.cons ⟨rfl,rfl,rfl⟩ (.cons ⟨rfl,rfl,rfl⟩ (.cons ⟨rfl,rfl,rfl⟩ (.nil))))))))))))),by decide⟩,.cons ⟨rfl,_,rfl,fun _=>.inr ⟨_,_,_,(by k_is),rfl,rfl,by decide,.cons ⟨_,rfl⟩ (.cons ⟨_,rfl⟩ (.nil))⟩⟩ (.cons ⟨rfl,_,rfl,fun _=>.inr ⟨_,_,_,(by k_is),rfl,rfl,by decide,.cons ⟨_,rfl⟩ (.nil)⟩⟩ (.cons ⟨rfl,_,rfl,fun _=>.inr ⟨_,_,_,(by k_is),rfl,rfl,by decide,.cons ⟨_,rfl⟩ (.cons ⟨_,rfl⟩ (.cons ⟨_,rfl⟩ (.nil)))⟩⟩ (.cons ⟨rfl,_,rfl,fun _=>.inr ⟨_,_,_,(by k_is),rfl,rfl,by decide,.cons ⟨_,rfl⟩ (.nil)⟩⟩ (.cons ⟨rfl,_,rfl,fun _=>.inr ⟨_,_,_,(by k_is),rfl,rfl,by decide,.cons ⟨_,rfl⟩ (.nil)⟩⟩ (.cons ⟨rfl,_,rfl,fun _=>.inr ⟨_,_,_,(by k_is),rfl,rfl,by decide,.cons ⟨_,rfl⟩ (.nil)⟩⟩ (.cons ⟨rfl,_,rfl,fun _=>.inr ⟨_,_,_,(by k_is),rfl,rfl,by decide,.cons ⟨_,rfl⟩ (.nil)⟩⟩ (.cons ⟨rfl,_,rfl,fun _=>.inr ⟨_,_,_,(by k_is),rfl,rfl,by decide,.cons ⟨_,rfl⟩ (.cons ⟨_,rfl⟩ (.cons ⟨_,rfl⟩ (.nil)))⟩⟩ (.cons ⟨rfl,_,rfl,fun _=>.inr ⟨_,_,_,(by k_is),rfl,rfl,by decide,.cons ⟨_,rfl⟩ (.cons ⟨_,rfl⟩ (.cons ⟨_,rfl⟩ (.nil)))⟩⟩ (.cons ⟨rfl,_,rfl,fun _=>.inr ⟨_,_,_,(by k_is),rfl,rfl,by decide,.cons ⟨_,rfl⟩ (.nil)⟩⟩ (.cons ⟨rfl,_,rfl,fun _=>.inr ⟨_,_,_,(by k_is),rfl,rfl,by decide,.cons ⟨_,rfl⟩ (.cons ⟨_,rfl⟩ (.nil))⟩⟩ (.cons ⟨rfl,_,rfl,fun _=>.inr ⟨_,_,_,(by k_is),rfl,rfl,by decide,.cons ⟨_,rfl⟩ (.cons ⟨_,rfl⟩ (.nil))⟩⟩ (.cons ⟨rfl,_,rfl,fun _=>.inr ⟨_,_,_,(by k_is),rfl,rfl,by decide,.cons ⟨_,rfl⟩ (.nil)⟩⟩ (.nil)))))))))))))⟩)
    (case n_PART_PLACES=>decide)
    (case g_ONE_PLACE=>k_is)
    (case h_ONE_PLACE=>k_is)
    (case r_ONE_PLACE=>exact ⟨rfl,_,_,rfl,by decide,.cons ⟨_,rfl⟩ (.cons ⟨_,rfl⟩ (.nil))⟩)
    (case g_GREATEST_WHOLE=>k_is)
    (case r_GREATEST_WHOLE=>first | exact ⟨_,rfl⟩ | exact ⟨_,by decide +kernel⟩)
    (case g_SIGNS=>k_is)
    (case r_SIGNS=>first | exact ⟨_,rfl⟩ | exact ⟨_,by decide +kernel⟩)
    (case g_MOST_SIGNS=>k_is)
    (case r_MOST_SIGNS=>first | exact ⟨_,rfl⟩ | exact ⟨_,by decide +kernel⟩)
    (case g_COLUMN_LETTERS=>k_is)
    (case r_COLUMN_LETTERS=>first | exact ⟨_,rfl⟩ | exact ⟨_,by decide +kernel⟩)
    (case g_NOUGHT=>k_is)
    (case h_NOUGHT=>k_is)
    (case r_NOUGHT=>exact ⟨rfl,_,_,rfl,by decide,.cons ⟨_,rfl⟩ (.cons ⟨_,rfl⟩ (.cons ⟨_,rfl⟩ (.nil)))⟩)
    (case kist=>kit_is)
    (case kiit=>kit_is)
    (case kib=>kit_is)
    (case ki_bt=>kit_is)
    (case ki_sb=>kit_is)
    (case ki_si=>kit_is)
    (case t_reckoned=>exact (show PySem.W.tabIn _ _=some (416,412) by kernel_rfl))
    (case rr_reckoned=>decide +kernel)
    (case t_law=>exact (show PySem.W.tabIn _ _=some (546,544) by kernel_rfl))
    (case rr_law=>decide +kernel)
    (case nn_reckoned_law=>decide +kernel)
