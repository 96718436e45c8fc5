import PyProof.Rows.All
import Wide.All
import OpenK.AllK
import Wide.FinOn
import Lean
import PyProof.EqAt
import PyProof.EqKinds
import PyProof.TupleCall
import PySem.Challenge.RW_freshsheet_k31_chosen_tables
set_option Elab.async false
set_option linter.all false
set_option maxRecDepth 100000
set_option maxHeartbeats 4000000
namespace Hw
open PySem PySem.W PyProof.Rows PySem.Calls
def topRunT (tb:String→Option Builtin)(p:Program)(w:World)(n₀:Nat)(ann:Option Value):Nat→SharedT→Thread→Option SharedT
  | 0,_,_=>none
  | n+1,s,t=>match through t with
    | true=>some s
    | false=>match stepOk n₀ ann t with
      | false=>none
      | true=>match stepT (denote tb) p w s t with
        | some (s',t')=>topRunT tb p w n₀ ann n s' t'
        | none=>none
theorem topRun_ofT {tb:String→Option Builtin}{p:Program}{w:World}{n₀:Nat}{ann:Option Value}:∀ {n:Nat} {s s':SharedT} {t:Thread},topRunT tb p w n₀ ann n s t=some s'→topRun tb p w n₀ ann n s.abs t=some s'.abs
  | 0,_,_,_,h=>by cases h
  | n+1,s,s',t,h=>by
    unfold topRunT at h
    unfold topRun
    cases he:through t with
    | true=>rw [he] at h;cases h;rfl
    | false=>
      rw [he] at h
      cases hk:stepOk n₀ ann t with
      | false=>rw [hk] at h;cases h
      | true=>
        rw [hk] at h
        cases hs:stepT (denote tb) p w s t with
        | none=>rw [hs] at h;cases h
        | some r=>obtain ⟨s₂,t₂⟩:=r;rw [hs] at h;rw [stepT_spec hs];exact topRun_ofT h
def toBT:List Obj→Nat→BT→BT
  | [],_,t=>t
  | o::r,n,t=>toBT r (n+1) (t.ins n o)
noncomputable def bootT (P:Params):BT:=toBT (boot_heap P).objs.toList 0 .nil
noncomputable def bootS (w:World)(os:OsState):SharedT:=⟨bootT w.params,(boot_heap w.params).objs.size,(boot_heap w.params).life,Array.mk [],boot_drawn,boot_toks,os⟩
theorem bootT_abs (P:Params):absHeap (bootT P) (boot_heap P).objs.size (boot_heap P).life=boot_heap P:=by kernel_rfl
theorem boot_size (w:World):((boot_heap w.params).isNs mainGlobals&&(Array.mk []:Array GenState).size==0,(boot_heap w.params).objs.size,(boot_heap w.params).nsMap mainGlobals "__annotations__")=(true,11,some (.ref 6)):=by kernel_rfl
noncomputable def tops (p:Program)(N:Nat)(w:World)(os:OsState):Option SharedT:=topRunT treeTable p w 11 (some (.ref 6)) N (bootS w os) (topStub p)
def look1 (p:Program)(h:Heap)(s:Shared):Bool:=staticsOk (importedModules p.main.body) h s.heap&&namesBound p s.heap&&gensDone s&&laidKept h s.heap
def look3 (q:Program)(loose mods:List Str)(Xt:Shared→Bool)(g0:Bool)(s:Shared):Bool:=(openSeen q loose mods Xt g0 s).2.2.1
theorem left_whole {p q:Program}{loose:List Str}{Xt:Shared→Bool}{α:Type}{Yf:Shared→α}{Ya:World→α}{N:Nat}{g0:Bool}
    (e:opening p=plainProg p.main.scope.names) (hN:Nat.ble 600 N=true) (f:∀ s,fenceModules? p s=some s)
    (run1:∀ (w:World) (os:OsState),(tops p N w os).map (fun s=>(look1 p (boot_heap w.params) s.abs,s.abs.heap.bltView,tabsOk q s.abs))=some (true,bltViewBooted,true))
    (run2:∀ (w:World) (os:OsState),(tops p N w os).map (fun s=>seen ((recsOf q).map (·.name)) (ownsOf q) [] { s.abs with gens:=#[] })=some (expectedOf q))
    (run3:∀ (w:World) (os:OsState),(tops p N w os).map (fun s=>look3 q loose (importedModules p.main.body) Xt g0 s.abs)=some true)
    (run4:∀ (w:World) (os:OsState),(tops p N w os).map (fun s=>(pinSeenD q (drecsOf q) s.abs,plainSeenE q (looseW q loose) s.abs,plainSeenD q loose s.abs,wideSeen q s.abs,clsSeenW q loose s.abs))=some (pinGoodD (drecsOf q),plainGoodE q (looseW q loose),plainGoodD q loose,wideGood q,clsGoodW q loose))
    (run5:∀ (w:World) (os:OsState),(tops p N w os).map (fun s=>Yf s.abs)=some (Ya w)):LeftO p q loose Xt Yf Ya N g0:=fun w=>by
  obtain ⟨⟨h,gs,d,k,os⟩,e1,e'⟩:=Option.map_eq_some_iff.mp (boot_open e hN f w)
  obtain ⟨rfl,rfl,rfl,rfl⟩:h=boot_heap w.params∧gs=Array.mk []∧d=boot_drawn∧k=boot_toks:=by simpa using e'
  obtain ⟨z1,z2,z3⟩:_∧_∧_:=by simpa only [Prod.mk.injEq] using boot_size w
  obtain ⟨s',hs,l1⟩:=Option.map_eq_some_iff.mp (run1 w os)
  have l2:=run2 w os
  have l3:=run3 w os
  have l4:=run4 w os
  have l5:=run5 w os
  rw [hs] at l2 l3 l4 l5
  replace l2:=Option.some.inj l2
  replace l3:=Option.some.inj l3
  replace l4:=Option.some.inj l4
  replace l5:=Option.some.inj l5
  dsimp only at l1 l2 l3 l4 l5
  obtain ⟨l1,l6,l7⟩:_∧_∧_:=by simpa only [Prod.mk.injEq] using l1
  have l8:openSeen q loose (importedModules p.main.body) Xt g0 s'.abs=openGood q loose:=Prod.ext l2 (Prod.ext l6 (Prod.ext l3 (Prod.ext l7 l4)))
  have r:=topRun_ofT hs
  have hb:(bootS w os).abs=⟨boot_heap w.params,Array.mk [],boot_drawn,boot_toks,os⟩:=by
    show Shared.mk _ _ _ _ _=_
    rw [show absHeap (bootS w os).tree (bootS w os).n (bootS w os).life=boot_heap w.params from bootT_abs w.params]
    rfl
  rw [hb] at r
  have t:topFrom treeTable p w N ⟨boot_heap w.params,Array.mk [],boot_drawn,boot_toks,os⟩=some s'.abs:=by
    unfold topFrom
    dsimp only
    rw [z1,z2,z3,r]
    show (match look1 p (boot_heap w.params) s'.abs with | true=>some s'.abs | false=>none)=_
    rw [l1]
  unfold openEnds
  rw [e1]
  show (topFrom treeTable p w N _).map _=_
  rw [t]
  exact congrArg some (Prod.ext l8 l5)
end Hw
namespace Hw
open PySem PySem.W PyProof.Rows PySem.Calls
abbrev pw:=PySem.Challenge.pw_freshsheet_k31_chosen_tables
abbrev lw:=PySem.Challenge.rw_freshsheet_k31_chosen_tables
section
local macro_rules | `(tactic| o_head $H)=>do let f:=Lean.mkIdent `foo;`(tactic| exact $f $H)
theorem pack (foo:PySem.W.Hook→(OpenLaw.row lw).Holds):(OpenLaw.row lw).Holds:=by k_head
end
def hAs:List Addr:=[2,3,15,22,23,24,25,28,35,36,37,40,42,43,45,46,47,49,50,52,53,54,56,57,59,60,61,63,64,66,67,68,70,71,73,74,75,77,78,80,81,82,84,85,87,88,89,91,92,94,95,96,98,99,101,102,103,105,106,108,109,110,112,113,115,116,117,119,120,122,123,124,126,127,129,130,131,134,135,136,138,139,141,142,143,145,146,148,149,150,151,153,154,156,157,158,160,161,163,164,165,167,168,170,171,172,174,175,177,178,179,181,182,184,185,186,188,189,191,192,193,195,196,198,199,200,202,203,205,206,207,209,210,212,213,214,216,217,219,220,221,223,224,226,227,228,231,232,233,236,237,238,240,241,243,244,245,248,249,250,252,253,255,256,257,259,260,262,263,264,266,267,269,270,271,273,274,276,277,278,280,281,283,284,285,287,288,290,291,292,294,295,297,298,299,301,302,304,305,306,307,308,309,310,311,312,313,314,315,316,317,318,319,320,323,324,325,327,328,330,331,332,334,335,337,338,339,341,342,344,345,346,347,349,350,352,353,354,356,357,359,360,361,364,365,366,368,369,371,372,373,376,377,378,380,381,383,384,385,388,389,390,392,393,395,396,397,399,400,402,403,404,406,407,409,410,411,413,414,416,417,418,420,421,423,424,425,427,428,430,431,432,434,435,437,438,439,441,442,444,445,446,448,449,451,452,453,455,456,458,459,460,462,463,465,466,467,470,471,472,474,475,477,478,479,481,482,484,485,486,489,490,491,494,495,496,498,499,501,502,503,506,507,508,511,512]
theorem hAs_eq:∀ P,hAs=(pack.heap_1 P).map (·.1):=fun _=>by kernel_rfl
def qv:Program:=view pw [1,2,4,5,6,7,8,9,10,11,12,14,15,16,18,19,20,21,22,23,24,25,27,28,29,30,31,32,33,35,36,37,38,39,40,41,43,44,45,46,47,48,49,50,51,52,54,55,56,57,58,60,61,62,64,65,66,67,68,69,70,71,72,74,75,76,77,78,79,80,81,82,83,84,85,86,87,88]
def Xv:Shared→Bool:=fun s=>xlAt qv [] s&&recOk (RowW.records (OpenRow.toRowW (OpenLaw.row lw))) s
abbrev N0:Nat:=4000
abbrev lo:List PySem.Str:=[PySem.Str.ofString "PART_PLACES"]
noncomputable def lhs1 (w:World)(os:OsState):=(tops pw N0 w os).map (fun s=>(look1 pw (boot_heap w.params) s.abs,s.abs.heap.bltView,tabsOk qv s.abs))
theorem lhs1_self:lhs1=lhs1:=rfl
name_quick hw1 for Hw.lhs1 by Hw.lhs1_self
set_option maxHeartbeats 0 in
theorem run1f:∀ (w:World) (os:OsState),PySem.W.Fast.hw1 (w.withFollow "special-get-raises" false) os=some (true,bltViewBooted,true):=by
  intro w os
  kernel_rfl
set_option maxHeartbeats 0 in
theorem run1t:∀ (w:World) (os:OsState),PySem.W.Fast.hw1 (w.withFollow "special-get-raises" true) os=some (true,bltViewBooted,true):=by
  intro w os
  kernel_rfl
theorem run1:∀ w os,PySem.W.Fast.hw1 w os=some (true,bltViewBooted,true):=fun w=>PySem.W.byRow2 "special-get-raises" (P:=fun w=>∀ os,PySem.W.Fast.hw1 w os=some (true,bltViewBooted,true)) run1f run1t w
noncomputable def lhs2 (w:World)(os:OsState):=(tops pw N0 w os).map (fun s=>seen ((recsOf qv).map (·.name)) (ownsOf qv) [] { s.abs with gens:=#[] })
theorem lhs2_self:lhs2=lhs2:=rfl
name_quick hw2 for Hw.lhs2 by Hw.lhs2_self
noncomputable def rhs2:=expectedOf qv
theorem rhs2_self:rhs2=rhs2:=rfl
name_quick hg2 for Hw.rhs2 by Hw.rhs2_self
set_option maxHeartbeats 0 in
theorem run2f:∀ (w:World) (os:OsState),PySem.W.Fast.hw2 (w.withFollow "special-get-raises" false) os=some (PySem.W.Fast.hg2):=by
  intro w os
  kernel_rfl
set_option maxHeartbeats 0 in
theorem run2t:∀ (w:World) (os:OsState),PySem.W.Fast.hw2 (w.withFollow "special-get-raises" true) os=some (PySem.W.Fast.hg2):=by
  intro w os
  kernel_rfl
theorem run2:∀ w os,PySem.W.Fast.hw2 w os=some (PySem.W.Fast.hg2):=fun w=>PySem.W.byRow2 "special-get-raises" (P:=fun w=>∀ os,PySem.W.Fast.hw2 w os=some (PySem.W.Fast.hg2)) run2f run2t w
noncomputable def lhs3 (w:World)(os:OsState):=(tops pw N0 w os).map (fun s=>look3 qv lo (importedModules pw.main.body) Xv true s.abs)
theorem lhs3_self:lhs3=lhs3:=rfl
name_quick hw3 for Hw.lhs3 by Hw.lhs3_self
set_option maxHeartbeats 0 in
theorem run3f:∀ (w:World) (os:OsState),PySem.W.Fast.hw3 (w.withFollow "special-get-raises" false) os=some (true):=by
  intro w os
  kernel_rfl
set_option maxHeartbeats 0 in
theorem run3t:∀ (w:World) (os:OsState),PySem.W.Fast.hw3 (w.withFollow "special-get-raises" true) os=some (true):=by
  intro w os
  kernel_rfl
theorem run3:∀ w os,PySem.W.Fast.hw3 w os=some (true):=fun w=>PySem.W.byRow2 "special-get-raises" (P:=fun w=>∀ os,PySem.W.Fast.hw3 w os=some (true)) run3f run3t w
noncomputable def lhs4 (w:World)(os:OsState):=(tops pw N0 w os).map (fun s=>(pinSeenD qv (drecsOf qv) s.abs,plainSeenE qv (looseW qv lo) s.abs,plainSeenD qv lo s.abs,wideSeen qv s.abs,clsSeenW qv lo s.abs))
theorem lhs4_self:lhs4=lhs4:=rfl
name_quick hw4 for Hw.lhs4 by Hw.lhs4_self
noncomputable def rhs4:=(pinGoodD (drecsOf qv),plainGoodE qv (looseW qv lo),plainGoodD qv lo,wideGood qv,clsGoodW qv lo)
theorem rhs4_self:rhs4=rhs4:=rfl
name_quick hg4 for Hw.rhs4 by Hw.rhs4_self
set_option maxHeartbeats 0 in
theorem run4f:∀ (w:World) (os:OsState),PySem.W.Fast.hw4 (w.withFollow "special-get-raises" false) os=some (PySem.W.Fast.hg4):=by
  intro w os
  kernel_rfl
set_option maxHeartbeats 0 in
theorem run4t:∀ (w:World) (os:OsState),PySem.W.Fast.hw4 (w.withFollow "special-get-raises" true) os=some (PySem.W.Fast.hg4):=by
  intro w os
  kernel_rfl
theorem run4:∀ w os,PySem.W.Fast.hw4 w os=some (PySem.W.Fast.hg4):=fun w=>PySem.W.byRow2 "special-get-raises" (P:=fun w=>∀ os,PySem.W.Fast.hw4 w os=some (PySem.W.Fast.hg4)) run4f run4t w
noncomputable def lhs5 (w:World)(os:OsState):=(tops pw N0 w os).map (fun s=>hAs.map s.abs.heap.get?)
theorem lhs5_self:lhs5=lhs5:=rfl
name_quick hw5 for Hw.lhs5 by Hw.lhs5_self
set_option maxHeartbeats 0 in
theorem run5f:∀ (w:World) (os:OsState),PySem.W.Fast.hw5 (w.withFollow "special-get-raises" false) os=some ((pack.heap_1 (w.withFollow "special-get-raises" false).params).map fun p=>some p.2):=by
  intro w os
  kernel_rfl
set_option maxHeartbeats 0 in
theorem run5t:∀ (w:World) (os:OsState),PySem.W.Fast.hw5 (w.withFollow "special-get-raises" true) os=some ((pack.heap_1 (w.withFollow "special-get-raises" true).params).map fun p=>some p.2):=by
  intro w os
  kernel_rfl
theorem run5:∀ w os,PySem.W.Fast.hw5 w os=some ((pack.heap_1 w.params).map fun p=>some p.2):=fun w=>PySem.W.byRow2 "special-get-raises" (P:=fun w=>∀ os,PySem.W.Fast.hw5 w os=some ((pack.heap_1 w.params).map fun p=>some p.2)) run5f run5t w
theorem q_open:opening pw=plainProg pw.main.scope.names:=by kernel_rfl
theorem q_fence:∀ s,fenceModules? pw s=some s:=fun s=>by kernel_rfl
theorem left:LeftO pw qv lo Xv (Hook.obs (kHook pack.heap_1 hAs hAs_eq)) (Hook.val (kHook pack.heap_1 hAs hAs_eq)) N0 true:=
  left_whole q_open rfl q_fence (fun w os=>(congrFun (congrFun PySem.W.Fast.hw1_eq w) os).trans (run1 w os))
    (fun w os=>((congrFun (congrFun PySem.W.Fast.hw2_eq w) os).trans (run2 w os)).trans (congrArg some PySem.W.Fast.hg2_eq.symm))
    (fun w os=>(congrFun (congrFun PySem.W.Fast.hw3_eq w) os).trans (run3 w os))
    (fun w os=>((congrFun (congrFun PySem.W.Fast.hw4_eq w) os).trans (run4 w os)).trans (congrArg some PySem.W.Fast.hg4_eq.symm))
    (fun w os=>(congrFun (congrFun PySem.W.Fast.hw5_eq w) os).trans (run5 w os))
end Hw
set_option Elab.async false
set_option linter.all false
set_option maxRecDepth 100000
namespace L2
open PySem PySem.Spec PyProof.Rows
abbrev Key:=Sum Int Str
def keyIs:Key→Value→Bool
  | .inl k,v=>Value.isInt k v
  | .inr x,v=>Value.isStrOf x v
def keyH (w:World):Key→Int
  | .inl k=>hashInt k
  | .inr x=>hashStr w x
theorem keyIs_shape:∀ {k:Key} {v:Value},keyIs k v=true→(∃ i t,k=Sum.inl i∧v=Value.int i t)∨(∃ x t,k=Sum.inr x∧v=Value.str x t)
  | .inl i,v,h=>by
    obtain ⟨t,e⟩:=Value.isInt_shape (k:=i) (v:=v) h
    exact .inl ⟨i,t,rfl,e⟩
  | .inr x,v,h=>by
    obtain ⟨t,e⟩:=Value.isStrOf_shape (x:=x) (v:=v) h
    exact .inr ⟨x,t,rfl,e⟩
theorem keyIs_int (i:Int)(t:Tok):keyIs (.inl i) (.int i t)=true:=by simp [keyIs,Value.isInt]
theorem keyIs_str (x:Str)(t:Tok):keyIs (.inr x) (.str x t)=true:=by simp [keyIs,Value.isStrOf]
theorem key_ll (a b:Int):decide ((Sum.inl a:Key)=Sum.inl b)=(a==b):=by
  by_cases e:a=b
  · subst e;simp
  · have h:¬ (Sum.inl a:Key)=Sum.inl b:=fun q=>e (Sum.inl.inj q)
    rw [decide_eq_false h]
    exact (beq_eq_false_iff_ne.mpr e).symm
theorem key_rr (a b:Str):decide ((Sum.inr a:Key)=Sum.inr b)=decide (a=b):=by
  by_cases e:a=b
  · subst e;simp
  · have h:¬ (Sum.inr a:Key)=Sum.inr b:=fun q=>e (Sum.inr.inj q)
    rw [decide_eq_false h,decide_eq_false e]
theorem key_lr (a:Int)(b:Str):decide ((Sum.inl a:Key)=Sum.inr b)=false:=decide_eq_false (fun q=>nomatch q)
theorem key_rl (a:Str)(b:Int):decide ((Sum.inr a:Key)=Sum.inl b)=false:=decide_eq_false (fun q=>nomatch q)
def mixKind (prog:Program)(w:World):PySem.KeyKind prog w Key where
  is:=keyIs
  hash:=keyH w
  inj:=fun v a b ha hb=>by
    rcases keyIs_shape ha with ⟨i,t,rfl,rfl⟩ | ⟨x,t,rfl,rfl⟩
    · rcases keyIs_shape hb with ⟨j,u,rfl,e⟩ | ⟨y,u,rfl,e⟩
      · injection e with e1 _;rw [e1]
      · exact nomatch e
    · rcases keyIs_shape hb with ⟨j,u,rfl,e⟩ | ⟨y,u,rfl,e⟩
      · exact nomatch e
      · injection e with e1 _;rw [e1]
  byValue:=fun k v h=>by
    rcases keyIs_shape h with ⟨i,t,rfl,rfl⟩ | ⟨x,t,rfl,rfl⟩ <;> rfl
  pyHash:=fun hv h=>by
    rcases keyIs_shape hv with ⟨i,t,rfl,rfl⟩ | ⟨x,t,rfl,rfl⟩
    · exact wpAny_pyHash_int h
    · exact wpAny_pyHash_str h
  eqBool:=fun hu hv h=>by
    rcases keyIs_shape hu with ⟨i,t,rfl,rfl⟩ | ⟨x,t,rfl,rfl⟩
    · rcases keyIs_shape hv with ⟨j,u,rfl,rfl⟩ | ⟨y,u,rfl,rfl⟩
      · rw [key_ll] at h;exact wpAny_eqBool_int h
      · rw [key_lr] at h;exact SeqAt.EqAt.int_str i t y u _ _ _ _ h
    · rcases keyIs_shape hv with ⟨j,u,rfl,rfl⟩ | ⟨y,u,rfl,rfl⟩
      · rw [key_rl] at h;exact SeqAt.EqAt.str_int x t j u _ _ _ _ h
      · rw [key_rr] at h;exact wpAny_eqBool_str h
  «strs»:=fun k x t v h=>by
    rcases keyIs_shape h with ⟨i,u,rfl,e⟩ | ⟨y,u,rfl,e⟩
    · exact nomatch e
    · injection e with e1 _
      subst e1
      cases v <;> rfl
theorem mixKind_int (prog:Program)(w:World)(i:Int)(t:Tok):(mixKind prog w).is (.inl i) (.int i t)=true:=keyIs_int i t
theorem mixKind_str (prog:Program)(w:World)(x:Str)(t:Tok):(mixKind prog w).is (.inr x) (.str x t)=true:=keyIs_str x t
end L2
namespace L2
open PySem PySem.Spec PyProof.Rows
inductive V where
  | non | bl (b:Bool) | int (i:Int) | str (x:Str) | byt (b:Array UInt8) | flt (b:UInt64) | ref (a:Addr) | ty (n:String)
  deriving DecidableEq
def RelV:V→Value→Prop
  | .non,u=>u=Value.none
  | .bl b,u=>u=Value.bool b
  | .int i,u=>∃ t,u=Value.int i t
  | .str x,u=>∃ t,u=Value.str x t
  | .byt b,u=>∃ t,u=Value.bytes b t
  | .flt b,u=>∃ t,u=Value.float b t
  | .ref a,u=>u=Value.ref a
  | .ty n,u=>u=Value.type n
abbrev Vals:List V→List Value→Prop:=Paired RelV
theorem Vals.length {xs:List V}{us:List Value}(r:Vals xs us):xs.length=us.length:=Paired.length r
theorem Vals.get:∀ {xs:List V} {us:List Value} {i:Nat} {x:V},Vals xs us→xs[i]?=some x→∃ u,us[i]?=some u∧RelV x u
  | _,_,_,_,.nil,e=>by simp at e
  | _,_,0,_,.cons r _,e=>by simp at e;subst e;exact ⟨_,rfl,r⟩
  | _,_,i+1,x,.cons _ t,e=>by
    obtain ⟨u,h1,h2⟩:=Vals.get (i:=i) (x:=x) t (by simpa using e)
    exact ⟨u,by simpa using h1,h2⟩
theorem Vals.set {x:V}{u:Value}(r:RelV x u):∀ {xs:List V} {us:List Value} (i:Nat),Vals xs us→Vals (xs.set i x) (us.set i u)
  | _,_,_,.nil=>.nil
  | _,_,0,.cons _ t=>.cons r t
  | _,_,i+1,.cons q t=>.cons q (Vals.set r i t)
theorem Vals.append:∀ {xs ys:List V} {us ws:List Value},Vals xs us→Vals ys ws→Vals (xs++ys) (us++ws)
  | _,_,_,_,.nil,s=>s
  | _,_,_,_,.cons r t,s=>.cons r (Vals.append t s)
theorem Vals.take:∀ {xs:List V} {us:List Value} (n:Nat),Vals xs us→Vals (xs.take n) (us.take n)
  | _,_,0,_=>.nil
  | _,_,_+1,.nil=>.nil
  | _,_,n+1,.cons r t=>.cons r (Vals.take n t)
theorem Vals.drop:∀ {xs:List V} {us:List Value} (n:Nat),Vals xs us→Vals (xs.drop n) (us.drop n)
  | _,_,0,r=>r
  | _,_,_+1,.nil=>.nil
  | _,_,n+1,.cons _ t=>Vals.drop n t
def RelO:Option V→Option Value→Prop
  | some v,some u=>RelV v u
  | none,none=>True
  | _,_=>False
def KV {κ:Type}:List (κ×V)→List (κ×Value)→Prop:=Paired fun (p:κ×V) (q:κ×Value)=>p.1=q.1∧RelV p.2 q.2
def kV:Key→V
  | .inl i=>.int i
  | .inr x=>.str x
inductive HO where
    | lst (xs:List V)
    | tup (xs:List V)
    | dK (kvs:List (Key×V)) | dT (kvs:List (List Key×V))
    | set (S:Int→Bool) (n:Nat)
    | ins (C dx:Addr) (fs:List (Str×V))
    | own (x:Addr)
    | xd (fs:List (Str×V))
    | met (f x:Addr)
    | rng (lo hi:Int)
    | frz (o:Obj) (u:HO)
    | tbl (ps:Array Value)
    | ext (φ:Heap→Prop)
abbrev Hp:=Addr→Option HO
def upd (H:Hp)(a:Addr)(o:HO):Hp:=fun b=>if b=a then some o else H b
theorem upd_same {H:Hp}{a:Addr}{o:HO}:upd H a o a=some o:=by unfold upd;rw [if_pos rfl]
theorem upd_ne {H:Hp}{a b:Addr}{o:HO}(h:b≠a):upd H a o b=H b:=by unfold upd;rw [if_neg h]
theorem upd_upd {H:Hp}{a:Addr}{o u:HO}:upd (upd H a o) a u=upd H a u:=by
  funext b;unfold upd;split <;> rfl
theorem ne_of {H:Hp}{a b:Addr}{o u:HO}(h:H a=some o)(h':H b=some u)(d:o≠u):a≠b:=by
  intro e;subst e;rw [h] at h';exact d (Option.some.inj h')
theorem ne_of_none {H:Hp}{a b:Addr}{o:HO}(h:H a=some o)(h':H b=none):a≠b:=by
  intro e;subst e;rw [h] at h';cases h'
section
variable (P:Program)(w:World)
def ObjOk (H:Hp)(h:Heap)(a:Addr):HO→Prop
  | .lst xs=>xs.length≤sizeLine∧∃ (its:List Value) (n:Nat),Vals xs its∧h.get? a=some { cls:=.type "list",data:=.seq its.toArray n }
  | .tup xs=>xs.length≤sizeLine∧∃ its:List Value,Vals xs its∧IsTup h a its.toArray
  | .dK kvs=>kvs.length≤sizeLine∧(a==sysModules)=false∧∃ vs,KV kvs vs∧h.DictOf (mixKind P w) a vs
  | .dT kvs=>kvs.length≤sizeLine∧(a==sysModules)=false∧∃ xs:List (List Key×Addr×Value),
      Paired (fun (p:List Key×V) (q:List Key×Addr×Value)=>p.1=q.1∧H q.2.1=some (.tup (p.1.map kV))∧RelV p.2 q.2.2) kvs xs∧
      ∃ o es ep,h.get? a=some o∧o.ExactDict∧o.data=.dict es ep∧es.toList=xs.map (entryOfKey (tupleKind (mixKind P w)))∧(xs.map (·.1)).Nodup
  | .set S n=>h.SetOf (intKind P w) a S n
  | .ins C dx fs=>H dx=some (.own a)∧fs.length≤1000∧dx≠a∧h.get? a=some (PySem.W.instObj C dx)∧
      ∃ mA,h.Ns1 dx mA∧(∀ f,RelO (fs.lookup f) (mA f))∧PySem.Within mA (fs.map (·.1))
  | .own _=>∃ o,h.get? a=some o
  | .xd fs=>∃ mA,h.Ns1 a mA∧∀ f,RelO (fs.lookup f) (mA f)
  | .rng lo hi=>∃ t u v,h.get? a=some { cls:=.type "range",data:=.fields #[.int lo t,.int hi u,.int 1 v] }
  | .frz o u=>h.get? a=some o∧ObjOk H h a u
  | .tbl ps=>h.get? a=some { cls:=.none,data:=.fields ps }
  | .met f x=>h.get? a=some (PySem.W.methodObj (.ref f) (.ref x))
  | .ext φ=>φ h∧(∃ o,h.get? a=some o)∧∀ h1 h2:Heap,φ h1→(∀ o,h1.get? a=some o→h2.get? a=some o)→φ h2
def HOk (H:Hp)(h:Heap):Prop:=∀ a o,H a=some o→ObjOk P w H h a o
end
section
variable {P:Program}{w:World}{H H':Hp}{h h':Heap}{a:Addr}{o:HO}
theorem ObjOk.lt (x:ObjOk P w H h a o):a<h.objs.size:=by
  cases o with
  | lst xs=>obtain ⟨_,_,_,_,e⟩:=x;exact Heap.lt_size e
  | tup xs=>obtain ⟨_,_,_,p⟩:=x;exact p.lt
  | dK kvs=>obtain ⟨_,_,_,_,o,_,_,e,_⟩:=x;exact Heap.lt_size e
  | dT kvs=>obtain ⟨_,_,_,_,o,_,_,e,_⟩:=x;exact Heap.lt_size e
  | set S n=>obtain ⟨o,_,_,_,e,_⟩:=x;exact Heap.lt_size e
  | ins C dx fs=>obtain ⟨_,_,_,e,_⟩:=x;exact Heap.lt_size e
  | own y=>obtain ⟨_,e⟩:=x;exact Heap.lt_size e
  | xd fs=>obtain ⟨_,⟨_,_,_,e,_⟩,_⟩:=x;exact Heap.lt_size e
  | rng lo hi=>obtain ⟨_,_,_,e⟩:=x;exact Heap.lt_size e
  | frz ob u=>obtain ⟨e,_⟩:=x;exact Heap.lt_size e
  | tbl ps=>exact Heap.lt_size (show h.get? a=some _ from x)
  | met f y=>exact Heap.lt_size (show h.get? a=some _ from x)
  | ext φ=>obtain ⟨_,⟨_,e⟩,_⟩:=x;exact Heap.lt_size e
theorem Paired.mapP {α β:Type}{F G:α→β→Prop}:∀ {l₁:List α} {l₂:List β},Paired F l₁ l₂→(∀ a b,F a b→G a b)→Paired G l₁ l₂
  | _,_,.nil,_=>.nil
  | _,_,.cons r t,f=>.cons (f _ _ r) (Paired.mapP t f)
theorem Paired.imp' {α β:Type}{F G:α→β→Prop}(f:∀ a b,F a b→G a b){l₁:List α}{l₂:List β}(r:Paired F l₁ l₂):Paired G l₁ l₂:=Paired.mapP r f
theorem ObjOk.stay (x:ObjOk P w H h a o)(k:∀ b u,(b=a∨H b=some (.own a))→h.get? b=some u→h'.get? b=some u)
    (ho:∀ b,H b=some (.own a)→H' b=some (.own a)) (ht:∀ b xs,H b=some (.tup xs)→H' b=some (.tup xs)):ObjOk P w H' h' a o:=by
  induction o with
  | lst xs=>obtain ⟨z,its,n,r,e⟩:=x;exact ⟨z,its,n,r,k _ _ (.inl rfl) e⟩
  | tup xs=>obtain ⟨z,its,r,ob,e,c⟩:=x;exact ⟨z,its,r,ob,k _ _ (.inl rfl) e,c⟩
  | dK kvs=>obtain ⟨z,y,vs,r,ob,es,ep,e,c⟩:=x;exact ⟨z,y,vs,r,ob,es,ep,k _ _ (.inl rfl) e,c⟩
  | dT kvs=>
    obtain ⟨z,y,xs,r,ob,es,ep,e,c⟩:=x
    exact ⟨z,y,xs,Paired.mapP r fun p q z=>⟨z.1,ht _ _ z.2.1,z.2.2⟩,ob,es,ep,k _ _ (.inl rfl) e,c⟩
  | set S n=>obtain ⟨ob,es,ep,t,e,c⟩:=x;exact ⟨ob,es,ep,t,k _ _ (.inl rfl) e,c⟩
  | ins C dx fs=>
    obtain ⟨d,z,ne,e,mA,⟨od,es,ep,e2,c⟩,r⟩:=x
    exact ⟨ho _ d,z,ne,k _ _ (.inl rfl) e,mA,⟨od,es,ep,k _ _ (.inr d) e2,c⟩,r⟩
  | own y=>obtain ⟨ob,e⟩:=x;exact ⟨ob,k _ _ (.inl rfl) e⟩
  | xd fs=>obtain ⟨mA,⟨od,es,ep,e,c⟩,r⟩:=x;exact ⟨mA,⟨od,es,ep,k _ _ (.inl rfl) e,c⟩,r⟩
  | rng lo hi=>obtain ⟨t,u,v,e⟩:=x;exact ⟨t,u,v,k _ _ (.inl rfl) e⟩
  | frz ob u ih=>obtain ⟨e,q⟩:=x;exact ⟨k _ _ (.inl rfl) e,ih q⟩
  | tbl ps=>
    have e:h.get? a=some { cls:=.none,data:=.fields ps }:=x
    show h'.get? a=some { cls:=.none,data:=.fields ps }
    exact k a _ (.inl rfl) e
  | met f y=>
    have e:h.get? a=some (PySem.W.methodObj (.ref f) (.ref y)):=x
    show h'.get? a=some (PySem.W.methodObj (.ref f) (.ref y))
    exact k a _ (.inl rfl) e
  | ext φ=>obtain ⟨p,⟨o,e⟩,st⟩:=x;exact ⟨st _ _ p fun o q=>k _ _ (.inl rfl) q,⟨o,k _ _ (.inl rfl) e⟩,st⟩
theorem HOk.lt (x:HOk P w H h)(e:H a=some o):a<h.objs.size:=(x a o e).lt
theorem HOk.fresh (x:HOk P w H h)(e:h.objs.size≤a):H a=none:=by
  cases q:H a with
  | none=>rfl
  | some u=>exact absurd (Nat.lt_of_lt_of_le (x.lt q) e) (Nat.lt_irrefl _)
theorem HOk.kept (x:HOk P w H h)(k:∀ b u,h.get? b=some u→h'.get? b=some u):HOk P w H h':=fun a o e=>
  (x a o e).stay (fun b u _ q=>k b u q) (fun _ q=>q) fun _ _ q=>q
theorem HOk.laid (x:HOk P w H h)(k:∀ b u,h.get? b=some u→h'.get? b=some u)(hp:h.objs.size≤a)(new:ObjOk P w (upd H a o) h' a o):HOk P w (upd H a o) h':=fun b u e=>by
  have hn:=x.fresh hp
  by_cases hb:b=a
  · subst hb;rw [upd_same] at e;cases e;exact new
  · rw [upd_ne hb] at e
    exact (x b u e).stay (fun c v _ q=>k c v q) (fun c q=>by rw [upd_ne (ne_of_none q hn)];exact q) fun c xs q=>by rw [upd_ne (ne_of_none q hn)];exact q
end
def Rd (H:Hp)(a:Addr)(u:HO):Prop:=H a=some u∨∃ o,H a=some (.frz o u)
theorem Rd.of {H:Hp}{a:Addr}{u:HO}(h:H a=some u):Rd H a u:=.inl h
theorem Rd.ok {P:Program}{w:World}{H:Hp}{h:Heap}{a:Addr}{u:HO}(r:Rd H a u)(x:HOk P w H h):ObjOk P w H h a u:=by
  rcases r with r | ⟨o,r⟩
  · exact x a u r
  · obtain ⟨_,q⟩:=x a _ r
    exact q
def Mut:Option HO→Prop
  | some (.lst _)=>True
  | some (.dK _)=>True
  | some (.dT _)=>True
  | some (.set _ _)=>True
  | some (.ins _ _ _)=>True
  | some (.ext _)=>True
  | _=>False
section
variable {P:Program}{w:World}{H:Hp}{h h':Heap}{x e:Addr}{o':HO}
theorem HOk.write (ok:HOk P w H h)(mu:Mut (H x))(he:e=x∨H e=some (.own x))(k:∀ b u,b≠e→h.get? b=some u→h'.get? b=some u)(heo:∃ u,h'.get? e=some u)
    (new:ObjOk P w (upd H x o') h' x o'):HOk P w (upd H x o') h':=fun b u q=>by
  have nown:∀ c y,H c=some (.own y)→c≠x:=fun c y r z=>by subst z;rw [r] at mu;exact mu
  have ntup:∀ c xs,H c=some (.tup xs)→c≠x:=fun c xs r z=>by subst z;rw [r] at mu;exact mu
  by_cases hb:b=x
  · subst hb;rw [upd_same] at q;cases q;exact new
  · rw [upd_ne hb] at q
    by_cases hbe:b=e
    · have q':H b=some (.own x):=by
        rcases he with z | z
        · exact absurd (hbe.trans z) hb
        · rw [hbe];exact z
      rw [q] at q';cases q'
      obtain ⟨v,hv⟩:=heo
      exact ⟨v,by rw [hbe];exact hv⟩
    · refine (ok b u q).stay (fun c v hc r=>k c v ?_ r) (fun c r=>by rw [upd_ne (nown c b r)];exact r) fun c xs r=>by rw [upd_ne (ntup c xs r)];exact r
      rcases hc with rfl | hc
      · exact hbe
      · rintro rfl
        rcases he with z | z
        · exact nown c b hc z
        · rw [hc] at z;cases z;exact hb rfl
end
structure Un (fs ex:List Addr)(H H':Hp)(h h':Heap):Prop where
  keep:∀ b o,h.get? b=some o→H b=none→b∉fs→b∉ex→h'.get? b=some o
  slot:∀ b o,h.get? b=some o→H b=none→b∈fs→b∉ex→∃ sl,h'.get? b=some { o with slots:=sl }
  free:∀ b o,h.get? b=some o→H b=none→b∉ex→H' b=none
  there:∀ b o,h.get? b=some o→b∉ex→∃ o',h'.get? b=some o'
  tups:∀ b xs,H b=some (.tup xs)→H' b=some (.tup xs)
  frzs:∀ b o u,H b=some (.frz o u)→H' b=some (.frz o u)
  tbls:∀ b ps,H b=some (.tbl ps)→∃ more,H' b=some (.tbl (ps++more))
section
variable {fs fs' ex ex':List Addr}{H H1 H2:Hp}{h h1 h2 h':Heap}{a x e:Addr}{o:HO}
theorem Un.any (u:Un fs ex H H1 h h1){b:Addr}{ob:Obj}(q:h.get? b=some ob)(n:H b=none)(hx:b∉ex):∃ sl,h1.get? b=some { ob with slots:=sl }:=by
  by_cases hb:b∈fs
  · exact u.slot b ob q n hb hx
  · exact ⟨ob.slots,u.keep b ob q n hb hx⟩
theorem Un.trans (a:Un fs ex H H1 h h1)(b:Un fs ex H1 H2 h1 h2):Un fs ex H H2 h h2 where
  keep:=fun c ob q n hc hx=>b.keep c ob (a.keep c ob q n hc hx) (a.free c ob q n hx) hc hx
  slot:=fun c ob q n hc hx=>by
    obtain ⟨sl,e1⟩:=a.slot c ob q n hc hx
    obtain ⟨sl',e2⟩:=b.slot c _ e1 (a.free c ob q n hx) hc hx
    exact ⟨sl',e2⟩
  free:=fun c ob q n hx=>by
    obtain ⟨o',e1⟩:=a.there c ob q hx
    exact b.free c o' e1 (a.free c ob q n hx) hx
  there:=fun c ob q hx=>by
    obtain ⟨o',e1⟩:=a.there c ob q hx
    exact b.there c o' e1 hx
  tups:=fun c xs q=>b.tups c xs (a.tups c xs q)
  frzs:=fun c ob xs q=>b.frzs c ob xs (a.frzs c ob xs q)
  tbls:=fun c ps q=>by
    obtain ⟨m1,e1⟩:=a.tbls c ps q
    obtain ⟨m2,e2⟩:=b.tbls c _ e1
    exact ⟨m1++m2,by rw [e2,Array.append_assoc]⟩
theorem Un.kept (k:∀ b u,h.get? b=some u→h'.get? b=some u):Un fs ex H H h h':=
  ⟨fun b ob q _ _ _=>k b ob q,fun b ob q _ _ _=>⟨ob.slots,k b ob q⟩,fun _ _ _ n _=>n,fun b ob q _=>⟨ob,k b ob q⟩,fun _ _ q=>q,fun _ _ _ q=>q,fun _ ps q=>⟨#[],by rw [q];simp⟩⟩
theorem Un.refl:Un fs ex H H h h:=Un.kept fun _ _ q=>q
theorem Un.laid (k:∀ b u,h.get? b=some u→h'.get? b=some u)(hp:h.objs.size≤a)(hn:H a=none):Un fs ex H (upd H a o) h h' where
  keep:=fun b u q _ _ _=>k b u q
  slot:=fun b u q _ _ _=>⟨u.slots,k b u q⟩
  free:=fun b u q n _=>by rw [upd_ne (Nat.ne_of_lt (Nat.lt_of_lt_of_le (Heap.lt_size q) hp))];exact n
  there:=fun b u q _=>⟨u,k b u q⟩
  tups:=fun b xs q=>by rw [upd_ne (ne_of_none q hn)];exact q
  frzs:=fun b u xs q=>by rw [upd_ne (ne_of_none q hn)];exact q
  tbls:=fun b ps q=>⟨#[],by rw [upd_ne (ne_of_none q hn),q];simp⟩
theorem Un.write (mu:Mut (H x))(he:e=x∨H e=some (.own x))(k:∀ b u,b≠e→h.get? b=some u→h'.get? b=some u)(heo:∃ u,h'.get? e=some u):Un fs ex H (upd H x o) h h':=by
  have hx:∀ b,H b=none→b≠x:=fun b n z=>by subst z;rw [n] at mu;exact mu
  have hb:∀ b,H b=none→b≠e:=fun b n z=>by
    subst z
    rcases he with r | r
    · exact hx b n r
    · rw [n] at r;cases r
  have hm:∀ b u,H b=some u→¬ Mut (some u)→b≠x:=fun b u q nm z=>by subst z;rw [q] at mu;exact nm mu
  refine ⟨fun b u q n _ _=>k b u (hb b n) q,fun b u q n _ _=>⟨u.slots,k b u (hb b n) q⟩,fun b u q n _=>by rw [upd_ne (hx b n)];exact n,fun b u q _=>?_,
    fun b xs q=>by rw [upd_ne (hm b _ q fun z=>z)];exact q,fun b u xs q=>by rw [upd_ne (hm b _ q fun z=>z)];exact q,fun b ps q=>⟨#[],by rw [upd_ne (hm b _ q fun z=>z),q];simp⟩⟩
  by_cases hbe:b=e
  · subst hbe;exact heo
  · exact ⟨u,k b u hbe q⟩
theorem Un.mono (u:Un fs ex H H1 h h1)(hs:∀ b∈fs,b∈fs')(hx:∀ b∈ex,b∈ex'):Un fs' ex' H H1 h h1:=
  ⟨fun b ob q n hb he=>u.keep b ob q n (fun z=>hb (hs b z)) fun z=>he (hx b z),fun _ _ q n _ he=>u.any q n fun z=>he (hx _ z),fun b ob q n he=>u.free b ob q n fun z=>he (hx b z),fun b ob q he=>u.there b ob q fun z=>he (hx b z),u.tups,u.frzs,u.tbls⟩
end
def trk (h:Heap)(H:Hp):List Addr:=(List.range h.objs.size).filter fun a=>(H a).isSome
def hidT (h:Heap)(H:Hp):Heap:=PySem.W.hideAll h (trk h H)
theorem hidT_size (h:Heap)(H:Hp):(hidT h H).objs.size=h.objs.size:=PySem.W.hideAll_size _ _
theorem hidT_get {h:Heap}{H:Hp}{b:Addr}{o:Obj}(e:h.get? b=some o)(n:H b=none):(hidT h H).get? b=some o:=
  PySem.W.hideAll_get _ e fun hm=>by
    have q:(H b).isSome=true:=(List.mem_filter.mp hm).2
    rw [n] at q;simp at q
theorem of_hidT {h:Heap}{H:Hp}{b:Addr}{o:Obj}(e:(hidT h H).get? b=some o):h.get? b=some o∧H b=none:=by
  have e':h.get? b=some o:=PySem.W.of_hideAll (trk h H) e
  refine ⟨e',?_⟩
  cases q:H b with
  | none=>rfl
  | some x=>
    have hm:b∈trk h H:=List.mem_filter.mpr ⟨List.mem_range.mpr (Heap.lt_size e'),by simp [q]⟩
    have z:(hidT h H).get? b=none:=PySem.W.hideAll_none (trk h H) hm
    rw [z] at e;cases e
def allNews (g h:Heap)(L:Addr):List (Addr×Obj):=(List.range h.objs.size).filterMap fun a=>if a=L∨(g.get? a).isSome=true then none else (h.get? a).map fun o=>(a,o)
def rest (g h:Heap)(L d:Addr):List (Addr×Obj):=(allNews g h L).filter fun p=>decide (p.1≠d)
end L2
namespace L2
open PySem PySem.Spec PyProof.Rows
structure Mod (K:PySem.W.Frag)(mg:Str→Option Value)(base:Heap):Prop where
  kin:K.In base
  glob:base.Ns mainGlobals mg
  blt:∃ mb,base.Ns builtinsNs mb∧∀ x:Str,x≠"__name__"→mb x=bootBuiltins x
  nolimit:base.NoLimit
structure Cx where
  prog:Program
  w:World
  K:PySem.W.Frag
  mg:Str→Option Value
  base:Heap
  A:Around
  N:List Str
  s₀:Shared
  H₀:Hp
  env:Env
  outer:List Env
  stack:List Env
  ex:List Addr
  fn:Str→Bool
  calm:Bool
  pn:List (Addr×Obj)
  xe:Value→Shared→Prop
def frs (l:List Env):List Addr:=l.filterMap (·.frame)
abbrev Cx.fs (X:Cx):List Addr:=frs X.outer
def Vis (sc:Scope)(x:Str):Prop:=sc.names.lookup x=some .local∨sc.names.lookup x=some .cell∨sc.names.lookup x=some .free
def Loc (sc:Scope)(x:Str):Prop:=sc.names.lookup x=some .local∨sc.names.lookup x=some .cell
def Look (env:Env)(h:Heap)(m:Str→Option Value)(x:Str)(u:Value):Prop:=
  (env.kindOf x=some .local∧m x=some u)∨((env.kindOf x=some .cell∨env.kindOf x=some .free)∧∃ c,env.cells.lookup x=some c∧h.IsCell c (some u))
structure Cx.Ok (X:Cx):Prop where
  mod:Mod X.K X.mg X.base
  kind:X.env.scope.kind=.function
  glob:X.env.globals=mainGlobals
  blt:X.env.builtins=builtinsNs
  above:X.s₀.heap.objs.size≤X.env.locals
  inj:∀ x y c,X.env.cells.lookup x=some c→X.env.cells.lookup y=some c→x=y
  has:∀ x,(X.env.kindOf x=some .cell∨X.env.kindOf x=some .free)→∃ c,X.env.cells.lookup x=some c
  cab:∀ x c,X.fn x=true→X.env.cells.lookup x=some c→X.s₀.heap.objs.size≤c
  hd:X.calm=true→X.A.handled=none
  frames:X.A.frames=some X.stack
  stk:X.stack=X.outer∨(X.stack=X.env::X.outer∧X.env.frame=some X.env.locals)
  exf:∀ b∈X.ex,b≠X.env.locals∧∀ x c,X.env.cells.lookup x=some c→c≠b
  bs:∀ b o,X.base.get? b=some o→X.s₀.heap.get? b=some o∧X.H₀ b=none
  bsz:X.base.objs.size≤X.s₀.heap.objs.size
  noex:∀ b o,X.base.get? b=some o→b∉X.ex
  exfs:∀ b∈X.ex,b∉X.fs
  funs:X.s₀.heap.FunFrames X.base X.outer
  frf:∀ b∈X.fs,X.H₀ b=none
structure Inv (X:Cx)(pins:List (Addr×Obj))(σ:List (Option V))(H:Hp)(s:Shared):Prop where
  ok:X.Ok
  os:s.os=X.s₀.os
  bare:AllBare s.gens
  base:Un X.fs X.ex X.H₀ H X.s₀.heap s.heap
  loc:∃ m,s.heap.Ns X.env.locals m∧∀ (i:Nat) (x:Str) (v:V),X.N[i]?=some x→σ[i]?=some (some v)→Vis X.env.scope x→∃ u,RelV v u∧Look X.env s.heap m x u
  cell:∀ x c,X.env.cells.lookup x=some c→∃ v,s.heap.IsCell c v
  free:H X.env.locals=none
  freeC:∀ x c,X.env.cells.lookup x=some c→H c=none
  pin:∀ p∈X.pn++pins,s.heap.get? p.1=some p.2∧H p.1=none∧p.1≠X.env.locals∧p.1∉X.fs∧∀ v,p.2.data≠.cell v
  hok:HOk X.prog X.w H s.heap
  len:σ.length=X.N.length
section
variable {X:Cx}{pins:List (Addr×Obj)}{σ:List (Option V)}{H H':Hp}{s:Shared}{h':Heap}
theorem Cx.Ok.nofr (ok:X.Ok){b:Addr}{o:Obj}(e:X.base.get? b=some o):b∉X.fs:=fun hb=>by
  have:=(ok.funs.mem hb).1
  rw [e] at this;cases this
theorem Inv.bs (I:Inv X pins σ H s):∀ b o,X.base.get? b=some o→s.heap.get? b=some o∧H b=none:=fun b o e=>
  ⟨I.base.keep b o (I.ok.bs b o e).1 (I.ok.bs b o e).2 (I.ok.nofr e) (I.ok.noex b o e),I.base.free b o (I.ok.bs b o e).1 (I.ok.bs b o e).2 (I.ok.noex b o e)⟩
theorem Inv.bk (I:Inv X pins σ H s):∀ b o,X.base.get? b=some o→s.heap.get? b=some o:=fun b o e=>(I.bs b o e).1
theorem Inv.mod (I:Inv X pins σ H s):Mod X.K X.mg X.base:=I.ok.mod
theorem Inv.kIn (I:Inv X pins σ H s):X.K.In s.heap:=I.ok.mod.kin.keeps I.bk
theorem Inv.nolimit (I:Inv X pins σ H s):s.heap.NoLimit:=I.ok.mod.nolimit.keeps I.bk
theorem Inv.fr (I:Inv X pins σ H s):∃ m,Fr X.base X.env.locals s.heap m:=
  let ⟨m,hn,_⟩:=I.loc
  ⟨m,hn,I.bk,Nat.le_trans I.ok.bsz I.ok.above⟩
theorem Inv.lt (I:Inv X pins σ H s):X.env.locals<s.heap.objs.size:=let ⟨_,hn,_⟩:=I.loc;hn.lt
theorem Inv.sz (I:Inv X pins σ H s):X.s₀.heap.objs.size≤s.heap.objs.size:=Nat.le_trans I.ok.above (Nat.le_of_lt I.lt)
theorem Inv.nofs (I:Inv X pins σ H s){a:Addr}(h:s.heap.objs.size≤a):a∉X.fs:=fun hb=>by
  obtain ⟨_,o,ho,_⟩:=I.ok.funs.mem hb
  exact absurd (Nat.lt_of_lt_of_le (Heap.lt_size ho) (Nat.le_trans I.sz h)) (Nat.lt_irrefl _)
theorem Inv.cne (I:Inv X pins σ H s):∀ x c,X.env.cells.lookup x=some c→c≠X.env.locals:=fun x c e z=>by
  obtain ⟨v,o,ho,hd⟩:=I.cell x c e
  obtain ⟨m,⟨o',es,ep,ho',hd',_⟩,_⟩:=I.loc
  rw [z,ho'] at ho;cases ho;rw [hd'] at hd;cases hd
theorem Inv.funs (I:Inv X pins σ H s):s.heap.FunFrames X.base X.outer:=by
  have all:∀ (l:List Env),(∀ b∈frs l,b∈X.fs)→X.s₀.heap.FunFrames X.base l→s.heap.FunFrames X.base l:=by
    intro l
    induction l with
    | nil=>intro _ _;trivial
    | cons env r ih=>
      intro hs hl
      obtain ⟨hk,⟨L,o,hf,hn,ho,hd⟩,hr⟩:=hl
      have hL:L∈X.fs:=hs L (by unfold frs;rw [List.filterMap_cons,hf];exact List.mem_cons_self)
      obtain ⟨sl,e⟩:=I.base.slot L o ho (I.ok.frf L hL) hL fun z=>I.ok.exfs L z hL
      exact ⟨hk,⟨L,_,hf,hn,e,hd⟩,ih (fun b hb=>hs b (by unfold frs;rw [List.filterMap_cons,hf];exact List.mem_cons_of_mem _ hb)) hr⟩
  exact all X.outer (fun _ hb=>hb) I.ok.funs
theorem Inv.stack (I:Inv X pins σ H s):s.heap.FunFrames X.base X.stack:=by
  rcases I.ok.stk with e | ⟨e,hf⟩
  · rw [e];exact I.funs
  · rw [e]
    obtain ⟨m,hn,_⟩:=I.loc
    refine .cons (by rw [I.ok.kind];decide) hf hn ?_ I.funs
    exact Heap.get?_none_of_le (Nat.le_trans I.ok.bsz I.ok.above)
theorem Inv.stkSub (I:Inv X pins σ H s):∀ b∈frs X.stack,b∈X.env.locals::X.fs:=fun b hb=>by
  rcases I.ok.stk with e | ⟨e,hf⟩
  · rw [e] at hb;exact List.mem_cons_of_mem _ hb
  · rw [e] at hb
    unfold frs at hb
    rw [List.filterMap_cons,hf] at hb
    exact hb
theorem Inv.stkFree (I:Inv X pins σ H s):∀ b∈frs X.stack,H b=none:=fun b hb=>by
  rcases List.mem_cons.mp (I.stkSub b hb) with e | hb
  · rw [e];exact I.free
  · obtain ⟨_,o,ho,_⟩:=I.ok.funs.mem hb
    exact I.base.free b o ho (I.ok.frf b hb) fun z=>I.ok.exfs b z hb
theorem Inv.step {g':Array GenState}{t':Nat}{d':Drawn}{ch:List Addr}(I:Inv X pins σ H s)
    (hch:∀ b∈ch,(b∈X.ex∨X.s₀.heap.objs.size≤b)∧b≠X.env.locals∧(∀ x c,X.env.cells.lookup x=some c→c≠b)∧∀ p∈X.pn++pins,p.1≠b)
    (keep:∀ b o,b≠X.env.locals→b∉X.fs→b∉ch→s.heap.get? b=some o→H b=none→h'.get? b=some o)
    (slot:∀ b o,b≠X.env.locals→b∈X.fs→b∉ch→s.heap.get? b=some o→H b=none→∃ sl,h'.get? b=some { o with slots:=sl }) (free:∀ b o,b∉ch→s.heap.get? b=some o→H b=none→H' b=none)
    (there:∀ b o,b∉ch→s.heap.get? b=some o→∃ o',h'.get? b=some o')
    (tups:∀ b xs,H b=some (.tup xs)→H' b=some (.tup xs)) (frzs:∀ b o u,H b=some (.frz o u)→H' b=some (.frz o u)) (tbls:∀ b ps,H b=some (.tbl ps)→∃ more,H' b=some (.tbl (ps++more)))
    (ns:∀ m,s.heap.Ns X.env.locals m→h'.Ns X.env.locals m) (hok:HOk X.prog X.w H' h') (hg:AllBare g'):
    Inv X pins σ H' { s with heap:=h',gens:=g',drawn:=d',toks:=t' }:=by
  have neL:∀ b o,X.s₀.heap.get? b=some o→b≠X.env.locals:=fun b o e=>Nat.ne_of_lt (Nat.lt_of_lt_of_le (Heap.lt_size e) I.ok.above)
  have neC:∀ b o,X.s₀.heap.get? b=some o→b∉X.ex→b∉ch:=fun b o e hx hb=>by
    rcases (hch b hb).1 with z | z
    · exact hx z
    · exact absurd (Nat.lt_of_lt_of_le (Heap.lt_size e) z) (Nat.lt_irrefl _)
  have cellK:∀ x c,X.env.cells.lookup x=some c→∀ v,s.heap.IsCell c v→h'.IsCell c v:=fun x c e v ⟨o,ho,hd⟩=>by
    have nch:c∉ch:=fun z=>(hch c z).2.2.1 x c e rfl
    by_cases hc:c∈X.fs
    · obtain ⟨sl,q⟩:=slot c o (I.cne x c e) hc nch ho (I.freeC x c e)
      exact ⟨_,q,hd⟩
    · exact ⟨o,keep c o (I.cne x c e) hc nch ho (I.freeC x c e),hd⟩
  refine ⟨I.ok,I.os,hg,⟨fun b o e n hb hx=>?_,fun b o e n hb hx=>?_,fun b o e n hx=>?_,fun b o e hx=>?_,fun b xs e=>tups b xs (I.base.tups b xs e),fun b o xs e=>frzs b o xs (I.base.frzs b o xs e),fun b ps e=>?_⟩,?_,fun x c e=>?_,?_,fun x c e=>?_,fun p hp=>?_,hok,I.len⟩
  · exact keep b o (neL b o e) hb (neC b o e hx) (I.base.keep b o e n hb hx) (I.base.free b o e n hx)
  · obtain ⟨sl,e1⟩:=I.base.slot b o e n hb hx
    obtain ⟨sl',e2⟩:=slot b _ (neL b o e) hb (neC b o e hx) e1 (I.base.free b o e n hx)
    exact ⟨sl',e2⟩
  · obtain ⟨o',e1⟩:=I.base.there b o e hx
    exact free b o' (neC b o e hx) e1 (I.base.free b o e n hx)
  · obtain ⟨o',e1⟩:=I.base.there b o e hx
    exact there b o' (neC b o e hx) e1
  · obtain ⟨m1,e1⟩:=I.base.tbls b ps e
    obtain ⟨m2,e2⟩:=tbls b _ e1
    exact ⟨m1++m2,by rw [e2,Array.append_assoc]⟩
  · obtain ⟨m,hn,hl⟩:=I.loc
    refine ⟨m,ns m hn,fun i x v e1 e2 e3=>?_⟩
    obtain ⟨u,r,l⟩:=hl i x v e1 e2 e3
    refine ⟨u,r,?_⟩
    rcases l with l | ⟨k,c,e,z⟩
    · exact .inl l
    · exact .inr ⟨k,c,e,cellK x c e _ z⟩
  · obtain ⟨v,z⟩:=I.cell x c e
    exact ⟨v,cellK x c e v z⟩
  · obtain ⟨m,⟨o,_,_,ho,_⟩,_⟩:=I.loc
    exact free _ o (fun z=>(hch _ z).2.1 rfl) ho I.free
  · obtain ⟨v,o,ho,hd⟩:=I.cell x c e
    exact free c o (fun z=>(hch c z).2.2.1 x c e rfl) ho (I.freeC x c e)
  · obtain ⟨e,n,ne,nf,d⟩:=I.pin p hp
    have nch:p.1∉ch:=fun z=>(hch p.1 z).2.2.2 p hp rfl
    exact ⟨keep p.1 p.2 ne nf nch e n,free p.1 p.2 nch e n,ne,nf,d⟩
theorem Inv.un {t':Nat}(I:Inv X pins σ H s)(u:Un X.fs [] H H' s.heap h')(hok:HOk X.prog X.w H' h'):Inv X pins σ H' { s with heap:=h',toks:=t' }:=by
  obtain ⟨m,⟨o,es,ep,ho,r⟩,_⟩:=id I.loc
  obtain ⟨sl,hL⟩:=u.any ho I.free (by simp)
  exact I.step (g':=s.gens) (d':=s.drawn) (ch:=[]) (fun _ z=>nomatch z) (fun b o _ hb _ e n=>u.keep b o e n hb (by simp)) (fun b o _ hb _ e n=>u.slot b o e n hb (by simp)) (fun b o _ e n=>u.free b o e n (by simp)) (fun b o _ e=>u.there b o e (by simp)) u.tups u.frzs u.tbls (fun m' hm=>by
    obtain ⟨o',es',ep',ho',r'⟩:=hm
    rw [ho] at ho';cases ho'
    exact ⟨_,es',ep',hL,r'⟩) hok I.bare
theorem Inv.call {g':Array GenState}{t':Nat}{d':Drawn}{ch:List Addr}(I:Inv X pins σ H s)(u:Un (frs X.stack) ch H H' s.heap h')(hok:HOk X.prog X.w H' h')(hg:AllBare g')
    (hch:∀ b∈ch,(b∈X.ex∨X.s₀.heap.objs.size≤b)∧b≠X.env.locals∧(∀ x c,X.env.cells.lookup x=some c→c≠b)∧∀ p∈X.pn++pins,p.1≠b):
    Inv X pins σ H' { s with heap:=h',gens:=g',drawn:=d',toks:=t' }:=by
  obtain ⟨m,⟨o,es,ep,ho,r⟩,_⟩:=id I.loc
  obtain ⟨sl,hL⟩:=u.any ho I.free fun z=>(hch _ z).2.1 rfl
  exact I.step (ch:=ch) hch (fun b o hL hb hc e n=>u.keep b o e n (fun z=>(List.mem_cons.mp (I.stkSub b z)).elim hL hb) hc) (fun b o _ _ hc e n=>u.any e n hc) (fun b o hc e n=>u.free b o e n hc) (fun b o hc e=>u.there b o e hc) u.tups u.frzs u.tbls (fun m' hm=>by
    obtain ⟨o',es',ep',ho',r'⟩:=hm
    rw [ho] at ho';cases ho'
    exact ⟨_,es',ep',hL,r'⟩) hok hg
theorem Inv.turned {t':Nat}{it:Addr}(I:Inv X pins σ H s)(k:∀ b o,b≠it→s.heap.get? b=some o→h'.get? b=some o)(hn:H it=none)(hL:it≠X.env.locals)
    (h1:it∈X.ex∨X.s₀.heap.objs.size≤it) (h2:∀ x c,X.env.cells.lookup x=some c→c≠it) (h3:∀ p∈X.pn++pins,p.1≠it):Inv X pins σ H { s with heap:=h',toks:=t' }:=by
  have nit:∀ b u,H b=some u→b≠it:=fun b u e z=>by rw [z,hn] at e;cases e
  refine I.step (g':=s.gens) (d':=s.drawn) (ch:=[it]) (fun b hb=>?_) (fun b o _ _ hc e _=>k b o (fun z=>hc (by simp [z])) e) (fun b o _ _ hc e _=>⟨o.slots,k b o (fun z=>hc (by simp [z])) e⟩) (fun _ _ _ _ n=>n)
    (fun b o hc e=>⟨o,k b o (fun z=>hc (by simp [z])) e⟩) (fun _ _ e=>e) (fun _ _ _ e=>e) (fun b ps e=>⟨#[],by rw [e];simp⟩) (fun m hm=>?_) (fun b u e=>?_) I.bare
  · have e:b=it:=by simpa using hb
    subst e
    exact ⟨h1,hL,h2,h3⟩
  · obtain ⟨o,es,ep,ho,r⟩:=hm
    exact ⟨o,es,ep,k _ o (Ne.symm hL) ho,r⟩
  · refine (I.hok b u e).stay (fun c v hc q=>k c v ?_ q) (fun _ q=>q) fun _ _ q=>q
    rcases hc with z | z
    · rw [z];exact nit b u e
    · exact nit c _ z
theorem Inv.tok (I:Inv X pins σ H s)(t:Nat):Inv X pins σ H { s with toks:=t }:=I.un (h':=s.heap) (t':=t) Un.refl I.hok
theorem Inv.kept {t':Nat}(I:Inv X pins σ H s)(k:∀ b u,s.heap.get? b=some u→h'.get? b=some u):Inv X pins σ H { s with heap:=h',toks:=t' }:=I.un (Un.kept k) (I.hok.kept k)
theorem Inv.laid {a:Addr}{o:HO}{t':Nat}(I:Inv X pins σ H s)(k:∀ b u,s.heap.get? b=some u→h'.get? b=some u)(hp:s.heap.objs.size≤a)(new:ObjOk X.prog X.w (upd H a o) h' a o):
    Inv X pins σ (upd H a o) { s with heap:=h',toks:=t' }:=I.un (Un.laid k hp (I.hok.fresh hp)) (I.hok.laid k hp new)
theorem Inv.write {x e:Addr}{o:HO}{t':Nat}(I:Inv X pins σ H s)(mu:Mut (H x))(he:e=x∨H e=some (.own x))(k:∀ b u,b≠e→s.heap.get? b=some u→h'.get? b=some u)(heo:∃ u,h'.get? e=some u)
    (new:ObjOk X.prog X.w (upd H x o) h' x o):Inv X pins σ (upd H x o) { s with heap:=h',toks:=t' }:=I.un (Un.write mu he k heo) (I.hok.write mu he k heo new)
theorem Inv.pins_of {pins':List (Addr×Obj)}(I:Inv X pins σ H s)(h:∀ p∈pins',s.heap.get? p.1=some p.2∧H p.1=none∧p.1≠X.env.locals∧p.1∉X.fs∧∀ v,p.2.data≠.cell v):Inv X pins' σ H s:=
  ⟨I.ok,I.os,I.bare,I.base,I.loc,I.cell,I.free,I.freeC,fun p hp=>(List.mem_append.mp hp).elim (fun z=>I.pin p (List.mem_append_left _ z)) (h p),I.hok,I.len⟩
theorem nodup_ix {N:List Str}(hN:N.Nodup){i j:Nat}{x:Str}(a:N[i]?=some x)(b:N[j]?=some x):i=j:=by
  obtain ⟨h1,e1⟩:=List.getElem?_eq_some_iff.mp a
  obtain ⟨h2,e2⟩:=List.getElem?_eq_some_iff.mp b
  exact (List.getElem_inj hN).mp (e1.trans e2.symm)
theorem store_ok2 {M:Model}{A:Around}{E:Value→Shared→Prop}{i:Nat}{x:Str}{v:V}{u:Value}{Q:Unit→Shared→Prop}(I:Inv X pins σ H s)(hN:X.N.Nodup)(hi:X.N[i]?=some x)(hx:Loc X.env.scope x)(r:RelV v u)
    (h:∀ s',Inv X pins (σ.set i (some v)) H s'→(∃ a,Heap.SameBut a s.heap s'.heap∧(a=X.env.locals∨X.env.cells.lookup x=some a))→Q () s') (hf:X.fn x=true∨X.env.scope.names.lookup x=some .local:=by first | exact .inl rfl | exact .inr rfl | assumption):wpAny M A (storeName X.env x u) Q E s:=by
  obtain ⟨m,hn,hl⟩:=id I.loc
  have hcls:(X.env.scope.kind==.class||(X.env.scope.kind==.module&&X.env.locals != X.env.globals))=false:=by rw [I.ok.kind];rfl
  have hiσ:i<σ.length:=by rw [I.len];exact (List.getElem?_eq_some_iff.mp hi).1
  have cne:=I.cne
  have tracked:∀ {a:Addr} {h':Heap},(∃ o,s.heap.get? a=some o∧H a=none)→Heap.SameBut a s.heap h'→HOk X.prog X.w H h':=fun {a h'} ha hs b ob e=>by
    obtain ⟨_,_,hfree⟩:=ha
    refine (I.hok b ob e).stay (fun c w' hc q=>(hs.2 c ?_).trans q) (fun _ q=>q) fun _ _ q=>q
    rintro rfl
    rcases hc with rfl | hc
    · rw [hfree] at e;cases e
    · rw [hfree] at hc;cases hc
  rcases hx with hk | hk
  · refine wpAny_storeName_local hk hn (fun h' hn' hs=>?_) hcls
    obtain ⟨oL,_,_,hoL,_⟩:=id hn
    refine h _ ⟨I.ok,I.os,I.bare,⟨fun b o e n hb hx=>?_,fun b o e n hb hx=>?_,I.base.free,fun b o e hx=>?_,I.base.tups,I.base.frzs,I.base.tbls⟩,⟨_,hn',fun j y v' e1 e2 e3=>?_⟩,fun y c e=>?_,I.free,I.freeC,fun p hp=>?_,tracked ⟨oL,hoL,I.free⟩ hs,by simpa using I.len⟩ ⟨_,hs,.inl rfl⟩
    · exact (hs.2 b (Nat.ne_of_lt (Nat.lt_of_lt_of_le (Heap.lt_size e) I.ok.above))).trans (I.base.keep b o e n hb hx)
    · obtain ⟨sl,e1⟩:=I.base.slot b o e n hb hx
      exact ⟨sl,(hs.2 b (Nat.ne_of_lt (Nat.lt_of_lt_of_le (Heap.lt_size e) I.ok.above))).trans e1⟩
    · obtain ⟨o',e1⟩:=I.base.there b o e hx
      exact ⟨o',(hs.2 b (Nat.ne_of_lt (Nat.lt_of_lt_of_le (Heap.lt_size e) I.ok.above))).trans e1⟩
    · by_cases hj:j=i
      · subst hj
        rw [hi] at e1;cases e1
        rw [List.getElem?_set_self hiσ] at e2
        cases e2
        exact ⟨u,r,.inl ⟨hk,by simp⟩⟩
      · rw [List.getElem?_set_ne (Ne.symm hj)] at e2
        obtain ⟨u',r',q⟩:=hl j y v' e1 e2 e3
        refine ⟨u',r',?_⟩
        rcases q with ⟨k,e⟩ | ⟨k,c,e,z⟩
        · refine .inl ⟨k,?_⟩
          have:y≠x:=fun e=>hj (nodup_ix hN e1 (e▸hi))
          simp [this,e]
        · exact .inr ⟨k,c,e,z.sameBut hs (cne y c e)⟩
    · obtain ⟨w',z⟩:=I.cell y c e
      exact ⟨w',z.sameBut hs (cne y c e)⟩
    · obtain ⟨e,n,ne,nf,d⟩:=I.pin p hp
      exact ⟨(hs.2 p.1 ne).trans e,n,ne,nf,d⟩
  · have hfn:X.fn x=true:=by
      rcases hf with z | z
      · exact z
      · rw [z] at hk;cases hk
    obtain ⟨c,hc⟩:=I.ok.has x (.inl hk)
    obtain ⟨w',z⟩:=I.cell x c hc
    refine wpAny_storeName_cell I.ok.kind hk hc z (fun h' hc' hs=>?_)
    obtain ⟨oc,hoc,hocd⟩:=id z
    refine h { s with heap:=h' } ⟨I.ok,I.os,I.bare,⟨fun b o e n hb hx=>?_,fun b o e n hb hx=>?_,I.base.free,fun b o e hx=>?_,I.base.tups,I.base.frzs,I.base.tbls⟩,⟨m,hn.sameBut hs (Ne.symm (cne x c hc)),fun j y v' e1 e2 e3=>?_⟩,fun y c' e=>?_,I.free,I.freeC,fun p hp=>?_,tracked ⟨oc,hoc,I.freeC x c hc⟩ hs,by simpa using I.len⟩ ⟨c,hs,.inr hc⟩
    · exact (hs.2 b (Nat.ne_of_lt (Nat.lt_of_lt_of_le (Heap.lt_size e) (I.ok.cab x c hfn hc)))).trans (I.base.keep b o e n hb hx)
    · obtain ⟨sl,e1⟩:=I.base.slot b o e n hb hx
      exact ⟨sl,(hs.2 b (Nat.ne_of_lt (Nat.lt_of_lt_of_le (Heap.lt_size e) (I.ok.cab x c hfn hc)))).trans e1⟩
    · obtain ⟨o',e1⟩:=I.base.there b o e hx
      exact ⟨o',(hs.2 b (Nat.ne_of_lt (Nat.lt_of_lt_of_le (Heap.lt_size e) (I.ok.cab x c hfn hc)))).trans e1⟩
    · by_cases hj:j=i
      · subst hj
        rw [hi] at e1;cases e1
        rw [List.getElem?_set_self hiσ] at e2
        cases e2
        exact ⟨u,r,.inr ⟨.inl hk,c,hc,hc'⟩⟩
      · rw [List.getElem?_set_ne (Ne.symm hj)] at e2
        obtain ⟨u',r',q⟩:=hl j y v' e1 e2 e3
        refine ⟨u',r',?_⟩
        rcases q with q | ⟨k,c',e,z'⟩
        · exact .inl q
        · refine .inr ⟨k,c',e,z'.sameBut hs ?_⟩
          rintro rfl
          exact hj (nodup_ix hN e1 (I.ok.inj _ _ _ e hc▸hi))
    · by_cases hcc:c'=c
      · subst hcc;exact ⟨_,hc'⟩
      · obtain ⟨w2,z2⟩:=I.cell y c' e
        exact ⟨w2,z2.sameBut hs hcc⟩
    · obtain ⟨e,n,ne,nf,d⟩:=I.pin p hp
      refine ⟨(hs.2 p.1 ?_).trans e,n,ne,nf,d⟩
      intro q
      rw [q,hoc] at e
      have q':oc=p.2:=Option.some.inj e
      exact d w' (by rw [← q'];exact hocd)
theorem store_ok {M:Model}{A:Around}{E:Value→Shared→Prop}{i:Nat}{x:Str}{v:V}{u:Value}{Q:Unit→Shared→Prop}(I:Inv X pins σ H s)(hN:X.N.Nodup)(hi:X.N[i]?=some x)(hx:Loc X.env.scope x)(r:RelV v u)
    (h:∀ s',Inv X pins (σ.set i (some v)) H s'→Q () s') (hf:X.fn x=true∨X.env.scope.names.lookup x=some .local:=by first | exact .inl rfl | exact .inr rfl | assumption):wpAny M A (storeName X.env x u) Q E s:=
  store_ok2 I hN hi hx r (fun s' I' _=>h s' I') hf
theorem Inv.call' {s':Shared}{ch:List Addr}(I:Inv X pins σ H s)(ho:s'.os=s.os)(u:Un (frs X.stack) ch H H' s.heap s'.heap)(hok:HOk X.prog X.w H' s'.heap)(hg:AllBare s'.gens)
    (hch:∀ b∈ch,(b∈X.ex∨X.s₀.heap.objs.size≤b)∧b≠X.env.locals∧(∀ x c,X.env.cells.lookup x=some c→c≠b)∧∀ p∈X.pn++pins,p.1≠b):Inv X pins σ H' s':=by
  obtain ⟨h',g',d',t',o'⟩:=s'
  have e:o'=s.os:=ho
  subst e
  exact I.call (g':=g') (t':=t') (d':=d') u hok hg hch
end
abbrev XK:=Value→Option Addr→Hp→Prop
abbrev St:=List (Option V)
abbrev VK:=V→Hp→Prop
abbrev TE:=St→Hp→VK→Prop
abbrev TT:=St→Hp→(Bool→Hp→Prop)→Prop
abbrev TA:=St→Hp→(List V→Hp→Prop)→Prop
structure Ends where
  nx:St→Hp→Prop
  rt:VK
  bk:St→Hp→Prop:=fun _ _=>False
  ct:St→Hp→Prop:=fun _ _=>False
abbrev TS:=Ends→St→Hp→Prop
def EP (X:Cx)(pins:List (Addr×Obj))(σ:St)(Q:VK)(u:Value)(s':Shared):Prop:=∃ v H',Inv X pins σ H' s'∧RelV v u∧Q v H'
def TP (X:Cx)(pins:List (Addr×Obj))(σ:St)(Q:Bool→Hp→Prop)(b:Bool)(s':Shared):Prop:=∃ H',Inv X pins σ H' s'∧Q b H'
def AP (X:Cx)(pins:List (Addr×Obj))(σ:St)(Q:List V→Hp→Prop)(us:List Value)(s':Shared):Prop:=∃ vs H',Inv X pins σ H' s'∧Vals vs us∧Q vs H'
def SP (X:Cx)(pins:List (Addr×Obj))(D:Ends)(f:Flow)(s':Shared):Prop:=
  match f with
  | .next=>∃ σ' H',Inv X pins σ' H' s'∧D.nx σ' H'
  | .brk=>∃ σ' H',Inv X pins σ' H' s'∧D.bk σ' H'
  | .cont=>∃ σ' H',Inv X pins σ' H' s'∧D.ct σ' H'
  | .ret u=>∃ v σ' H',Inv X pins σ' H' s'∧RelV v u∧D.rt v H'
def PE (X:Cx)(e:Expr)(t:TE):Prop:=
  ∀ (pins:List (Addr×Obj)) (s:Shared) (σ:St) (H:Hp) (Q:VK),Inv X pins σ H s→t σ H Q→wpAny (model X.prog X.w) X.A (eval e X.env) (EP X pins σ Q) X.xe s
def PT (X:Cx)(e:Expr)(t:TT):Prop:=
  ∀ (pins:List (Addr×Obj)) (s:Shared) (σ:St) (H:Hp) (Q:Bool→Hp→Prop),Inv X pins σ H s→t σ H Q→wpAny (model X.prog X.w) X.A (isTrue e X.env (eval e X.env)) (TP X pins σ Q) X.xe s
def PW (X:Cx)(e:Expr)(t:TT):Prop:=
  ∀ (whole:Sem Value) (pins:List (Addr×Obj)) (s:Shared) (σ:St) (H:Hp) (Q:Bool→Hp→Prop),Inv X pins σ H s→t σ H Q→wpAny (model X.prog X.w) X.A (isTrue e X.env whole) (TP X pins σ Q) X.xe s
theorem PW.pt {X:Cx}{e:Expr}{t:TT}(h:PW X e t):PT X e t:=h _
def PA (X:Cx)(es:List Expr)(t:TA):Prop:=
  ∀ (pos:Pos) (pins:List (Addr×Obj)) (s:Shared) (σ:St) (H:Hp) (Q:List V→Hp→Prop),Inv X pins σ H s→t σ H Q→wpAny (model X.prog X.w) X.A (spliced (backTo pos (starEach es X.env))) (AP X pins σ Q) X.xe s
def PS (X:Cx)(st:Stmt)(t:TS):Prop:=
  ∀ (pins:List (Addr×Obj)) (s:Shared) (σ:St) (H:Hp) (D:Ends),Inv X pins σ H s→t D σ H→wpAny (model X.prog X.w) X.A (exec st X.env) (SP X pins D) X.xe s
def PSs (X:Cx)(st:List Stmt)(t:TS):Prop:=
  ∀ (pins:List (Addr×Obj)) (s:Shared) (σ:St) (H:Hp) (D:Ends),Inv X pins σ H s→t D σ H→wpAny (model X.prog X.w) X.A (execs st X.env) (SP X pins D) X.xe s
theorem thn {α:Type}{t:Sem α}{Q Q':α→Shared→Prop}{M:Model}{A:Around}{E:Value→Shared→Prop}{s:Shared}(h:wpAny M A t Q E s)(hQ:∀ a s,Q a s→Q' a s):wpAny M A t Q' E s:=wpAny_mono h hQ fun _ _ x=>x
end L2
namespace L2
open PySem PySem.Spec PyProof.Rows
section
variable {X:Cx}
def tVar (i:Nat):TE:=fun σ H Q=>∃ v,σ[i]?=some (some v)∧Q v H
def tC (v:V):TE:=fun _ H Q=>Q v H
theorem pe_var {i:Nat}{x:Str}{pos:Pos}(hN:X.N[i]?=some x)(hv:Vis X.env.scope x)(hd:(x==("__debug__":Str))=false:=by decide)(hcd:(x==("__classdict__":Str))=false:=by decide):PE X (.Name x pos) (tVar i):=by
  intro pins s σ H Q I h
  obtain ⟨v,e,h⟩:=h
  obtain ⟨m,hn,hl⟩:=I.loc
  obtain ⟨u,r,l⟩:=hl i x v hN e hv
  have fin:EP X pins σ Q u s:=⟨v,H,I,r,h⟩
  rcases l with ⟨hk,hm⟩ | ⟨hk,c,hc,hcell⟩
  · exact wpAny_Name (wpAny_loadName_local I.ok.kind hk hn hm fin) hd
  · rcases hk with hk | hk
    · exact wpAny_Name (wpAny_loadName_cell I.ok.kind hk hc hcell fin) hd
    · exact wpAny_Name (wpAny_loadName_free I.ok.kind hk hc hcell fin hcd) hd
theorem pe_int {i j pos}:PE X (.Constant (.int i) j pos) (tC (.int i)):=fun _ _ _ H _ I h=>wpAny_Constant_int ⟨.int i,H,I.tok _,⟨_,rfl⟩,h⟩
theorem pe_bl {b j pos}:PE X (.Constant (.bool b) j pos) (tC (.bl b)):=fun _ _ _ H _ I h=>Constant_bool ⟨.bl b,H,I,rfl,h⟩
theorem pe_non {j pos}:PE X (.Constant .none j pos) (tC .non):=fun _ _ _ H _ I h=>Constant_none ⟨.non,H,I,rfl,h⟩
theorem pe_str {x j pos}:PE X (.Constant (.str x) j pos) (tC (.str x)):=fun _ _ _ H _ I h=>Calls.Constant_str ⟨.str x,H,I.tok _,⟨_,rfl⟩,h⟩
def Gl (X:Cx)(x:Str):Prop:=X.env.kindOf x=some .globalImplicit
theorem ld_glob {E:Value→Shared→Prop}{pins:List (Addr×Obj)}{s:Shared}{σ:St}{H:Hp}{x:Str}{u:Value}{pos:Pos}{Q:Value→Shared→Prop}(I:Inv X pins σ H s)(hg:Gl X x)(hm:X.mg x=some u)(h:Q u s)
    (hd:(x==("__debug__":Str))=false:=by decide):wpAny (model X.prog X.w) X.A (eval (.Name x pos) X.env) Q E s:=
  Calls.Name_function_global I.ok.kind hg (Calls.loadGlobal_global (by rw [I.ok.glob];exact I.mod.glob.keeps I.bk) hm h) hd
theorem ld_blt {E:Value→Shared→Prop}{pins:List (Addr×Obj)}{s:Shared}{σ:St}{H:Hp}{x:Str}{u:Value}{pos:Pos}{Q:Value→Shared→Prop}(I:Inv X pins σ H s)(hg:Gl X x)(hm:X.mg x=none)(hv:bootBuiltins x=some u)(h:Q u s)
    (hn:x≠"__name__":=by decide) (hd:(x==("__debug__":Str))=false:=by decide):wpAny (model X.prog X.w) X.A (eval (.Name x pos) X.env) Q E s:=by
  obtain ⟨mb,h1,h2⟩:=I.mod.blt
  exact Calls.Name_function_global I.ok.kind hg (Calls.loadGlobal_builtin (by rw [I.ok.glob];exact I.mod.glob.keeps I.bk) hm (by rw [I.ok.blt];exact h1.keeps I.bk) ((h2 x hn).trans hv) h) hd
theorem pe_bltn {x:Str}{v:V}{u:Value}{pos:Pos}(hg:Gl X x)(hm:X.mg x=none)(hv:bootBuiltins x=some u)(r:RelV v u)(hn:x≠"__name__":=by decide)(hd:(x==("__debug__":Str))=false:=by decide):PE X (.Name x pos) (tC v):=
  fun _ _ _ H _ I h=>ld_blt I hg hm hv ⟨v,H,I,r,h⟩ hn hd
def t2I (ta tb:TE)(k:Int→Int→Hp→Prop):St→Hp→Prop:=fun σ H=>ta σ H fun x H1=>tb σ H1 fun y H2=>∃ i j,x=.int i∧y=.int j∧k i j H2
def tAdd (ta tb:TE):TE:=fun σ H Q=>t2I ta tb (fun i j H2=>Q (.int (i+j)) H2) σ H
def tSub (ta tb:TE):TE:=fun σ H Q=>t2I ta tb (fun i j H2=>Q (.int (i-j)) H2) σ H
def tMul (ta tb:TE):TE:=fun σ H Q=>t2I ta tb (fun i j H2=>(-(2 ^ 64)<i∧i<2 ^ 64)∧Q (.int (i*j)) H2) σ H
variable {a b:Expr}{ta tb:TE}{pos:Pos}
def PC (X:Cx)(op:CmpOp)(a b:Expr)(t:TE):Prop:=
  ∀ (pins:List (Addr×Obj)) (s:Shared) (σ:St) (H:Hp) (Q:VK),Inv X pins σ H s→t σ H Q→
    wpAny (model X.prog X.w) X.A (eval a X.env) (fun v s₁=>wpAny (model X.prog X.w) X.A (eval b X.env) (fun u s₂=>wpAny (model X.prog X.w) X.A (compareOp op v u) (EP X pins σ Q) X.xe s₂) X.xe s₁) X.xe s
def tCmp (p:Int→Int→Bool)(ta tb:TE):TE:=fun σ H Q=>t2I ta tb (fun i j H2=>Q (.bl (p i j)) H2) σ H
abbrev tLt:TE→TE→TE:=tCmp fun i j=>decide (i<j)
abbrev tLe:TE→TE→TE:=tCmp fun i j=>decide (i≤j)
abbrev tGt:TE→TE→TE:=tCmp fun i j=>decide (j<i)
abbrev tGe:TE→TE→TE:=tCmp fun i j=>decide (j≤i)
abbrev tEqI:TE→TE→TE:=tCmp fun i j=>decide (i=j)
abbrev tNeI:TE→TE→TE:=tCmp fun i j=>!decide (i=j)
def tIsN (ta:TE):TE:=fun σ H Q=>ta σ H fun x H1=>Q (.bl (decide (x=.non))) H1
def tNotN (ta:TE):TE:=fun σ H Q=>ta σ H fun x H1=>Q (.bl (!decide (x=.non))) H1
def tB (t:TE):TT:=fun σ H Q=>t σ H fun x H1=>∃ c,x=.bl c∧Q c H1
theorem pt_val {e:Expr}{t:TE}(h:PE X e t)(he:∀ whole,isTrue e X.env whole=(do let v ← whole;standAt e.pos;holding [v] (truthy v)):=by intro _;rfl):PT X e (tB t):=by
  intro pins s σ H Q I hw
  refine isTrue_plain (thn (h pins s σ H _ I hw) fun v s1 ⟨x,H1,I1,r1,q1⟩=>?_) (he _)
  obtain ⟨d,rfl,q⟩:=q1
  cases r1
  exact wpAny_truthy_bool ⟨H1,I1,q⟩
variable {tA tB':TT}{rest:List Expr}
def tAnd (t u:TT):TT:=fun σ H Q=>t σ H fun c H1=>if c=true then u σ H1 Q else Q false H1
def tOr (t u:TT):TT:=fun σ H Q=>t σ H fun c H1=>if c=true then Q true H1 else u σ H1 Q
def tNot (t:TT):TT:=fun σ H Q=>t σ H fun c H1=>Q (!c) H1
theorem pw_and1 (ha:PT X a tA):PW X (.BoolOp .And [a] pos) tA:=by
  intro wh pins s σ H Q I h
  refine isTrue_and (thn (ha pins s σ H Q I h) fun c s1 e=>?_)
  cases c with
  | true=>exact isTrue_and_nil e
  | false=>exact e
theorem pw_or1 (ha:PT X a tA):PW X (.BoolOp .Or [a] pos) tA:=by
  intro wh pins s σ H Q I h
  refine isTrue_or (thn (ha pins s σ H Q I h) fun c s1 e=>?_)
  cases c with
  | false=>exact isTrue_or_nil e
  | true=>exact e
theorem pw_and (ha:PT X a tA)(hb:PW X (.BoolOp .And (b::rest) pos) tB'):PW X (.BoolOp .And (a::b::rest) pos) (tAnd tA tB'):=by
  intro wh pins s σ H Q I h
  refine isTrue_and (thn (ha pins s σ H _ I h) fun c s1 ⟨H1,I1,q1⟩=>?_)
  cases c with
  | true=>exact hb wh pins s1 σ H1 Q I1 q1
  | false=>exact ⟨H1,I1,q1⟩
theorem pw_or (ha:PT X a tA)(hb:PW X (.BoolOp .Or (b::rest) pos) tB'):PW X (.BoolOp .Or (a::b::rest) pos) (tOr tA tB'):=by
  intro wh pins s σ H Q I h
  refine isTrue_or (thn (ha pins s σ H _ I h) fun c s1 ⟨H1,I1,q1⟩=>?_)
  cases c with
  | true=>exact ⟨H1,I1,q1⟩
  | false=>exact hb wh pins s1 σ H1 Q I1 q1
theorem pt_not (ha:PT X a tA):PT X (.UnaryOp .Not a pos) (tNot tA):=by
  intro pins s σ H Q I h
  exact isTrue_not (ha pins s σ H (fun c H1=>Q (!c) H1) I h)
def tAndV (ta tb:TE):TE:=fun σ H Q=>ta σ H fun x H1=>∃ c,x=.bl c∧if c=true then tb σ H1 Q else Q (.bl false) H1
def tOrV (ta tb:TE):TE:=fun σ H Q=>ta σ H fun x H1=>∃ c,x=.bl c∧if c=true then Q (.bl true) H1 else tb σ H1 Q
def tNotV (ta:TE):TE:=fun σ H Q=>ta σ H fun x H1=>∃ c,x=.bl c∧Q (.bl (!c)) H1
theorem pe_one {op}{t:TE}(h:PE X a t):PE X (.BoolOp op [a] pos) t:=fun pins s σ H Q I hw=>BoolOp_one (h pins s σ H Q I hw)
theorem pe_and (ha:PE X a ta)(hb:PE X (.BoolOp .And (b::rest) pos) tb):PE X (.BoolOp .And (a::b::rest) pos) (tAndV ta tb):=by
  intro pins s σ H Q I h
  refine BoolOp_and (thn (ha pins s σ H _ I h) fun v s1 ⟨x,H1,I1,r1,q1⟩=>?_)
  obtain ⟨c,rfl,q1⟩:=q1
  cases r1
  refine wpAny_truthy_bool ?_
  cases c with
  | true=>exact hb pins s1 σ H1 Q I1 q1
  | false=>exact ⟨.bl false,H1,I1,rfl,q1⟩
theorem pe_or (ha:PE X a ta)(hb:PE X (.BoolOp .Or (b::rest) pos) tb):PE X (.BoolOp .Or (a::b::rest) pos) (tOrV ta tb):=by
  intro pins s σ H Q I h
  refine BoolOp_or (thn (ha pins s σ H _ I h) fun v s1 ⟨x,H1,I1,r1,q1⟩=>?_)
  obtain ⟨c,rfl,q1⟩:=q1
  cases r1
  refine wpAny_truthy_bool ?_
  cases c with
  | false=>exact hb pins s1 σ H1 Q I1 q1
  | true=>exact ⟨.bl true,H1,I1,rfl,q1⟩
def tIf (t:TT)(ta tb:TE):TE:=fun σ H Q=>t σ H fun c H1=>if c=true then ta σ H1 Q else tb σ H1 Q
theorem pe_ifExp {c:Expr}(hc:PT X c tA)(ha:PE X a ta)(hb:PE X b tb):PE X (.IfExp c a b pos) (tIf tA ta tb):=by
  intro pins s σ H Q I h
  refine wpAny_IfExp (thn (hc pins s σ H _ I h) fun d s1 ⟨H1,I1,q1⟩=>?_)
  cases d with
  | true=>exact ha pins s1 σ H1 Q I1 q1
  | false=>exact hb pins s1 σ H1 Q I1 q1
end
end L2
namespace L2
open PySem PySem.Spec PyProof.Rows
def SqL (K:PySem.W.Frag)(H:Hp)(a:Addr)(xs:List V):Prop:=
  Rd H a (.lst xs)∨
    ∃ (o:Obj) (its:Array Value) (n:Nat),K.lookup a=some o∧o.cls=.type "list"∧o.dict=none∧o.data=.seq its n∧its.size≤sizeLine∧Vals xs its.toList
def SqT (K:PySem.W.Frag)(H:Hp)(a:Addr)(xs:List V):Prop:=
  Rd H a (.tup xs)∨
    ∃ (o:Obj) (its:Array Value) (n:Nat),K.lookup a=some o∧o.cls=.type "tuple"∧o.data=.seq its n∧its.size≤sizeLine∧Vals xs its.toList
def absV:Value→Option V
  | .none=>some .non
  | .bool b=>some (.bl b)
  | .int i _=>some (.int i)
  | .str x _=>some (.str x)
  | .bytes b _=>some (.byt b)
  | .float b _=>some (.flt b)
  | .ref a=>some (.ref a)
  | .type n=>some (.ty n)
  | _=>none
theorem RelV.abs {x:V}{u:Value}(r:RelV x u):absV u=some x:=by
  cases x with
  | non=>cases r;rfl
  | bl _=>cases r;rfl
  | int _=>obtain ⟨t,rfl⟩:=r;rfl
  | str _=>obtain ⟨t,rfl⟩:=r;rfl
  | byt _=>obtain ⟨t,rfl⟩:=r;rfl
  | flt _=>obtain ⟨t,rfl⟩:=r;rfl
  | ref _=>cases r;rfl
  | ty _=>cases r;rfl
theorem RelV.inj {x y:V}{u:Value}(r:RelV x u)(q:RelV y u):x=y:=Option.some.inj (r.abs.symm.trans q.abs)
theorem Vals.inj:∀ {xs ys:List V} {us:List Value},Vals xs us→Vals ys us→xs=ys
  | _,_,_,.nil,.nil=>rfl
  | _,_,_,.cons r t,.cons r' t'=>by rw [r.inj r',Vals.inj t t']
section
variable {X:Cx}{pins:List (Addr×Obj)}{σ:St}{H:Hp}{s:Shared}{a:Addr}{xs ys:List V}
theorem SqL.of {K:PySem.W.Frag}(h:H a=some (.lst xs)):SqL K H a xs:=.inl (.inl h)
theorem SqT.of {K:PySem.W.Frag}(h:H a=some (.tup xs)):SqT K H a xs:=.inl (.inl h)
theorem Inv.list (I:Inv X pins σ H s)(h:SqL X.K H a xs):∃ its:List Value,Vals xs its∧PlainL s.heap a its.toArray∧xs.length≤sizeLine:=by
  rcases h with h | ⟨o,its,n,hk,hc,hd,hs,hz,r⟩
  · obtain ⟨z,its,n,r,e⟩:=h.ok I.hok
    exact ⟨its,r,⟨_,n,e,rfl,rfl,rfl⟩,z⟩
  · refine ⟨its.toList,r,⟨o,n,I.kIn a o hk,hc,hd,by simpa using hs⟩,?_⟩
    have e:=r.length
    simp only [Array.length_toList] at e
    omega
theorem Inv.tuple (I:Inv X pins σ H s)(h:SqT X.K H a xs):∃ its:List Value,Vals xs its∧IsTup s.heap a its.toArray∧xs.length≤sizeLine:=by
  rcases h with h | ⟨o,its,n,hk,hc,hs,hz,r⟩
  · obtain ⟨z,its,r,p⟩:=h.ok I.hok
    exact ⟨its,r,p,z⟩
  · refine ⟨its.toList,r,⟨o,I.kIn a o hk,hc,n,by simpa using hs⟩,?_⟩
    have e:=r.length
    simp only [Array.length_toList] at e
    omega
theorem Inv.list_inj (I:Inv X pins σ H s)(h:SqL X.K H a xs)(h':SqL X.K H a ys):xs=ys:=by
  obtain ⟨its,r,⟨o,n,e,_,_,d⟩,_⟩:=I.list h
  obtain ⟨its',r',⟨o',n',e',_,_,d'⟩,_⟩:=I.list h'
  rw [e] at e';cases e'
  rw [d] at d'
  injection d' with d1 _
  have:its=its':=by simpa using congrArg Array.toList d1
  subst this
  exact r.inj r'
theorem Inv.tuple_inj (I:Inv X pins σ H s)(h:SqT X.K H a xs)(h':SqT X.K H a ys):xs=ys:=by
  obtain ⟨its,r,⟨o,e,_,n,d⟩,_⟩:=I.tuple h
  obtain ⟨its',r',⟨o',e',_,n',d'⟩,_⟩:=I.tuple h'
  rw [e] at e';cases e'
  rw [d] at d'
  injection d' with d1 _
  have:its=its':=by simpa using congrArg Array.toList d1
  subst this
  exact r.inj r'
end
abbrev Cx.wish (X:Cx)(E:Value→Shared→Prop):Cx:={ X with xe:=E }
abbrev Cx.nox (X:Cx):Cx:=X.wish fun _ _=>False
theorem Cx.Ok.wish {X:Cx}(ok:X.Ok)(E:Value→Shared→Prop):(X.wish E).Ok:=
  ⟨ok.mod,ok.kind,ok.glob,ok.blt,ok.above,ok.inj,ok.has,ok.cab,ok.hd,ok.frames,ok.stk,ok.exf,ok.bs,ok.bsz,ok.noex,ok.exfs,ok.funs,ok.frf⟩
theorem Cx.Ok.unwish {X:Cx}{E:Value→Shared→Prop}(ok:(X.wish E).Ok):X.Ok:=
  ⟨ok.mod,ok.kind,ok.glob,ok.blt,ok.above,ok.inj,ok.has,ok.cab,ok.hd,ok.frames,ok.stk,ok.exf,ok.bs,ok.bsz,ok.noex,ok.exfs,ok.funs,ok.frf⟩
section
variable {X:Cx}{pins:List (Addr×Obj)}{σ:St}{H:Hp}{s:Shared}{E:Value→Shared→Prop}
theorem Inv.wish (I:Inv X pins σ H s)(E:Value→Shared→Prop):Inv (X.wish E) pins σ H s:=⟨I.ok.wish E,I.os,I.bare,I.base,I.loc,I.cell,I.free,I.freeC,I.pin,I.hok,I.len⟩
theorem Inv.unwish (I:Inv (X.wish E) pins σ H s):Inv X pins σ H s:=⟨I.ok.unwish,I.os,I.bare,I.base,I.loc,I.cell,I.free,I.freeC,I.pin,I.hok,I.len⟩
theorem SP.unwish {D:Ends}{f:Flow}{s':Shared}(h:SP (X.wish E) pins D f s'):SP X pins D f s':=by
  cases f with
  | next=>obtain ⟨σ',H',I,q⟩:=h;exact ⟨σ',H',I.unwish,q⟩
  | brk=>obtain ⟨σ',H',I,q⟩:=h;exact ⟨σ',H',I.unwish,q⟩
  | cont=>obtain ⟨σ',H',I,q⟩:=h;exact ⟨σ',H',I.unwish,q⟩
  | ret u=>obtain ⟨v,σ',H',I,r,q⟩:=h;exact ⟨v,σ',H',I.unwish,r,q⟩
theorem PE.nox {e:Expr}{t:TE}(h:PE X.nox e t):PE X e t:=fun pins s σ H Q I hw=>
  wpAny_mono (h pins s σ H Q (I.wish _) hw) (fun _ _ ⟨v,H',I',r,q⟩=>⟨v,H',I'.unwish,r,q⟩) fun _ _ z=>False.elim z
theorem PT.nox {e:Expr}{t:TT}(h:PT X.nox e t):PT X e t:=fun pins s σ H Q I hw=>
  wpAny_mono (h pins s σ H Q (I.wish _) hw) (fun _ _ ⟨H',I',q⟩=>⟨H',I'.unwish,q⟩) fun _ _ z=>False.elim z
theorem PSs.nox {st:List Stmt}{t:TS}(h:PSs X.nox st t):PSs X st t:=fun pins s σ H D I hw=>
  wpAny_mono (h pins s σ H D (I.wish _) hw) (fun _ _ q=>q.unwish) fun _ _ z=>False.elim z
end
section
variable {X:Cx}{st:Stmt}{rest:List Stmt}{t u:TS}{e:Expr}{te:TE}{pos:Pos}
def tNext:TS:=fun D σ H=>D.nx σ H
def tSeq (t u:TS):TS:=fun D σ H=>t { D with nx:=u D } σ H
theorem pss_nil:PSs X [] tNext:=fun _ _ σ H _ I h=>wpAny_execs_nil ⟨σ,H,I,h⟩
theorem pss_cons (h1:PS X st t)(h2:PSs X rest u):PSs X (st::rest) (tSeq t u):=by
  intro pins s σ H D I h
  refine wpAny_execs_cons (thn (h1 pins s σ H { D with nx:=u D } I h) fun f s1 q=>?_)
  cases f with
  | next=>
    obtain ⟨σ',H',I',q⟩:=q
    exact h2 pins s1 σ' H' D I' q
  | ret v=>exact q
  | brk=>exact q
  | cont=>exact q
theorem pss_one (h1:PS X st t):PSs X [st] t:=by
  intro pins s σ H D I h
  refine wpAny_execs_cons (thn (h1 pins s σ H D I h) fun f s1 q=>?_)
  cases f with
  | next=>exact wpAny_execs_nil q
  | ret v=>exact q
  | brk=>exact q
  | cont=>exact q
def tBreak:TS:=fun D σ H=>D.bk σ H
def tCont:TS:=fun D σ H=>D.ct σ H
theorem Inv.quiet {pins:List (Addr×Obj)}{σ:St}{H:Hp}{s:Shared}(I:Inv X pins σ H s):interactive X.env=false:=by simp [interactive,I.ok.kind]
def tDrop (te:TE):TS:=fun D σ H=>te σ H fun _ H1=>D.nx σ H1
theorem ps_expr (he:PE X e te)(hs:swapsWith e none pos.line X.env=pure false:=by rfl):PS X (.Expr e pos) (tDrop te):=by
  intro pins s σ H D I h
  exact wpAny_Expr_any (thn (he pins s σ H _ I h) fun v s1 ⟨x,H1,I1,r1,q1⟩=>⟨σ,H1,I1,q1⟩) I.quiet hs
def tRet (te:TE):TS:=fun D σ H=>te σ H D.rt
theorem ps_ret (he:PE X e te):PS X (.Return (some e) pos) (tRet te):=by
  intro pins s σ H D I h
  exact wpAny_Return_some (thn (he pins s σ H _ I h) fun v s1 ⟨x,H1,I1,r1,q1⟩=>⟨x,σ,H1,I1,r1,q1⟩)
def tRetN:TS:=fun D _ H=>D.rt .non H
def tIfS (c:TT)(t u:TS):TS:=fun D σ H=>c σ H fun b H1=>if b=true then t D σ H1 else u D σ H1
theorem ps_if {c:Expr}{a b:List Stmt}{tc:TT}(hc:PT X c tc)(ha:PSs X a t)(hb:PSs X b u):PS X (.If c a b pos) (tIfS tc t u):=by
  intro pins s σ H D I h
  refine wpAny_If (thn (hc pins s σ H _ I h) fun d s1 ⟨H1,I1,q1⟩=>?_)
  cases d with
  | true=>exact ha pins s1 σ H1 D I1 q1
  | false=>exact hb pins s1 σ H1 D I1 q1
def tNever:TS:=fun _ _ _=>False
theorem ps_never:PS X st tNever:=fun _ _ _ _ _ _ h=>h.elim
end
abbrev TG:=V→St→Hp→(St→Hp→Prop)→Prop
abbrev TGs:=List V→St→Hp→(St→Hp→Prop)→Prop
def PG (X:Cx)(target:Expr)(t:TG):Prop:=
  ∀ (pins:List (Addr×Obj)) (s:Shared) (σ:St) (H:Hp) (v:V) (u:Value) (Q:St→Hp→Prop),Inv X pins σ H s→RelV v u→t v σ H Q→
    wpAny (model X.prog X.w) X.A (assign target X.env u) (fun _ s'=>∃ σ' H',Inv X pins σ' H' s'∧Q σ' H') X.xe s
def PGs (X:Cx)(ts:List Expr)(t:TGs):Prop:=
  ∀ (pins:List (Addr×Obj)) (s:Shared) (σ:St) (H:Hp) (vs:List V) (us:List Value) (Q:St→Hp→Prop),Inv X pins σ H s→Vals vs us→t vs σ H Q→
    wpAny (model X.prog X.w) X.A (assignInOrder ((assignEach ts X.env).map (·.2)) us) (fun _ s'=>∃ σ' H',Inv X pins σ' H' s'∧Q σ' H') X.xe s
abbrev TSet:=V→V→V→Hp→(Hp→Prop)→Prop
def PSet (X:Cx)(t:TSet):Prop:=
  ∀ (pins:List (Addr×Obj)) (s:Shared) (σ:St) (H:Hp) (o i v:V) (ov iv u:Value) (Q:Hp→Prop),Inv X pins σ H s→RelV o ov→RelV i iv→RelV v u→t o i v H Q→
    wpAny (model X.prog X.w) X.A (setItem ov iv u) (fun _ s'=>∃ H',Inv X pins σ H' s'∧Q H') X.xe s
abbrev TIp:=V→V→Hp→VK→Prop
def PIp (X:Cx)(op:Operator)(t:TIp):Prop:=
  ∀ (pins:List (Addr×Obj)) (s:Shared) (σ:St) (H:Hp) (x y:V) (v u:Value) (Q:VK),Inv X pins σ H s→RelV x v→RelV y u→t x y H Q→
    wpAny (model X.prog X.w) X.A (inplaceOp op v u) (EP X pins σ Q) X.xe s
section
variable {X:Cx}{pos:Pos}
def gName (i:Nat):TG:=fun v σ H Q=>Q (σ.set i (some v)) H
theorem pg_name {i:Nat}{x:Str}(hN:X.N.Nodup)(hi:X.N[i]?=some x)(hx:Loc X.env.scope x)(hf:X.fn x=true∨X.env.scope.names.lookup x=some .local:=by first | exact .inl rfl | exact .inr rfl | assumption):PG X (.Name x pos) (gName i):=by
  intro pins s σ H v u Q I r h
  exact wpAny_assign_Name (store_ok I hN hi hx r (fun s' I'=>⟨_,H,I',h⟩) hf)
def gNil:TGs:=fun vs σ H Q=>vs=[]∧Q σ H
def gCons (t:TG)(u:TGs):TGs:=fun vs σ H Q=>∃ v r,vs=v::r∧t v σ H fun σ' H'=>u r σ' H' Q
theorem pgs_nil:PGs X [] gNil:=by
  intro pins s σ H vs us Q I r h
  obtain ⟨e,h⟩:=h
  subst e
  cases r
  exact assignInOrder_nil ⟨σ,H,I,h⟩
theorem pgs_cons {e:Expr}{es:List Expr}{t:TG}{u:TGs}(h1:PG X e t)(h2:PGs X es u)
    (hs:(assignEach (e::es) X.env).map (·.2)=assign e X.env::(assignEach es X.env).map (·.2):=by rfl):PGs X (e::es) (gCons t u):=by
  intro pins s σ H vs us Q I r h
  obtain ⟨v,vr,e1,h⟩:=h
  subst e1
  cases r with
  | cons r rr=>
    rw [hs]
    refine assignInOrder_cons (thn (h1 pins s σ H _ _ _ I r h) fun _ s1 ⟨σ1,H1,I1,q1⟩=>?_)
    exact h2 pins s1 σ1 H1 _ _ Q I1 rr q1
def gTup (K:PySem.W.Frag)(n:Nat)(t:TGs):TG:=fun v σ H Q=>∃ a xs,v=.ref a∧SqT K H a xs∧xs.length=n∧t xs σ H Q
theorem pg_tup {es:List Expr}{k:Nat}{t:TGs}{n:Nat}(hc:X.calm=true)(h:PGs X es t)
    (hn:(assignEach es X.env).length=n:=by rfl) (hst:(assignEach es X.env).findIdx? (·.1)=none:=by rfl):PG X (.Tuple es k pos) (gTup X.K n t):=by
  intro pins s σ H v u Q I r hw
  obtain ⟨a,xs,e1,hq,hl,hw⟩:=hw
  subst e1
  cases r
  obtain ⟨its,rv,ht,hz⟩:=I.tuple hq
  refine assign_Tuple_tuple (I.ok.hd hc) ht (by simp [hn,← hl,rv.length]) hst fun h' hx=>?_
  have I1:Inv X pins σ H { s with heap:=h' }:=I.kept (t':=s.toks) fun b o e=>hx b o (Nat.ne_of_lt (Heap.lt_size e)) e
  exact h pins _ σ H xs _ Q I1 (by simpa using rv) hw
def gSub (to ti:TE)(t:TSet):TG:=fun v σ H Q=>to σ H fun o H1=>ti σ H1 fun i H2=>t o i v H2 fun H3=>Q σ H3
theorem pg_sub {o i:Expr}{to ti:TE}{t:TSet}(ho:PE X o to)(hi:PE X i ti)(hs:PSet X t)
    (ha:∀ v,assign (.Subscript o i pos) X.env v=(do
      let ov ← holding [v] (eval o X.env)
      let iv ← holding [v,ov] (eval i X.env)
      standAt pos
      holding [v,ov,iv] (setItem ov iv v)
      release [v,ov,iv] []):=by intro _;rfl):PG X (.Subscript o i pos) (gSub to ti t):=by
  intro pins s σ H v u Q I r h
  rw [ha]
  refine wpAny_bind (wpAny_holding (thn (ho pins s σ H _ I h) fun ov s1 ⟨x,H1,I1,r1,q1⟩=>?_))
  refine wpAny_bind (wpAny_holding (thn (hi pins s1 σ H1 _ I1 q1) fun iv s2 ⟨y,H2,I2,r2,q2⟩=>?_))
  refine wpAny_bind (wpAny_standAt (wpAny_bind (wpAny_holding (thn (hs pins s2 σ H2 x y v ov iv u _ I2 r1 r2 r q2) fun _ s3 ⟨H3,I3,q3⟩=>?_))))
  exact wpAny_release ⟨σ,H3,I3,q3⟩
def tAsg (te:TE)(g:TG):TS:=fun D σ H=>te σ H fun x H1=>g x σ H1 D.nx
theorem ps_asg {tg e:Expr}{te:TE}{g:TG}(he:PE X e te)(hg:PG X tg g)(hs:swapsWithSole [tg] e pos.line X.env=pure false:=by rfl)(hw:swappedStores [tg] e X.env=pure none:=by rfl)
    (h1:(assignEach [tg] X.env).map (·.2)=[assign tg X.env]:=by rfl):PS X (.Assign [tg] e pos) (tAsg te g):=by
  intro pins s σ H D I h
  refine wpAny_Assign_stores (thn (he pins s σ H _ I h) fun v s1 ⟨x,H1,I1,r1,q1⟩=>?_) hs hw
  rw [h1]
  exact thn (hg pins s1 σ H1 x v _ I1 r1 q1) fun _ s2 q=>q
theorem ps_set {i:Nat}{x:Str}{e:Expr}{te:TE}{pos':Pos}(hN:X.N.Nodup)(hi:X.N[i]?=some x)(hx:Loc X.env.scope x)(he:PE X e te)(hs:swapsWith e (some (.Name x pos')) pos.line X.env=pure false:=by rfl)(hf:X.fn x=true∨X.env.scope.names.lookup x=some .local:=by first | exact .inl rfl | exact .inr rfl | assumption):
    PS X (.Assign [.Name x pos'] e pos) (tAsg te (gName i)):=by
  intro pins s σ H D I h
  refine wpAny_Assign_Name (thn (he pins s σ H _ I h) fun v s1 ⟨y,H1,I1,r1,q1⟩=>?_) hs
  exact store_ok I1 hN hi hx r1 (fun s2 I2=>⟨_,H1,I2,q1⟩) hf
def tPar (i j:Nat)(ta:TA):TS:=fun D σ H=>ta σ H fun vs H1=>∃ v w,vs=[v,w]∧D.nx ((σ.set i (some v)).set j (some w)) H1
theorem ps_par {i j:Nat}{x y:Str}{a b:Expr}{ta:TA}{px py pt:Pos}{kt k2 pt2}(hc:X.calm=true)(hN:X.N.Nodup)(hi:X.N[i]?=some x)(hj:X.N[j]?=some y)(hij:i≠j)
    (hx:X.env.scope.names.lookup x=some .local) (hy:X.env.scope.names.lookup y=some .local) (ha:PA X [a,b] ta)
    (hw:swappedStores [.Tuple [.Name x px,.Name y py] kt pt] (.Tuple [a,b] k2 pt2) X.env=pure (some [x,y]))
    (hs:swapsWithSole [.Tuple [.Name x px,.Name y py] kt pt] (.Tuple [a,b] k2 pt2) pos.line X.env=pure false:=by rfl):
    PS X (.Assign [.Tuple [.Name x px,.Name y py] kt pt] (.Tuple [a,b] k2 pt2) pos) (tPar i j ta):=by
  intro pins s σ H D I h
  rw [exec_Assign_arm]
  refine wpAny_bind (wpAny_standAt ?_)
  rw [hs]
  refine wpAny_bind (wpAny_pure ?_)
  rw [if_neg (by decide)]
  refine wpAny_bind (Tuple_ (thn (ha _ pins s σ H _ I h) fun us s1 ⟨vs,H1,I1,r1,q1⟩=>?_))
  obtain ⟨v,w,e1,q1⟩:=q1
  subst e1
  obtain ⟨u1,u2,rfl,rv,rw'⟩:∃ u1 u2,us=[u1,u2]∧RelV v u1∧RelV w u2:=by
    cases r1 with
    | cons p q=>
      cases q with
      | cons p' q'=>
        cases q'
        exact ⟨_,_,rfl,p,p'⟩
  refine wpAny_newObj_type ?_ (by show 2≤sizeLine;decide)
  have I2:Inv X pins σ H1 { s1 with heap:=s1.heap.push { cls:=.type "tuple",data:=.seq [u1,u2].toArray } }:=I1.kept (t':=s1.toks) fun b o e=>Heap.get?_push_of_some _ e
  rw [hw]
  refine wpAny_bind (wpAny_pure ?_)
  show wpAny (model X.prog X.w) X.A (do rule "assign.swapped-stores";let items ← unpackItems (.ref s1.heap.objs.size) 2 none;assignInOrder [fun v=>bindName X.env y v,fun v=>bindName X.env x v] items.reverse;pure Flow.next) _ _ _
  refine wpAny_bind (wpAny_rule (wpAny_bind (unpackItems_tuple (items:=#[u1,u2]) (I.ok.hd hc) (IsTup.new s1.heap _) fun h' hx'=>?_)))
  have I3:=I2.kept (h':=h') (t':=s1.toks) fun b o e=>hx' b o (Nat.ne_of_lt (Heap.lt_size e)) e
  show wpAny _ _ (assignInOrder [fun v=>bindName X.env y v,fun v=>bindName X.env x v] [u2,u1] >>= fun _=>pure Flow.next) _ _ _
  refine wpAny_bind (assignInOrder_cons (wpAny_bindName (store_ok I3 hN hj (.inl hy) rw' (fun s2 I4=>?_) (.inr hy))))
  refine assignInOrder_cons (wpAny_bindName (store_ok I4 hN hi (.inl hx) rv (fun s3 I5=>assignInOrder_nil (wpAny_pure ?_)) (.inr hx)))
  rw [List.set_comm _ _ (Ne.symm hij)] at I5
  exact ⟨_,H1,I5,q1⟩
def tAug (i:Nat)(te:TE)(ti:TIp):TS:=fun D σ H=>∃ x,σ[i]?=some (some x)∧te σ H fun y H1=>ti x y H1 fun z H2=>D.nx (σ.set i (some z)) H2
def tAugS (to ti te:TE)(tget:V→V→Hp→VK→Prop)(tip:TIp)(tset:TSet):TS:=fun D σ H=>to σ H fun o H1=>ti σ H1 fun i H2=>tget o i H2 fun x H3=>te σ H3 fun y H4=>tip x y H4 fun z H5=>tset o i z H5 fun H6=>D.nx σ H6
def PGet (X:Cx)(t:V→V→Hp→VK→Prop):Prop:=
  ∀ (pins:List (Addr×Obj)) (s:Shared) (σ:St) (H:Hp) (o i:V) (ov iv:Value) (Q:VK),Inv X pins σ H s→RelV o ov→RelV i iv→t o i H Q→
    wpAny (model X.prog X.w) X.A (getItem ov iv) (EP X pins σ Q) X.xe s
def ipI (f:Int→Int→Int):TIp:=fun x y H Q=>∃ i j,x=.int i∧y=.int j∧Q (.int (f i j)) H
end
section
variable {X:Cx}{pos:Pos}
def tWhile (c:TT)(tb:TS):TS:=fun D σ H=>∃ W:Nat→St→Hp→Prop,(∃ m,W m σ H)∧∀ m σ H,W m σ H→
  c σ H fun b H1=>if b=true then ∃ N:St→Hp→Prop,(∀ σ' H',N σ' H'→∃ m',m'<m∧W m' σ' H')∧tb { D with nx:=N,ct:=N,bk:=D.nx } σ H1 else D.nx σ H1
theorem ps_while {c:Expr}{body:List Stmt}{tc:TT}{tb:TS}(hp:PassesOwn (model X.prog X.w) X.A X.env X.xe)(hc:PT X c tc)(hb:PSs X body tb):PS X (.While c body [] pos) (tWhile tc tb):=by
  intro pins s σ H D I h
  obtain ⟨W,⟨m0,w0⟩,turn⟩:=h
  refine wpAny_While (codeAny_whileLoop (fun n s'=>∃ σ' H',Inv X pins σ' H' s'∧W n σ' H') ?_ m0 ⟨σ,H,I,w0⟩)
  rintro n s1 ⟨σ1,H1,I1,w1⟩
  refine wpAny_passesOwn hp (thn (hc pins s1 σ1 H1 _ I1 (turn n σ1 H1 w1)) fun b s2 ⟨H2,I2,q2⟩=>?_)
  cases b with
  | true=>
    obtain ⟨N,hN,q2⟩:=q2
    rw [if_pos rfl]
    refine wpAny_passesOwn hp (thn (hb pins s2 σ1 H2 _ I2 q2) fun f s3 q3=>?_)
    cases f with
    | next=>
      obtain ⟨σ3,H3,I3,n3⟩:=q3
      obtain ⟨m',hm,w3⟩:=hN σ3 H3 n3
      exact ⟨m',hm,σ3,H3,I3,w3⟩
    | cont=>
      obtain ⟨σ3,H3,I3,n3⟩:=q3
      obtain ⟨m',hm,w3⟩:=hN σ3 H3 n3
      exact ⟨m',hm,σ3,H3,I3,w3⟩
    | brk=>exact q3
    | ret v=>exact q3
  | false=>
    rw [if_neg Bool.false_ne_true]
    exact wpAny_execs_nil ⟨σ1,H2,I2,q2⟩
end
structure It where
  go:Nat→Hp→Prop
  yld:Nat→Hp→V→Hp→Prop
  stop:Nat→Hp→Prop
def FpOk (X:Cx)(pins:List (Addr×Obj))(H:Hp)(b:Addr):Prop:=
  H b=none∧b≠X.env.locals∧b∉X.fs∧(b∈X.ex∨X.s₀.heap.objs.size≤b)∧(∀ x c,X.env.cells.lookup x=some c→c≠b)∧∀ p∈X.pn++pins,p.1≠b
theorem Inv.fpOk {X:Cx}{pins:List (Addr×Obj)}{σ:St}{H H':Hp}{s:Shared}{b:Addr}(I:Inv X pins σ H s)(hb:s.heap.objs.size≤b)(hn:H' b=none):FpOk X pins H' b:=by
  refine ⟨hn,Nat.ne_of_gt (Nat.lt_of_lt_of_le I.lt hb),I.nofs hb,.inr (Nat.le_trans I.sz hb),fun x c e z=>?_,fun p hp z=>?_⟩
  · obtain ⟨v,q⟩:=I.cell x c e
    exact absurd (Nat.lt_of_lt_of_le q.lt (by rw [z];exact hb)) (Nat.lt_irrefl _)
  · exact absurd (Nat.lt_of_lt_of_le (Heap.lt_size (I.pin p hp).1) (by rw [z];exact hb)) (Nat.lt_irrefl _)
structure Turn (P:Program)(w:World)(K:PySem.W.Frag)(tg:Expr)(J:It)(fp:List Addr)(it:Addr)(tn:Nat→Heap→Prop):Prop where
  mem:it∈fp
  obj:∀ i h,tn i h→∀ b∈fp,∃ o,h.get? b=some o∧∀ v,o.data≠.cell v
  keep:∀ i h h',tn i h→(∀ b∈fp,∀ o,h.get? b=some o→h'.get? b=some o)→tn i h'
  item:∀ (X:Cx),X.prog=P→X.w=w→X.K=K→X.calm=true→∀ (i:Nat) (pins:List (Addr×Obj)) (s:Shared) (σ:St) (H:Hp) (E:Value→Shared→Prop),Inv X pins σ H s→(∀ b∈fp,FpOk X pins H b)→tn i s.heap→J.go i H→
    wpAny (model P w) X.A (pyNext (.ref it)) (fun r s1=>∃ u,r=some u∧
      wpAny (model P w) X.A (letOwnedTupleGo tg (.ref it) u) (fun _ s2=>∃ x H',Inv X pins σ H' s2∧RelV x u∧J.yld i H x H'∧tn (i+1) s2.heap∧∀ b∈fp,H' b=none) E s1) E s
  done:∀ (X:Cx),X.prog=P→X.w=w→X.K=K→X.calm=true→∀ (i:Nat) (pins:List (Addr×Obj)) (s:Shared) (σ:St) (H:Hp) (E:Value→Shared→Prop),Inv X pins σ H s→(∀ b∈fp,FpOk X pins H b)→tn i s.heap→J.stop i H→
    wpAny (model P w) X.A (pyNext (.ref it)) (fun r s1=>r=none∧Inv X pins σ H s1) E s
  self:∀ (A:Around) (i:Nat) (s:Shared) (Q:Value→Shared→Prop) (E:Value→Shared→Prop),tn i s.heap→Q (.ref it) s→wpAny (model P w) A (pyIter (.ref it)) Q E s
abbrev TI:=St→Hp→(It→Hp→Prop)→Prop
def PIE (X:Cx)(pins:List (Addr×Obj))(σ:St)(tg:Expr)(R:It→Hp→Prop)(itv:Value)(s2:Shared):Prop:=
  ∃ (it:Addr) (fp:List Addr) (tn:Nat→Heap→Prop) (J:It) (H':Hp),itv=.ref it∧Inv X pins σ H' s2∧Turn X.prog X.w X.K tg J fp it tn∧tn 0 s2.heap∧(∀ b∈fp,FpOk X pins H' b)∧R J H'
def PI (X:Cx)(tg iter:Expr)(wi:TI):Prop:=
  ∀ (pins:List (Addr×Obj)) (s:Shared) (σ:St) (H:Hp) (R:It→Hp→Prop),Inv X pins σ H s→wi σ H R→
    wpAny (model X.prog X.w) X.A (eval iter X.env) (fun v s1=>wpAny (model X.prog X.w) X.A (pyIter v) (PIE X pins σ tg R) X.xe s1) X.xe s
theorem go_of {M:Model}{A:Around}{E:Value→Shared→Prop}{s:Shared}{tg:Expr}{it:Addr}{u:Value}{o:Obj}{n:String}{vs:Array Value}{Q:Unit→Shared→Prop}(ho:s.heap.get? it=some o)(hc:o.cls=.type n)(hd:o.data=.fields vs)
    (hn:["enumerate","zip","dict_itemiterator","dict_reverseitemiterator","odict_iterator","itertools.zip_longest","itertools.pairwise"].contains n=false) (hQ:Q () s):wpAny M A (letOwnedTupleGo tg (.ref it) u) Q E s:=by
  unfold letOwnedTupleGo
  cases tg <;> first
    | exact wpAny_pure hQ
    | (cases u <;> first
        | exact wpAny_pure hQ
        | (refine wpAny_bind (wpAny_load ho ?_)
           rw [hc,hd]
           show wpAny M A (if (["enumerate","zip","dict_itemiterator","dict_reverseitemiterator","odict_iterator","itertools.zip_longest","itertools.pairwise"].contains n&&vs[0]?==some (rawInt _))=true then _ else _) Q E s
           rw [if_neg (by intro h;rw [hn,Bool.false_and] at h;cases h)]
           exact wpAny_pure hQ))
def Itl (K:PySem.W.Frag)(a:Addr):It:=
  ⟨fun i H=>∃ xs x,SqL K H a xs∧xs[i]?=some x,fun i H x H'=>H'=H∧∀ xs,SqL K H a xs→xs[i]?=some x,fun i H=>∃ xs,SqL K H a xs∧xs.length≤i⟩
def Itt (K:PySem.W.Frag)(a:Addr):It:=
  ⟨fun i H=>∃ xs x,SqT K H a xs∧xs[i]?=some x,fun i H x H'=>H'=H∧∀ xs,SqT K H a xs→xs[i]?=some x,fun i H=>∃ xs,SqT K H a xs∧xs.length≤i⟩
def Itr (lo:Int)(n:Nat):It:=⟨fun i _=>i<n,fun i H x H'=>H'=H∧x=.int (lo+i),fun i _=>n≤i⟩
theorem turn_list {P:Program}{w:World}{K:PySem.W.Frag}{tg:Expr}(a it:Addr):Turn P w K tg (Itl K a) [it] it (fun i h=>h.IsListIter it a i) where
  mem:=by simp
  obj:=fun i h st b hb=>by
    have e:b=it:=by simpa using hb
    subst e
    obtain ⟨o,e,c,d⟩:=st
    exact ⟨o,e,fun v z=>by rw [d] at z;cases z⟩
  keep:=fun i h h' st k=>st.at fun o e=>k it (by simp) o e
  item:=by
    intro X hP hw hK hc i pins s σ H E I hf st hg
    subst hP hw hK
    obtain ⟨xs,x,hq,hx⟩:=hg
    obtain ⟨its,rv,p,hz⟩:=I.list hq
    obtain ⟨u,hu,ru⟩:=rv.get hx
    obtain ⟨f0,f1,f2,f3,f4,f5⟩:=hf it (by simp)
    refine wpAny_pyNext_list_item st p.isList (x:=u) (by simpa using hu) fun h' st' sb=>?_
    have I1:Inv X pins σ H { s with heap:=h' }:=I.turned (t':=s.toks) (fun b o hb e=>(sb.2 b hb).trans e) f0 f1 f3 f4 f5
    obtain ⟨o,e,c,d⟩:=id st'
    exact ⟨u,rfl,go_of (s:={ s with heap:=h' }) e c d (by decide) ⟨x,H,I1,ru,⟨rfl,fun ys hy=>by rw [I.list_inj hy hq];exact hx⟩,st',fun b hb=>(hf b hb).1⟩⟩
  done:=by
    intro X hP hw hK hc i pins s σ H E I hf st hg
    subst hP hw hK
    obtain ⟨xs,hq,hx⟩:=hg
    obtain ⟨its,rv,p,hz⟩:=I.list hq
    obtain ⟨f0,f1,f2,f3,f4,f5⟩:=hf it (by simp)
    have hl:=rv.length
    exact wpAny_pyNext_list_end (I.ok.hd hc) st p.isList (by simp;omega) fun h' eb=>⟨rfl,I.turned (t':=s.toks) (fun b o hb e=>eb b o hb e) f0 f1 f3 f4 f5⟩
  self:=fun _ _ _ _ _ st h=>wpAny_pyIter_listiter st h
theorem turn_tuple {P:Program}{w:World}{K:PySem.W.Frag}{tg:Expr}(a it:Addr):Turn P w K tg (Itt K a) [it] it (fun i h=>h.IsTupleIter it a i) where
  mem:=by simp
  obj:=fun i h st b hb=>by
    have e:b=it:=by simpa using hb
    subst e
    obtain ⟨o,e,c,d⟩:=st
    exact ⟨o,e,fun v z=>by rw [d] at z;cases z⟩
  keep:=fun i h h' st k=>st.at fun o e=>k it (by simp) o e
  item:=by
    intro X hP hw hK hc i pins s σ H E I hf st hg
    subst hP hw hK
    obtain ⟨xs,x,hq,hx⟩:=hg
    obtain ⟨its,rv,p,hz⟩:=I.tuple hq
    obtain ⟨u,hu,ru⟩:=rv.get hx
    obtain ⟨f0,f1,f2,f3,f4,f5⟩:=hf it (by simp)
    refine wpAny_pyNext_tuple_item st (show s.heap.IsTuple a its.toArray from p) (x:=u) (by simpa using hu) fun h' st' sb=>?_
    have I1:Inv X pins σ H { s with heap:=h' }:=I.turned (t':=s.toks) (fun b o hb e=>(sb.2 b hb).trans e) f0 f1 f3 f4 f5
    obtain ⟨o,e,c,d⟩:=id st'
    exact ⟨u,rfl,go_of (s:={ s with heap:=h' }) e c d (by decide) ⟨x,H,I1,ru,⟨rfl,fun ys hy=>by rw [I.tuple_inj hy hq];exact hx⟩,st',fun b hb=>(hf b hb).1⟩⟩
  done:=by
    intro X hP hw hK hc i pins s σ H E I hf st hg
    subst hP hw hK
    obtain ⟨xs,hq,hx⟩:=hg
    obtain ⟨its,rv,p,hz⟩:=I.tuple hq
    obtain ⟨f0,f1,f2,f3,f4,f5⟩:=hf it (by simp)
    have hl:=rv.length
    exact wpAny_pyNext_tuple_end (I.ok.hd hc) st (show s.heap.IsTuple a its.toArray from p) (by simp;omega) fun h' eb=>⟨rfl,I.turned (t':=s.toks) (fun b o hb e=>eb b o hb e) f0 f1 f3 f4 f5⟩
  self:=fun _ _ _ _ _ st h=>wpAny_pyIter_tupleiter st h
theorem turn_range {P:Program}{w:World}{K:PySem.W.Frag}{tg:Expr}(it:Addr)(lo:Int)(n:Nat):Turn P w K tg (Itr lo n) [it] it (fun i h=>IsRangeIter h it (lo+(i:Nat)*1) ((n:Int)-(i:Nat)) 1) where
  mem:=by simp
  obj:=fun i h st b hb=>by
    have e:b=it:=by simpa using hb
    subst e
    exact ⟨_,st,fun v z=>by
      have z':Data.fields _=Data.cell v:=z
      cases z'⟩
  keep:=fun i h h' st k=>k it (by simp) _ st
  item:=by
    intro X hP hw hK hc i pins s σ H E I hf st hg
    subst hP hw hK
    obtain ⟨f0,f1,f2,f3,f4,f5⟩:=hf it (by simp)
    have W:=Walks.range (prog:=X.prog) (w:=X.w) (I.ok.hd hc) it lo 1 n
    refine W.item i s _ _ hg st fun v h' tk hv st' kk=>?_
    obtain ⟨t,rfl⟩:=hv
    have I1:Inv X pins σ H { s with heap:=h',toks:=tk }:=I.turned (fun b o hb e=>kk b o (by simpa using hb) e) f0 f1 f3 f4 f5
    refine ⟨_,rfl,go_of (s:={ s with heap:=h',toks:=tk }) (n:="range_iterator") st' rfl rfl (by decide) ⟨.int (lo+i),H,I1,⟨t,?_⟩,⟨rfl,rfl⟩,st',fun b hb=>(hf b hb).1⟩⟩
    rw [Int.mul_one]
  done:=by
    intro X hP hw hK hc i pins s σ H E I hf st hg
    subst hP hw hK
    obtain ⟨f0,f1,f2,f3,f4,f5⟩:=hf it (by simp)
    exact wpAny_pyNext_range_end (I.ok.hd hc) st (by have:n≤i:=hg;omega) fun h' eb=>⟨rfl,I.turned (t':=s.toks) (fun b o hb e=>eb b o hb e) f0 f1 f3 f4 f5⟩
  self:=fun _ _ _ _ _ st h=>wpAny_pyIter_rangeiter st h
end L2
namespace L2
open PySem PySem.Spec PyProof.Rows
section
variable {X:Cx}{tg:Expr}
def iList (K:PySem.W.Frag)(tl:TE):TI:=fun σ H R=>tl σ H fun x H1=>∃ a,x=.ref a∧(∃ xs,SqL K H1 a xs)∧R (Itl K a) H1
def iTup (K:PySem.W.Frag)(tl:TE):TI:=fun σ H R=>tl σ H fun x H1=>∃ a,x=.ref a∧(∃ xs,SqT K H1 a xs)∧R (Itt K a) H1
theorem pi_list {l:Expr}{tl:TE}(hl:PE X l tl):PI X tg l (iList X.K tl):=by
  intro pins s σ H R I h
  refine thn (hl pins s σ H _ I h) fun v s1 ⟨x,H1,I1,r1,q1⟩=>?_
  obtain ⟨a,e,⟨xs,hq⟩,q⟩:=q1
  subst e
  cases r1
  obtain ⟨its,rv,p,hz⟩:=I1.list hq
  refine wpAny_pyIter_list p.isList ?_
  refine ⟨s1.heap.objs.size,[s1.heap.objs.size],_,_,H1,rfl,I1.kept (t':=s1.toks) fun b o e=>Heap.get?_push_of_some _ e,turn_list a _,⟨_,Heap.get?_push_size _ rfl,rfl,rfl⟩,fun b hb=>?_,q⟩
  have e:b=s1.heap.objs.size:=by simpa using hb
  subst e
  exact I1.fpOk (Nat.le_refl _) (I1.hok.fresh (Nat.le_refl _))
theorem pi_tup {l:Expr}{tl:TE}(hl:PE X l tl):PI X tg l (iTup X.K tl):=by
  intro pins s σ H R I h
  refine thn (hl pins s σ H _ I h) fun v s1 ⟨x,H1,I1,r1,q1⟩=>?_
  obtain ⟨a,e,⟨xs,hq⟩,q⟩:=q1
  subst e
  cases r1
  obtain ⟨its,rv,p,hz⟩:=I1.tuple hq
  refine wpAny_pyIter_tuple (show s1.heap.IsTuple a its.toArray from p) ?_
  refine ⟨s1.heap.objs.size,[s1.heap.objs.size],_,_,H1,rfl,I1.kept (t':=s1.toks) fun b o e=>Heap.get?_push_of_some _ e,turn_tuple a _,⟨_,Heap.get?_push_size _ rfl,rfl,rfl⟩,fun b hb=>?_,q⟩
  have e:b=s1.heap.objs.size:=by simpa using hb
  subst e
  exact I1.fpOk (Nat.le_refl _) (I1.hok.fresh (Nat.le_refl _))
theorem range_it {pins:List (Addr×Obj)}{σ:St}{H:Hp}{s:Shared}{R:It→Hp→Prop}{E:Value→Shared→Prop}{lo hi:Int}{t u v:Tok}{tk:Nat}(I:Inv X pins σ H s)(h1:-(2 ^ 62)≤lo)(h2:lo<2 ^ 62)(h3:-(2 ^ 62)≤hi)(h4:hi<2 ^ 62)
    (q:R (Itr lo (hi-lo).toNat) H):wpAny (model X.prog X.w) X.A (pyIter (.ref s.heap.objs.size)) (PIE X pins σ tg R) E { s with heap:=s.heap.push { cls:=.type "range",data:=.fields #[.int lo t,.int hi u,.int 1 v] },toks:=tk }:=by
  refine wpAny_pyIter_range (IsRange.new ..) (small_one h1 h2 h3 h4) ?_
  have I1:Inv X pins σ H { s with heap:=s.heap.push { cls:=.type "range",data:=.fields #[.int lo t,.int hi u,.int 1 v] },toks:=tk }:=I.kept fun b o e=>Heap.get?_push_of_some _ e
  refine ⟨(s.heap.push { cls:=.type "range",data:=.fields #[.int lo t,.int hi u,.int 1 v] }).objs.size,[(s.heap.push { cls:=.type "range",data:=.fields #[.int lo t,.int hi u,.int 1 v] }).objs.size],_,_,H,rfl,
    I1.kept (t':=tk) fun b o e=>Heap.get?_push_of_some _ e,turn_range _ lo (hi-lo).toNat,?_,fun b hb=>?_,q⟩
  · have e1:lo+((0:Nat):Int)*1=lo:=by simp
    have e2:(((hi-lo).toNat:Nat):Int)-((0:Nat):Int)=Builtin.Range.rangeSize lo hi 1:=by rw [rangeSize_one];split <;> omega
    show IsRangeIter _ _ (lo+((0:Nat):Int)*1) ((((hi-lo).toNat:Nat):Int)-((0:Nat):Int)) 1
    rw [e1,e2]
    exact Heap.get?_push_size _ rfl
  · have e:b=(s.heap.push { cls:=.type "range",data:=.fields #[.int lo t,.int hi u,.int 1 v] }).objs.size:=by simpa using hb
    subst e
    exact I1.fpOk (Nat.le_refl _) (I1.hok.fresh (Nat.le_refl _))
def iRng1 (ta:TA):TI:=fun σ H R=>ta σ H fun vs H1=>∃ j:Int,vs=[.int j]∧-(2 ^ 62)≤j∧j<2 ^ 62∧R (Itr 0 j.toNat) H1
def iRng2 (ta:TA):TI:=fun σ H R=>ta σ H fun vs H1=>∃ i j:Int,vs=[.int i,.int j]∧(-(2 ^ 62)≤i∧i<2 ^ 62∧-(2 ^ 62)≤j∧j<2 ^ 62)∧R (Itr i (j-i).toNat) H1
theorem pi_range1 {a:Expr}{ta:TA}{p pos:Pos}(hg:Gl X "range")(hm:X.mg "range"=none)(ha:PA X [a] ta)(hs:starEach [a] X.env=[(false,eval a X.env)]:=by rfl):PI X tg (.Call (.Name "range" p) [a] [] pos) (iRng1 ta):=by
  intro pins s σ H R I h
  refine Call_ (ld_blt I hg hm boot_range (PyProof.Rows.callWith_type1 (thn (ha pos pins s σ H _ I h) fun us s1 ⟨vs,H1,I1,r1,q1⟩=>?_) hs rfl))
  obtain ⟨j,e,q1,q2,q⟩:=q1
  subst e
  cases r1 with
  | cons r rr=>
    cases rr
    obtain ⟨t,rfl⟩:=r
    exact call_range_1 (range_it I1 (by omega) (by omega) q1 q2 (by simpa using q))
theorem pi_range2 {a b:Expr}{ta:TA}{p pos:Pos}(hg:Gl X "range")(hm:X.mg "range"=none)(ha:PA X [a,b] ta)(hs:starEach [a,b] X.env=[(false,eval a X.env),(false,eval b X.env)]:=by rfl)(hs2:starEach [b] X.env=[(false,eval b X.env)]:=by rfl):
    PI X tg (.Call (.Name "range" p) [a,b] [] pos) (iRng2 ta):=by
  intro pins s σ H R I h
  refine Call_ (ld_blt I hg hm boot_range (PyProof.Rows.callWith_type1 (thn (ha pos pins s σ H _ I h) fun us s1 ⟨vs,H1,I1,r1,q1⟩=>?_) (by rw [hs,hs2]) (by rw [hs2];rfl)))
  obtain ⟨i,j,e,⟨q1,q2,q3,q4⟩,q⟩:=q1
  subst e
  cases r1 with
  | cons r rr=>
    cases rr with
    | cons r' rr=>
      cases rr
      obtain ⟨t,rfl⟩:=r
      obtain ⟨t',rfl⟩:=r'
      exact call_range_2 (range_it I1 q1 q2 q3 q4 q)
def tFor (wi:TI)(g:TG)(tb:TS):TS:=fun D σ H=>wi σ H fun J H1=>∃ W:Nat→Nat→St→Hp→Prop,(∃ m,W 0 m σ H1)∧∀ i m σ H,W i m σ H→
  (J.stop i H∧D.nx σ H)∨(J.go i H∧∃ N:St→Hp→Prop,(∀ σ' H',N σ' H'→∃ m',m'<m∧W (i+1) m' σ' H')∧∀ x H',J.yld i H x H'→g x σ H' fun σ2 H2=>tb { D with nx:=N,ct:=N,bk:=D.nx } σ2 H2)
def pinsAt (fp:List Addr)(h:Heap):List (Addr×Obj):=fp.filterMap fun b=>(h.get? b).map fun o=>(b,o)
theorem mem_pinsAt {fp:List Addr}{h:Heap}{b:Addr}{o:Obj}(hb:b∈fp)(e:h.get? b=some o):(b,o)∈pinsAt fp h:=List.mem_filterMap.mpr ⟨b,hb,by rw [e];rfl⟩
theorem of_pinsAt {fp:List Addr}{h:Heap}{p:Addr×Obj}(hp:p∈pinsAt fp h):p.1∈fp∧h.get? p.1=some p.2:=by
  obtain ⟨b,hb,e⟩:=List.mem_filterMap.mp hp
  cases q:h.get? b with
  | none=>rw [q] at e;cases e
  | some o=>
    rw [q] at e
    have e':(b,o)=p:=Option.some.inj e
    subst e'
    exact ⟨hb,q⟩
theorem Inv.pinned {pins:List (Addr×Obj)}{σ:St}{H:Hp}{s:Shared}{fp:List Addr}(I:Inv X pins σ H s)(hf:∀ b∈fp,FpOk X pins H b)(ho:∀ b∈fp,∃ o,s.heap.get? b=some o∧∀ v,o.data≠.cell v):Inv X (pins++pinsAt fp s.heap) σ H s:=
  I.pins_of fun p hp=>(List.mem_append.mp hp).elim (fun z=>I.pin p (List.mem_append_right _ z)) fun z=>by
    obtain ⟨hb,e⟩:=of_pinsAt z
    obtain ⟨f0,f1,f2,_⟩:=hf p.1 hb
    obtain ⟨o,e',d⟩:=ho p.1 hb
    rw [e] at e';cases e'
    exact ⟨e,f0,f1,f2,d⟩
theorem Inv.unpinned {pins pl:List (Addr×Obj)}{σ:St}{H:Hp}{s:Shared}(I:Inv X (pins++pl) σ H s):Inv X pins σ H s:=I.pins_of fun p hp=>I.pin p (List.mem_append_right _ (List.mem_append_left _ hp))
theorem ps_for {iter:Expr}{body:List Stmt}{wi:TI}{g:TG}{tb:TS}{pos:Pos}(hp:PassesOwn (model X.prog X.w) X.A X.env X.xe)(hc:X.calm=true)(hi:PI X tg iter wi)(hg:PG X tg g)(hb:PSs X body tb)
    (hs:∀ x,foldedSetIterable iter X.env x=pure x:=by intro _;rfl):PS X (.For tg iter body [] pos) (tFor wi g tb):=by
  intro pins s σ H D I h
  refine wpAny_For (thn (hi pins s σ H _ I h) fun v s1 h1=>thn h1 fun itv s2 h2=>?_) hs
  obtain ⟨it,fp,tn,J,H2,e,I2,T,st2,f2,W,⟨m0,w0⟩,turn⟩:=h2
  subst e
  have stat:∀ {H':Hp},(∀ b∈fp,H' b=none)→∀ b∈fp,FpOk X pins H' b:=fun hn b hb=>⟨hn b hb,(f2 b hb).2⟩
  refine codeAny_forLoop_any (fun n s'=>∃ i σ' H',Inv X pins σ' H' s'∧tn i s'.heap∧(∀ b∈fp,H' b=none)∧W i n σ' H') ?_ m0 ⟨0,σ,H2,I2,st2,fun b hb=>(f2 b hb).1,w0⟩
  rintro n s3 ⟨i,σ3,H3,I3,st3,fr3,w3⟩
  rcases turn i n σ3 H3 w3 with ⟨stop,qn⟩ | ⟨go,N,hN,step⟩
  · refine wpAny_passesOwn hp (thn (T.done X rfl rfl rfl hc i pins s3 σ3 H3 X.xe I3 (stat fr3) st3 stop) fun r s4 ⟨hr,I4⟩=>?_)
    subst hr
    exact wpAny_execs_nil ⟨σ3,H3,I4,qn⟩
  · refine wpAny_passesOwn hp (thn (T.item X rfl rfl rfl hc i pins s3 σ3 H3 X.xe I3 (stat fr3) st3 go) fun r s4 ⟨u,hr,h4⟩=>?_)
    subst hr
    refine wpAny_passesOwn hp (thn h4 fun _ s5 ⟨x,H5,I5,r5,y5,st5,fr5⟩=>?_)
    have I5':=I5.pinned (stat fr5) (T.obj _ _ st5)
    refine wpAny_passesOwn hp (thn (hg _ s5 σ3 H5 x u _ I5' r5 (step x H5 y5)) fun _ s6 ⟨σ6,H6,I6,q6⟩=>?_)
    refine wpAny_passesOwn hp (thn (hb _ s6 σ6 H6 _ I6 q6) fun f s7 q7=>?_)
    have again:∀ {σ7:St} {H7:Hp},Inv X (pins++pinsAt fp s5.heap) σ7 H7 s7→N σ7 H7→∃ m,m<n∧∃ i σ' H',Inv X pins σ' H' s7∧tn i s7.heap∧(∀ b∈fp,H' b=none)∧W i m σ' H':=fun {σ7 H7} I7 n7=>by
      obtain ⟨m',hm,w7⟩:=hN σ7 H7 n7
      refine ⟨m',hm,i+1,σ7,H7,I7.unpinned,T.keep _ _ _ st5 fun b hb o e=>(I7.pin (b,o) (List.mem_append_right _ (List.mem_append_right _ (mem_pinsAt hb e)))).1,fun b hb=>?_,w7⟩
      obtain ⟨o,e,d⟩:=T.obj _ _ st5 b hb
      exact (I7.pin (b,o) (List.mem_append_right _ (List.mem_append_right _ (mem_pinsAt hb e)))).2.1
    cases f with
    | next=>obtain ⟨σ7,H7,I7,n7⟩:=q7;exact again I7 n7
    | cont=>obtain ⟨σ7,H7,I7,n7⟩:=q7;exact again I7 n7
    | brk=>obtain ⟨σ7,H7,I7,q7⟩:=q7;exact ⟨σ7,H7,I7.unpinned,q7⟩
    | ret v=>obtain ⟨x7,σ7,H7,I7,r7,q7⟩:=q7;exact ⟨x7,σ7,H7,I7.unpinned,r7,q7⟩
end
theorem for_list {K:PySem.W.Frag}{a:Addr}{xs:List V}{g:TG}{tb:TS}{D:Ends}{σ:St}{H:Hp}(Pv:Nat→St→Hp→Prop)(h0:Pv 0 σ H)(hl:∀ i σ H,i≤xs.length→Pv i σ H→SqL K H a xs)
    (hs:∀ i x σ H,xs[i]?=some x→Pv i σ H→g x σ H fun σ2 H2=>tb { D with nx:=Pv (i+1),ct:=Pv (i+1),bk:=D.nx } σ2 H2) (hd:∀ σ H,Pv xs.length σ H→D.nx σ H):
    ∃ W:Nat→Nat→St→Hp→Prop,(∃ m,W 0 m σ H)∧∀ i m σ H,W i m σ H→
      ((Itl K a).stop i H∧D.nx σ H)∨((Itl K a).go i H∧∃ N:St→Hp→Prop,(∀ σ' H',N σ' H'→∃ m',m'<m∧W (i+1) m' σ' H')∧∀ x H',(Itl K a).yld i H x H'→g x σ H' fun σ2 H2=>tb { D with nx:=N,ct:=N,bk:=D.nx } σ2 H2):=by
  refine ⟨fun i m σ H=>m=xs.length-i∧i≤xs.length∧Pv i σ H,⟨xs.length,by simp,Nat.zero_le _,h0⟩,?_⟩
  rintro i m σ H ⟨rfl,hi,p⟩
  have q:=hl i σ H hi p
  by_cases hlt:i<xs.length
  · refine .inr ⟨⟨xs,xs[i],q,by simp [hlt]⟩,Pv (i+1),fun σ' H' p'=>⟨xs.length-(i+1),by omega,rfl,hlt,p'⟩,fun x H' y=>?_⟩
    obtain ⟨e,y⟩:=y
    subst e
    exact hs i x σ _ (y xs q) p
  · have e:i=xs.length:=by omega
    subst e
    exact .inl ⟨⟨xs,q,Nat.le_refl _⟩,hd σ H p⟩
theorem for_range {lo:Int}{n:Nat}{g:TG}{tb:TS}{D:Ends}{σ:St}{H:Hp}(Pv:Nat→St→Hp→Prop)(h0:Pv 0 σ H)
    (hs:∀ i σ H,i<n→Pv i σ H→g (.int (lo+i)) σ H fun σ2 H2=>tb { D with nx:=Pv (i+1),ct:=Pv (i+1),bk:=D.nx } σ2 H2) (hd:∀ σ H,Pv n σ H→D.nx σ H):
    ∃ W:Nat→Nat→St→Hp→Prop,(∃ m,W 0 m σ H)∧∀ i m σ H,W i m σ H→
      ((Itr lo n).stop i H∧D.nx σ H)∨((Itr lo n).go i H∧∃ N:St→Hp→Prop,(∀ σ' H',N σ' H'→∃ m',m'<m∧W (i+1) m' σ' H')∧∀ x H',(Itr lo n).yld i H x H'→g x σ H' fun σ2 H2=>tb { D with nx:=N,ct:=N,bk:=D.nx } σ2 H2):=by
  refine ⟨fun i m σ H=>m=n-i∧i≤n∧Pv i σ H,⟨n,by simp,Nat.zero_le _,h0⟩,?_⟩
  rintro i m σ H ⟨rfl,hi,p⟩
  by_cases hlt:i<n
  · refine .inr ⟨hlt,Pv (i+1),fun σ' H' p'=>⟨n-(i+1),by omega,rfl,hlt,p'⟩,fun x H' y=>?_⟩
    obtain ⟨e,y⟩:=y
    subst e y
    exact hs i σ _ hlt p
  · have e:i=n:=by omega
    subst e
    exact .inl ⟨Nat.le_refl _,hd σ H p⟩
theorem while_by {c:TT}{tb:TS}{D:Ends}{σ:St}{H:Hp}(Pv:St→Hp→Prop)(μ:St→Hp→Nat)(h0:Pv σ H)
    (hs:∀ σ H,Pv σ H→c σ H fun b H1=>if b=true then tb { D with nx:=fun σ' H'=>Pv σ' H'∧μ σ' H'<μ σ H,ct:=fun σ' H'=>Pv σ' H'∧μ σ' H'<μ σ H,bk:=D.nx } σ H1 else D.nx σ H1)
    (mono:∀ σ H Q Q',(∀ b H1,Q b H1→Q' b H1)→c σ H Q→c σ H Q'):tWhile c tb D σ H:=by
  refine ⟨fun m σ H=>m=μ σ H∧Pv σ H,⟨_,rfl,h0⟩,?_⟩
  rintro m σ H ⟨rfl,p⟩
  refine mono σ H _ _ (fun b H1 q=>?_) (hs σ H p)
  cases b with
  | true=>exact ⟨_,fun σ' H' ⟨p',l⟩=>⟨_,l,rfl,p'⟩,q⟩
  | false=>exact q
end L2
namespace L2
open PySem PySem.Spec PyProof.Rows
abbrev R2:=V→V→Hp→VK→Prop
def OpR (X:Cx)(f:Value→Value→Sem Value)(r:R2):Prop:=
  ∀ (pins:List (Addr×Obj)) (s:Shared) (σ:St) (H:Hp) (x y:V) (v u:Value) (Q:VK),Inv X pins σ H s→RelV x v→RelV y u→r x y H Q→
    wpAny (model X.prog X.w) X.A (f v u) (EP X pins σ Q) X.xe s
def UnR (X:Cx)(f:Value→Sem Value)(r:V→Hp→VK→Prop):Prop:=
  ∀ (pins:List (Addr×Obj)) (s:Shared) (σ:St) (H:Hp) (x:V) (v:Value) (Q:VK),Inv X pins σ H s→RelV x v→r x H Q→
    wpAny (model X.prog X.w) X.A (f v) (EP X pins σ Q) X.xe s
def CallR (X:Cx)(f:Value)(r:List V→Hp→VK→Prop):Prop:=
  ∀ (pins:List (Addr×Obj)) (s:Shared) (σ:St) (H:Hp) (xs:List V) (us:List Value) (Q:VK),Inv X pins σ H s→Vals xs us→r xs H Q→
    wpAny (model X.prog X.w) X.A (call f us) (EP X pins σ Q) X.xe s
def TruR (X:Cx)(r:V→Hp→(Bool→Hp→Prop)→Prop):Prop:=
  ∀ (pins:List (Addr×Obj)) (s:Shared) (σ:St) (H:Hp) (x:V) (v:Value) (Q:Bool→Hp→Prop),Inv X pins σ H s→RelV x v→r x H Q→
    wpAny (model X.prog X.w) X.A (truthy v) (TP X pins σ Q) X.xe s
def tOp (r:R2)(ta tb:TE):TE:=fun σ H Q=>ta σ H fun x H1=>tb σ H1 fun y H2=>r x y H2 Q
def tUn (r:V→Hp→VK→Prop)(ta:TE):TE:=fun σ H Q=>ta σ H fun x H1=>r x H1 Q
def rI (C:Int→Int→Prop)(g:Int→Int→V):R2:=fun x y H Q=>∃ i j,x=.int i∧y=.int j∧C i j∧Q (g i j) H
def rI0 (g:Int→Int→V):R2:=fun x y H Q=>∃ i j,x=.int i∧y=.int j∧Q (g i j) H
def rU (g:Int→V):V→Hp→VK→Prop:=fun x H Q=>∃ i,x=.int i∧Q (g i) H
section
variable {X:Cx}{a b c:Expr}{ta tb tc:TE}{pos:Pos}
theorem binT (ha:PE X a ta)(hb:PE X b tb){pins:List (Addr×Obj)}{s:Shared}{σ:St}{H:Hp}{R:V→V→Hp→Prop}(I:Inv X pins σ H s)
    (h:ta σ H fun x H1=>tb σ H1 fun y H2=>R x y H2) {Q:Value→Shared→Prop} {f:Value→Value→Sem Value}
    (hf:∀ v u s2 x y H2,Inv X pins σ H2 s2→RelV x v→RelV y u→R x y H2→wpAny (model X.prog X.w) X.A (f v u) Q X.xe s2):
    wpAny (model X.prog X.w) X.A (eval a X.env) (fun v s₁=>wpAny (model X.prog X.w) X.A (eval b X.env) (fun u s₂=>wpAny (model X.prog X.w) X.A (f v u) Q X.xe s₂) X.xe s₁) X.xe s:=by
  refine thn (ha pins s σ H _ I h) fun v s1 ⟨x,H1,I1,r1,q1⟩=>?_
  refine thn (hb pins s1 σ H1 _ I1 q1) fun u s2 ⟨y,H2,I2,r2,q2⟩=>?_
  exact hf v u s2 x y H2 I2 r1 r2 q2
theorem pe_op {op:Operator}{r:R2}(ho:OpR X (binaryOp op) r)(ha:PE X a ta)(hb:PE X b tb):PE X (.BinOp a op b pos) (tOp r ta tb):=by
  intro pins s σ H Q I h
  exact wpAny_BinOp (binT ha hb I h fun v u s2 x y H2 I2 rx ry q=>ho pins s2 σ H2 x y v u Q I2 rx ry q)
theorem pe_un {op:UnaryOp}{r:V→Hp→VK→Prop}(ho:UnR X (unaryOp op) r)(ha:PE X a ta):PE X (.UnaryOp op a pos) (tUn r ta):=by
  intro pins s σ H Q I h
  exact UnaryOp_ (thn (ha pins s σ H _ I h) fun v s1 ⟨x,H1,I1,r1,q1⟩=>ho pins s1 σ H1 x v Q I1 r1 q1)
theorem opI {f:Value→Value→Sem Value}{C:Int→Int→Prop}{g:Int→Int→Int}
    (rule:∀ (i j:Int) (t u:Tok) (s:Shared) (Q:Value→Shared→Prop) (E:Value→Shared→Prop),C i j→Q (.int (g i j) s.toks) { s with toks:=s.toks+1 }→wpAny (model X.prog X.w) X.A (f (.int i t) (.int j u)) Q E s):
    OpR X f (rI C fun i j=>.int (g i j)):=by
  intro pins s σ H x y v u Q I rx ry h
  obtain ⟨i,j,rfl,rfl,hc,q⟩:=h
  obtain ⟨t,rfl⟩:=rx
  obtain ⟨t',rfl⟩:=ry
  exact rule i j t t' s _ _ hc ⟨.int (g i j),H,I.tok _,⟨_,rfl⟩,q⟩
theorem opI0 {f:Value→Value→Sem Value}{g:Int→Int→Int}
    (rule:∀ (i j:Int) (t u:Tok) (s:Shared) (Q:Value→Shared→Prop) (E:Value→Shared→Prop),Q (.int (g i j) s.toks) { s with toks:=s.toks+1 }→wpAny (model X.prog X.w) X.A (f (.int i t) (.int j u)) Q E s):
    OpR X f (rI0 fun i j=>.int (g i j)):=by
  intro pins s σ H x y v u Q I rx ry h
  obtain ⟨i,j,rfl,rfl,q⟩:=h
  obtain ⟨t,rfl⟩:=rx
  obtain ⟨t',rfl⟩:=ry
  exact rule i j t t' s _ _ ⟨.int (g i j),H,I.tok _,⟨_,rfl⟩,q⟩
theorem opB0 {f:Value→Value→Sem Value}{g:Int→Int→Bool}
    (rule:∀ (i j:Int) (t u:Tok) (s:Shared) (Q:Value→Shared→Prop) (E:Value→Shared→Prop),Q (.bool (g i j)) s→wpAny (model X.prog X.w) X.A (f (.int i t) (.int j u)) Q E s):
    OpR X f (rI0 fun i j=>.bl (g i j)):=by
  intro pins s σ H x y v u Q I rx ry h
  obtain ⟨i,j,rfl,rfl,q⟩:=h
  obtain ⟨t,rfl⟩:=rx
  obtain ⟨t',rfl⟩:=ry
  exact rule i j t t' s _ _ ⟨.bl (g i j),H,I,rfl,q⟩
def CDiv (i j:Int):Prop:=0<j∧j<1073741824
def CDivN (i j:Int):Prop:=j≠0∧j.natAbs<1073741824
def CPow (i j:Int):Prop:=0≤j∧j≤1000000∧i.natAbs<2 ^ 64
def CMul (i j:Int):Prop:=(-(2 ^ 64)<i∧i<2 ^ 64)∨(-(2 ^ 64)<j∧j<2 ^ 64)
theorem CMul.ok {i j:Int}(h:CMul i j):IntMulOk i j:=by
  rcases h with ⟨h1,h2⟩ | ⟨h1,h2⟩
  · exact .of_left (intBits_le_64 h1 h2)
  · exact .of_right (intBits_le_64 h1 h2)
theorem op_add:OpR X (binaryOp .Add) (rI0 fun i j=>.int (i+j)):=opI0 fun _ _ _ _ _ _ _ q=>add_int q
theorem op_sub:OpR X (binaryOp .Sub) (rI0 fun i j=>.int (i-j)):=opI0 fun _ _ _ _ _ _ _ q=>sub_int q
theorem op_fdiv:OpR X (binaryOp .FloorDiv) (rI CDiv fun i j=>.int (i / j)):=opI fun i j _ _ _ _ _ hc q=>by
  have h1:(0:Int)<j:=hc.1
  have h2:j<1073741824:=hc.2
  exact floordiv_int (by omega) (by rw [Int.fdiv_eq_ediv_of_nonneg i (by omega)];exact q) (.inl (PyProof.noPylong_small (by omega)))
theorem op_mod:OpR X (binaryOp .Mod) (rI (fun _ j=>0<j) fun i j=>.int (i%j)):=opI fun i j _ _ _ _ _ hc q=>by
  have h1:(0:Int)<j:=hc
  exact mod_int' (by omega) (by rw [Int.fmod_eq_emod_of_nonneg i (by omega)];exact q)
theorem op_pow:OpR X (binaryOp .Pow) (rI CPow fun i j=>.int (i ^ j.toNat)):=opI fun _ _ _ _ _ _ _ hc q=>pow_int_small hc.1 hc.2.1 hc.2.2 q
theorem unI {f:Value→Sem Value}{g:Int→Int}
    (rule:∀ (i:Int) (t:Tok) (s:Shared) (Q:Value→Shared→Prop) (E:Value→Shared→Prop),Q (.int (g i) s.toks) { s with toks:=s.toks+1 }→wpAny (model X.prog X.w) X.A (f (.int i t)) Q E s):
    UnR X f (rU fun i=>.int (g i)):=by
  intro pins s σ H x v Q I rx h
  obtain ⟨i,rfl,q⟩:=h
  obtain ⟨t,rfl⟩:=rx
  exact rule i t s _ _ ⟨.int (g i),H,I.tok _,⟨_,rfl⟩,q⟩
theorem un_neg:UnR X (unaryOp .USub) (rU fun i=>.int (-i)):=unI fun _ _ _ _ _ q=>neg_int q
end
def scal:V→V→Bool
  | .non,.non=>true | .non,.int _=>true | .int _,.non=>true | .non,.bl _=>true | .bl _,.non=>true | .non,.str _=>true | .str _,.non=>true
  | .int _,.int _=>true | .bl _,.bl _=>true | .str _,.str _=>true | .byt _,.byt _=>true
  | .int _,.str _=>true | .str _,.int _=>true | .bl _,.str _=>true | .str _,.bl _=>true
  | _,_=>false
def rEq:R2:=fun x y H Q=>scal x y=true∧Q (.bl (decide (x=y))) H
def rNe:R2:=fun x y H Q=>scal x y=true∧Q (.bl (!decide (x=y))) H
theorem dec_int {i j:Int}:decide (V.int i=V.int j)=(i==j):=by
  rw [Bool.eq_iff_iff]
  simp
theorem dec_bl {i j:Bool}:decide (V.bl i=V.bl j)=(i==j):=by
  rw [Bool.eq_iff_iff]
  simp
theorem dec_str {i j:Str}:decide (V.str i=V.str j)=(i==j):=by
  rw [Bool.eq_iff_iff]
  simp
theorem dec_byt {i j:Array UInt8}:decide (V.byt i=V.byt j)=(i.toList==j.toList):=by
  rw [Bool.eq_iff_iff]
  cases i
  cases j
  simp
section
variable {X:Cx}{a b c:Expr}{ta tb tc:TE}{pos:Pos}
theorem fin_bl {pins:List (Addr×Obj)}{σ:St}{H:Hp}{s:Shared}{Q:VK}{k k':Bool}(I:Inv X pins σ H s)(q:Q (.bl k) H)(e:k=k'):EP X pins σ Q (.bool k') s:=by
  subst e
  exact ⟨.bl k,H,I,rfl,q⟩
theorem op_eq:OpR X (compareOp .Eq) rEq:=by
  intro pins s σ H x y v u Q I rx ry h
  obtain ⟨hs,q⟩:=h
  cases x with
  | non=>
    cases rx
    cases y with
    | non=>cases ry;exact PySem.EqNone.eq_none_none (fin_bl I q (by simp))
    | bl j=>cases ry;exact PySem.EqNone.eq_none_bool (fin_bl I q (by simp))
    | int j=>obtain ⟨t',rfl⟩:=ry;exact PySem.EqNone.eq_none_int (fin_bl I q (by simp))
    | str j=>obtain ⟨t',rfl⟩:=ry;exact PySem.EqNone.eq_none_str (fin_bl I q (by simp))
    | _=>exact absurd (show false=true from hs) Bool.false_ne_true
  | bl i=>
    cases rx
    cases y with
    | non=>cases ry;exact PySem.EqNone.eq_bool_none (fin_bl I q (by simp))
    | bl j=>cases ry;exact eq_bool (fin_bl I q dec_bl)
    | str j=>obtain ⟨t',rfl⟩:=ry;exact PySem.EqMixed.eq_bool_str (fin_bl I q (by simp))
    | _=>exact absurd (show false=true from hs) Bool.false_ne_true
  | int i=>
    obtain ⟨t,rfl⟩:=rx
    cases y with
    | non=>cases ry;exact PySem.EqNone.eq_int_none (fin_bl I q (by simp))
    | int j=>obtain ⟨t',rfl⟩:=ry;exact eq_int (fin_bl I q dec_int)
    | str j=>obtain ⟨t',rfl⟩:=ry;exact PySem.EqMixed.eq_int_str (fin_bl I q (by simp))
    | _=>exact absurd (show false=true from hs) Bool.false_ne_true
  | str i=>
    obtain ⟨t,rfl⟩:=rx
    cases y with
    | non=>cases ry;exact PySem.EqNone.eq_str_none (fin_bl I q (by simp))
    | bl j=>cases ry;exact PySem.EqMixed.eq_str_bool (fin_bl I q (by simp))
    | int j=>obtain ⟨t',rfl⟩:=ry;exact PySem.EqMixed.eq_str_int (fin_bl I q (by simp))
    | str j=>obtain ⟨t',rfl⟩:=ry;exact eq_str (fin_bl I q dec_str)
    | _=>exact absurd (show false=true from hs) Bool.false_ne_true
  | byt i=>
    obtain ⟨t,rfl⟩:=rx
    cases y with
    | byt j=>obtain ⟨t',rfl⟩:=ry;exact PySem.W.eq_bytes (fin_bl I q dec_byt)
    | _=>exact absurd (show false=true from hs) Bool.false_ne_true
  | _=>cases y <;> exact absurd (show false=true from hs) Bool.false_ne_true
theorem op_ne:OpR X (compareOp .NotEq) rNe:=by
  intro pins s σ H x y v u Q I rx ry h
  obtain ⟨hs,q⟩:=h
  cases x with
  | non=>
    cases rx
    cases y with
    | non=>cases ry;exact PySem.EqNone.ne_none_none (fin_bl I q (by simp))
    | bl j=>cases ry;exact PySem.EqNone.ne_none_bool (fin_bl I q (by simp))
    | int j=>obtain ⟨t',rfl⟩:=ry;exact PySem.EqNone.ne_none_int (fin_bl I q (by simp))
    | str j=>obtain ⟨t',rfl⟩:=ry;exact PySem.EqNone.ne_none_str (fin_bl I q (by simp))
    | _=>exact absurd (show false=true from hs) Bool.false_ne_true
  | bl i=>
    cases rx
    cases y with
    | non=>cases ry;exact PySem.EqNone.ne_bool_none (fin_bl I q (by simp))
    | bl j=>cases ry;exact ne_bool (fin_bl I q (congrArg not dec_bl))
    | str j=>obtain ⟨t',rfl⟩:=ry;exact PySem.EqMixed.ne_bool_str (fin_bl I q (by simp))
    | _=>exact absurd (show false=true from hs) Bool.false_ne_true
  | int i=>
    obtain ⟨t,rfl⟩:=rx
    cases y with
    | non=>cases ry;exact PySem.EqNone.ne_int_none (fin_bl I q (by simp))
    | int j=>obtain ⟨t',rfl⟩:=ry;exact ne_int (fin_bl I q (congrArg not dec_int))
    | str j=>obtain ⟨t',rfl⟩:=ry;exact PySem.EqMixed.ne_int_str (fin_bl I q (by simp))
    | _=>exact absurd (show false=true from hs) Bool.false_ne_true
  | str i=>
    obtain ⟨t,rfl⟩:=rx
    cases y with
    | non=>cases ry;exact PySem.EqNone.ne_str_none (fin_bl I q (by simp))
    | bl j=>cases ry;exact PySem.EqMixed.ne_str_bool (fin_bl I q (by simp))
    | int j=>obtain ⟨t',rfl⟩:=ry;exact PySem.EqMixed.ne_str_int (fin_bl I q (by simp))
    | str j=>obtain ⟨t',rfl⟩:=ry;exact ne_str (fin_bl I q (congrArg not dec_str))
    | _=>exact absurd (show false=true from hs) Bool.false_ne_true
  | byt i=>
    obtain ⟨t,rfl⟩:=rx
    cases y with
    | byt j=>obtain ⟨t',rfl⟩:=ry;exact PySem.W.ne_bytes (fin_bl I q (congrArg not dec_byt))
    | _=>exact absurd (show false=true from hs) Bool.false_ne_true
  | _=>cases y <;> exact absurd (show false=true from hs) Bool.false_ne_true
theorem op_lt:OpR X (compareOp .Lt) (rI0 fun i j=>.bl (decide (i<j))):=opB0 fun _ _ _ _ _ _ _ q=>lt_int q
theorem op_gt:OpR X (compareOp .Gt) (rI0 fun i j=>.bl (decide (j<i))):=opB0 fun _ _ _ _ _ _ _ q=>gt_int q
def isObj:HO→Bool
  | .lst _=>true
  | .ins _ _ _=>true
  | _=>false
theorem OpR.or {f:Value→Value→Sem Value}{r r':R2}(h:OpR X f r)(h':OpR X f r'):OpR X f (fun x y H Q=>r x y H Q∨r' x y H Q):=by
  intro pins s σ H x y v u Q I rx ry q
  rcases q with q | q
  · exact h pins s σ H x y v u Q I rx ry q
  · exact h' pins s σ H x y v u Q I rx ry q
theorem nomark (b:Expr){op:CmpOp}(h:op≠.In:=by decide)(h2:op≠.NotIn:=by decide):behindInMarks op b=false:=by
  have e1:(op==CmpOp.In)=false:=by cases op <;> first | rfl | exact absurd rfl h
  have e2:(op==CmpOp.NotIn)=false:=by cases op <;> first | rfl | exact absurd rfl h2
  cases b <;> simp [behindInMarks,e1,e2]
theorem pe_cmpR {op:CmpOp}{r:R2}(ho:OpR X (compareOp op) r)(ha:PE X a ta)(hb:PE X b tb)(hm:behindInMarks op b=false):PE X (.Compare a [op] [b] pos) (tOp r ta tb):=by
  intro pins s σ H Q I h
  exact wpAny_Compare1 (binT ha hb I h fun v u s2 x y H2 I2 rx ry q=>ho pins s2 σ H2 x y v u Q I2 rx ry q) hm
def tTest (t:TE):TT:=fun σ H Q=>t σ H fun x H'=>∃ k,x=.bl k∧Q k H'
theorem pt_cmpR {op:CmpOp}{r:R2}(ho:OpR X (compareOp op) r)(ha:PE X a ta)(hb:PE X b tb)(hm:behindInMarks op b=false):PT X (.Compare a [op] [b] pos) (tTest (tOp r ta tb)):=by
  intro pins s σ H Q I h
  refine wpAny_isTrue_Compare1 (thn (ha pins s σ H _ I h) fun v s1 ⟨x,H1,I1,r1,q1⟩=>thn (hb pins s1 σ H1 _ I1 q1) fun u s2 ⟨y,H2,I2,r2,q2⟩=>
    thn (ho pins s2 σ H2 x y v u _ I2 r1 r2 q2) fun c s3 ⟨z,H3,I3,r3,k,e,q3⟩=>?_) hm
  subst e
  cases r3
  exact wpAny_truthy_bool ⟨H3,I3,q3⟩
def tChain (r r':R2)(ta tb tc:TE):TE:=fun σ H Q=>ta σ H fun x H1=>tb σ H1 fun y H2=>r x y H2 fun z H3=>∃ k,z=.bl k∧
  (if k=true then tc σ H3 fun w' H4=>r' y w' H4 Q else Q (.bl false) H3)
def TruV (K:PySem.W.Frag)(x:V)(H:Hp)(k:Bool):Prop:=
  match x with
  | .non=>k=false
  | .bl b=>k=b
  | .int i=>k=(i != 0)
  | .str y=>y.length≤sizeLine∧k=((y.length:Int) != 0)
  | .byt y=>y.size≤sizeLine∧k=((y.size:Int) != 0)
  | .ref p=>(∃ xs,SqL K H p xs∧k=!xs.isEmpty)∨(∃ xs,SqT K H p xs∧k=!xs.isEmpty)∨∃ kvs,H p=some (.dK kvs)∧k=!kvs.isEmpty
  | _=>False
theorem line63:(sizeLine:Nat)<2 ^ 63:=by rw [sizeLine_eq];decide
def PlainIxT (b:Expr):Prop:=∀ o i,subscripted b false o i=operate [o,i] (getItem o i)
theorem vals1 {x:V}{us:List Value}(r:Vals [x] us):∃ u,us=[u]∧RelV x u:=by
  cases r with
  | cons r1 r2=>cases r2;exact ⟨_,rfl,r1⟩
theorem vals2 {x y:V}{us:List Value}(r:Vals [x,y] us):∃ u w',us=[u,w']∧RelV x u∧RelV y w':=by
  cases r with
  | cons r1 r2=>
    cases r2 with
    | cons r3 r4=>cases r4;exact ⟨_,_,rfl,r1,r3⟩
theorem call_abs:CallR X (.builtin "abs") (fun xs H Q=>∃ i,xs=[.int i]∧Q (.int (if i<0 then -i else i)) H):=by
  intro pins s σ H xs us Q I r h
  obtain ⟨i,rfl,q⟩:=h
  obtain ⟨u,rfl,t,rfl⟩:=vals1 r
  exact call_abs_int fun u tk=>⟨.int (if i<0 then -i else i),H,I.tok _,⟨_,rfl⟩,q⟩
theorem call_int1:CallR X (.type "int") (fun xs H Q=>(∃ i,xs=[.int i]∧Q (.int i) H)∨∃ k,xs=[.bl k]∧Q (.int (if k then 1 else 0)) H):=by
  intro pins s σ H xs us Q I r h
  rcases h with ⟨i,rfl,q⟩ | ⟨k,rfl,q⟩
  · obtain ⟨u,rfl,t,rfl⟩:=vals1 r
    exact call_int_int ⟨.int i,H,I,⟨_,rfl⟩,q⟩
  · obtain ⟨u,rfl,r1⟩:=vals1 r
    cases r1
    exact call_int_bool ⟨.int (if k then 1 else 0),H,I.tok _,⟨_,rfl⟩,q⟩
def LenV (K:PySem.W.Frag)(x:V)(H:Hp)(n:Nat):Prop:=
  match x with
  | .str y=>y.length≤sizeLine∧n=y.length
  | .byt y=>y.size≤sizeLine∧n=y.size
  | .ref p=>(∃ xs,SqL K H p xs∧n=xs.length)∨∃ xs,SqT K H p xs∧n=xs.length
  | _=>False
end
end L2
namespace L2
open PySem PySem.Spec PyProof.Rows
structure ObjM (h:Heap)(x dx C:Addr)(mA:Str→Option Value):Prop where
  obj:h.get? x=some (PySem.W.instObj C dx)
  ns:h.Ns1 dx mA
  ne:dx≠x
theorem lookIn_ns {h:Heap}{dx:Addr}{mA:Str→Option Value}(n:h.Ns1 dx mA):∃ od,h.get? dx=some od∧∀ name,PySem.W.lookIn name od=some (mA name):=by
  obtain ⟨o,es,ep,ho,hd,hk,_,hm⟩:=n
  refine ⟨o,ho,fun name=>?_⟩
  have e:=hm name
  unfold nsFind findBy at e
  rw [← Array.find?_toList] at e
  unfold PySem.W.lookIn
  rw [hd]
  dsimp only
  split
  · rename_i y q
    rw [q] at e
    exact congrArg some e
  · rename_i q
    rw [q] at e
    have a:es.toList.any (·.refKey)=false:=by
      rw [List.any_eq_false]
      intro y hy
      obtain ⟨z,t,hkey⟩:=hk y (Array.mem_toList_iff.mp hy)
      simp [DictEntry.refKey,hkey]
    have a':¬ es.toList.any (·.refKey)=true:=by rw [a];exact Bool.false_ne_true
    rw [if_neg a']
    exact congrArg some e
theorem ObjM.look {h:Heap}{x dx C:Addr}{mA:Str→Option Value}(I:ObjM h x dx C mA):∃ od,PySem.W.InstAt h x (PySem.W.instObj C dx) C (some od)∧∀ name,PySem.W.lookIn name od=some (mA name):=
  let ⟨od,ho,hl⟩:=lookIn_ns I.ns
  ⟨od,⟨I.obj,rfl,rfl,ho⟩,hl⟩
section
variable {prog:Program}{w:World}{A:Around}{E:Value→Shared→Prop}{s:Shared}{K:PySem.W.Frag}{x dx C f:Addr}{mA:Str→Option Value}{name:Str}{v:Value}
end
def putF (f:Str)(v:V):List (Str×V)→List (Str×V)
  | []=>[(f,v)]
  | (g,x)::r=>if g=f then (g,v)::r else (g,x)::putF f v r
theorem RelO.some_of {v:V}{o:Option Value}(r:RelO (some v) o):∃ u,o=some u∧RelV v u:=by
  cases o with
  | none=>exact (show False from r).elim
  | some u=>exact ⟨u,rfl,r⟩
section
variable {P:Program}{w:World}{H H':Hp}{h h':Heap}{a C dx:Addr}{fs fs':List (Str×V)}
theorem ins_get (hok:HOk P w H h)(e:H a=some (.ins C dx fs)):∃ mA,ObjM h a dx C mA∧(∀ f,RelO (fs.lookup f) (mA f))∧PySem.Within mA (fs.map (·.1))∧fs.length≤1000∧H dx=some (.own a):=by
  obtain ⟨d,z,ne,ob,mA,n,r,q⟩:=(show ObjOk P w H h a (.ins C dx fs) from hok a _ e)
  exact ⟨mA,⟨ob,n,ne⟩,r,q,z,d⟩
end
structure Cls (K:PySem.W.Frag)(C:Addr):Prop where
  pg:PySem.W.plainGet K C Str.empty=true
  hd:PySem.W.hasDictIn K C=true
  po:PySem.W.plainOver K C=true
  sa:PySem.W.findIn K (.ref C) "__setattr__"=some (some (.builtin "object.__setattr__"))
theorem Cls.get {K:PySem.W.Frag}{C:Addr}(c:Cls K C)(f:Str):PySem.W.plainGet K C f=true:=c.pg
def NoAttr (K:PySem.W.Frag)(C:Addr)(f:Str):Prop:=PySem.W.findIn K (.ref C) f=some none
structure Con (K:PySem.W.Frag)(C:Addr)(f:Str)(v:V)(u:Value):Prop where
  at_:PySem.W.findIn K (.ref C) f=some (some u)
  rel:RelV v u
  get:PySem.W.specialIn K u "__get__"=some none
  cp:PySem.W.copiedNames.contains f=false
structure Meth (K:PySem.W.Frag)(C:Addr)(m:Str)(f:Addr):Prop where
  at_:PySem.W.findIn K (.ref C) m=some (some (.ref f))
  fn:PySem.W.isFn K (.ref f)=true
  kp:PySem.W.keepIn K (.ref f)=true
section
variable {X:Cx}{pins:List (Addr×Obj)}{σ:St}{H:Hp}{s:Shared}{a C dx:Addr}{fs:List (Str×V)}{f:Str}{v:V}{A:Around}{E:Value→Shared→Prop}
theorem Inv.made (I:Inv X pins σ H s):Inv X pins σ (upd (upd H s.heap.objs.size (.own (s.heap.objs.size+1))) (s.heap.objs.size+1) (.ins C s.heap.objs.size []))
    { s with heap:=(s.heap.push PySem.W.emptyDict).push (PySem.W.instObj C s.heap.objs.size) }:=by
  have e1:(s.heap.push PySem.W.emptyDict).get? s.heap.objs.size=some PySem.W.emptyDict:=Heap.get?_push_size s.heap rfl
  have e2:((s.heap.push PySem.W.emptyDict).push (PySem.W.instObj C s.heap.objs.size)).get? (s.heap.objs.size+1)=some (PySem.W.instObj C s.heap.objs.size):=by
    have:=Heap.get?_push_size (s.heap.push PySem.W.emptyDict) (o:=PySem.W.instObj C s.heap.objs.size) rfl
    rwa [Heap.size_push] at this
  have e3:(s.heap.push PySem.W.emptyDict).Ns s.heap.objs.size (fun _=>none):=⟨PySem.W.emptyDict,#[],_,e1,rfl,(fun e he=>absurd he (by simp)),fun _=>rfl⟩
  have I1:=I.laid (a:=s.heap.objs.size) (o:=.own (s.heap.objs.size+1)) (h':=s.heap.push PySem.W.emptyDict) (t':=s.toks) (fun b u q=>Heap.get?_push_of_some _ q) (Nat.le_refl _) ⟨_,e1⟩
  refine I1.laid (a:=s.heap.objs.size+1) (o:=.ins C s.heap.objs.size []) (t':=s.toks) (fun b u q=>Heap.get?_push_of_some _ q) (Nat.le_of_eq (Heap.size_push _ _)) ?_
  have ne:s.heap.objs.size≠s.heap.objs.size+1:=Nat.ne_of_lt (Nat.lt_succ_self _)
  refine ⟨by rw [upd_ne ne,upd_same],Nat.zero_le _,ne,e2,fun _=>none,(Heap.Ns1.of_empty e3).at fun o q=>Heap.get?_push_of_some _ q,fun _=>True.intro,fun y hy=>absurd rfl hy⟩
end
def tFld (K:PySem.W.Frag)(ta:TE)(f:Str):TE:=fun σ H Q=>ta σ H fun x H1=>∃ a C dx fs v,x=.ref a∧H1 a=some (.ins C dx fs)∧Cls K C∧NoAttr K C f∧fs.lookup f=some v∧Q v H1
def tCon (K:PySem.W.Frag)(ta:TE)(f:Str):TE:=fun σ H Q=>ta σ H fun x H1=>∃ a C dx fs v u,x=.ref a∧H1 a=some (.ins C dx fs)∧Cls K C∧Con K C f v u∧fs.lookup f=none∧Q v H1
def sFld (K:PySem.W.Frag)(ta tv:TE)(f:Str):TS:=fun D σ H=>tv σ H fun y H1=>ta σ H1 fun x H2=>∃ a C dx fs,x=.ref a∧H2 a=some (.ins C dx fs)∧Cls K C∧NoAttr K C f∧fs.length<1000∧
  D.nx σ (upd H2 a (.ins C dx (putF f y fs)))
def InOp (X:Cx)(op:Operator)(rd:V→V→Hp→VK→Prop):Prop:=
  ∀ (pins:List (Addr×Obj)) (s:Shared) (σ:St) (H:Hp) (x y:V) (u v:Value) (Q:VK),Inv X pins σ H s→RelV x u→RelV y v→rd x y H Q→wpAny (model X.prog X.w) X.A (inplaceOp op u v) (EP X pins σ Q) X.xe s
def sFldAug (K:PySem.W.Frag)(ta tv:TE)(rd:V→V→Hp→VK→Prop)(f:Str):TS:=fun D σ H=>ta σ H fun x H1=>∃ a C dx fs v,x=.ref a∧H1 a=some (.ins C dx fs)∧Cls K C∧NoAttr K C f∧fs.lookup f=some v∧
  tv σ H1 fun y H2=>rd v y H2 fun z H3=>∃ dx' fs',H3 a=some (.ins C dx' fs')∧fs'.length<1000∧D.nx σ (upd H3 a (.ins C dx' (putF f z fs')))
section
variable {X:Cx}{o e value:Expr}{f:Str}{pos pos' tpos:Pos}{ta tv:TE}
def rAdd:V→V→Hp→VK→Prop:=fun x y H Q=>∃ i j,x=.int i∧y=.int j∧Q (.int (i+j)) H
def rSub:V→V→Hp→VK→Prop:=fun x y H Q=>∃ i j,x=.int i∧y=.int j∧Q (.int (i-j)) H
end
section
variable {X:Cx}{pins:List (Addr×Obj)}{σ:St}{H:Hp}{s:Shared}{A:Around}{E:Value→Shared→Prop}{Q:Value→Shared→Prop}{c:Value}{b:Bool}
inductive TyOf (K:PySem.W.Frag)(H:Hp):V→Value→Prop where
  | non:TyOf K H .non (.type "NoneType")
  | bl (x:Bool):TyOf K H (.bl x) (.type "bool")
  | int (i:Int):TyOf K H (.int i) (.type "int")
  | str (x:Str):TyOf K H (.str x) (.type "str")
  | flt (x:UInt64):TyOf K H (.flt x) (.type "float")
  | lst {a:Addr} {xs:List V} (e:H a=some (.lst xs)):TyOf K H (.ref a) (.type "list")
  | frz {a:Addr} {o:Obj} {xs:List V} (e:H a=some (.frz o (.lst xs))):TyOf K H (.ref a) (.type "list")
  | tup {a:Addr} {xs:List V} (e:H a=some (.tup xs)):TyOf K H (.ref a) (.type "tuple")
  | dK {a:Addr} {kvs:List (Key×V)} (e:H a=some (.dK kvs)):TyOf K H (.ref a) (.type "dict")
  | dT {a:Addr} {kvs:List (List Key×V)} (e:H a=some (.dT kvs)):TyOf K H (.ref a) (.type "dict")
  | ins {a C dx:Addr} {fs:List (Str×V)} (e:H a=some (.ins C dx fs)) (cl:Cls K C) (ha:PySem.W.findIn K (.ref C) "__class__"=some (some (.builtin "object.__class__")))
      (hn:PySem.W.specialIn K (.builtin "object.__class__") "__get__"=some (some (.builtin "getset_descriptor.__get__"))) (htk:PySem.W.takesIn K (.builtin "object.__class__")=some true)
      (hm:PySem.W.mroIn K C (.type "object")=some true):TyOf K H (.ref a) (.ref C)
theorem isinst_ok {x:V}{u t:Value}(I:Inv X pins σ H s)(rx:RelV x u)(ty:TyOf X.K H x t)(e:PySem.W.kitOne X.K t c=some b)(h:∀ tk,Q (.bool b) { s with toks:=tk }):
    wpAny (model X.prog X.w) A (call (.builtin "isinstance") [u,c]) Q E s:=by
  cases ty with
  | non=>cases (show u=Value.none from rx);exact PySem.W.kia_one PySem.W.kitx_none I.kIn True.intro e (fun z=>nomatch z) h
  | bl y=>cases (show u=Value.bool y from rx);exact PySem.W.kia_one PySem.W.kitx_bool I.kIn True.intro e (fun z=>nomatch z) h
  | int i=>obtain ⟨t,q⟩:=(show ∃ t,u=Value.int i t from rx);cases q;exact PySem.W.kia_one PySem.W.kitx_int I.kIn True.intro e (fun z=>nomatch z) h
  | str y=>obtain ⟨t,q⟩:=(show ∃ t,u=Value.str y t from rx);cases q;exact PySem.W.kia_one PySem.W.kitx_str I.kIn True.intro e (fun z=>nomatch z) h
  | flt y=>obtain ⟨t,q⟩:=(show ∃ t,u=Value.float y t from rx);cases q;exact PySem.W.kia_one PySem.W.kitx_float I.kIn True.intro e (fun z=>nomatch z) h
  | @lst a xs ea=>
    cases (show u=Value.ref a from rx)
    obtain ⟨_,_,n,_,h1⟩:=(show ObjOk X.prog X.w H s.heap a (.lst xs) from I.hok a _ ea)
    exact PySem.W.kia_one PySem.W.kitx_list I.kIn ⟨_,h1,rfl⟩ e (fun z=>nomatch z) h
  | @frz a ob xs ea=>
    cases (show u=Value.ref a from rx)
    obtain ⟨_,_,_,n,_,h1⟩:=(show ObjOk X.prog X.w H s.heap a (.frz ob (.lst xs)) from I.hok a _ ea)
    exact PySem.W.kia_one PySem.W.kitx_list I.kIn ⟨_,h1,rfl⟩ e (fun z=>nomatch z) h
  | @tup a xs ea=>
    cases (show u=Value.ref a from rx)
    obtain ⟨_,_,_,p⟩:=(show ObjOk X.prog X.w H s.heap a (.tup xs) from I.hok a _ ea)
    obtain ⟨o,h1,h2,_⟩:=p
    exact PySem.W.kia_one PySem.W.kitx_tuple I.kIn ⟨o,h1,h2⟩ e (fun z=>nomatch z) h
  | @dK a kvs ea=>
    cases (show u=Value.ref a from rx)
    obtain ⟨_,_,vs,_,p⟩:=(show ObjOk X.prog X.w H s.heap a (.dK kvs) from I.hok a _ ea)
    obtain ⟨o,es,ep,h1,h2,_⟩:=p
    exact PySem.W.kia_one PySem.W.kitx_dict I.kIn ⟨o,h1,h2.1⟩ e (fun z=>nomatch z) h
  | @dT a kvs ea=>
    cases (show u=Value.ref a from rx)
    obtain ⟨_,_,xs,_,o,es,ep,h1,h2,_⟩:=(show ObjOk X.prog X.w H s.heap a (.dT kvs) from I.hok a _ ea)
    exact PySem.W.kia_one PySem.W.kitx_dict I.kIn ⟨o,h1,h2.1⟩ e (fun z=>nomatch z) h
  | @ins a C dx fs ea cl ha hn htk hm=>
    cases (show u=Value.ref a from rx)
    obtain ⟨mA,O,_⟩:=ins_get I.hok ea
    obtain ⟨od,J,_⟩:=O.look
    exact PySem.W.kia_one (PySem.W.kitx_own (cl.get _) cl.hd ha hn htk hm) I.kIn J e (fun z=>nomatch z) h
end
end L2
namespace L2
open PySem PySem.Spec PyProof.Rows
structure Room (k:Nat)(A:Around):Prop where
  hd:A.handled=none
  dp:A.depth+3*k+5<recursionLimit
  un:A.units+16*k+200<cLine
theorem Room.mono {j k:Nat}{A:Around}(r:Room k A)(h:j≤k):Room j A:=⟨r.hd,by have:=r.dp;omega,by have:=r.un;omega⟩
theorem Room.deeper {k:Nat}{A:Around}(r:Room (k+1) A)(env:Env):Room k (A.deeper env):=
  ⟨r.hd,by have:=r.dp;show A.depth+1+3*k+5<_;omega,by have:=r.un;show A.units+3+16*k+200<_;omega⟩
theorem Room.in1 {k:Nat}{A:Around}(r:Room (k+1) A):Room k A.in1:=
  ⟨r.hd,by have:=r.dp;show A.depth+3*k+5<_;omega,by have:=r.un;show A.units+1+16*k+200<_;omega⟩
theorem Room.depth {k:Nat}{A:Around}(r:Room k A):A.depth<recursionLimit:=by have:=r.dp;omega
theorem Room.units {k:Nat}{A:Around}(r:Room k A):A.units+64<cLine:=by have:=r.un;omega
theorem Room.units0 {k:Nat}{A:Around}(r:Room k A):A.units<cLine:=by have:=r.un;omega
def tNil:TA:=fun _ H Q=>Q [] H
def tCons (ta:TE)(tr:TA):TA:=fun σ H Q=>ta σ H fun x H1=>tr σ H1 fun xs H2=>Q (x::xs) H2
section
variable {X:Cx}{e:Expr}{es:List Expr}{te:TE}{t:TA}{pos:Pos}
theorem pa_nil:PA X [] tNil:=fun _ _ _ _ H Q I h=>Calls.spliced_nil ⟨[],H,I,.nil,h⟩
theorem pa_cons (ha:PE X e te)(hr:PA X es t)(hs:starEach (e::es) X.env=(false,eval e X.env)::starEach es X.env:=by rfl):PA X (e::es) (tCons te t):=by
  intro pos pins s σ H Q I h
  rw [hs]
  show wpAny _ _ (spliced ((false,eval e X.env)::backTo pos (starEach es X.env))) _ _ s
  refine Calls.spliced_cons (thn (ha pins s σ H _ I h) fun u s1 ⟨x,H1,I1,r1,q1⟩=>?_)
  exact thn (hr pos pins s1 σ H1 _ I1 q1) fun us s2 ⟨xs,H2,I2,r2,q2⟩=>⟨x::xs,H2,I2,.cons r1 r2,q2⟩
def tTup (t:TA):TE:=fun σ H Q=>t σ H fun xs H1=>xs.length≤sizeLine∧∀ p,H1 p=none→Q (.ref p) (upd H1 p (.tup xs))
def tLst (t:TA):TE:=fun σ H Q=>t σ H fun xs H1=>xs.length≤sizeLine∧∀ p,H1 p=none→Q (.ref p) (upd H1 p (.lst xs))
theorem pe_tup {x1}(h:PA X es t):PE X (.Tuple es x1 pos) (tTup t):=by
  intro pins s σ H Q I hq
  refine wpAny_Tuple_spliced (thn (h pos pins s σ H _ I hq) fun us s1 ⟨xs,H1,I1,r,z,q⟩=>⟨by rw [← r.length];exact z,?_⟩)
  have hf:H1 s1.heap.objs.size=none:=I1.hok.fresh (Nat.le_refl _)
  refine ⟨.ref s1.heap.objs.size,upd H1 s1.heap.objs.size (.tup xs),I1.laid (t':=s1.toks) (fun b u e=>Heap.get?_push_of_some _ e) (Nat.le_refl _) ?_,rfl,q _ hf⟩
  exact ⟨z,us,r,⟨_,Heap.get?_push_size _ rfl,rfl,_,rfl⟩⟩
theorem pe_lst (h:PA X es t):PE X (.List es pos) (tLst t):=by
  intro pins s σ H Q I hq
  refine wpAny_List_spliced (thn (h pos pins s σ H _ I hq) fun us s1 ⟨xs,H1,I1,r,z,q⟩=>⟨by rw [← r.length];exact z,?_⟩)
  have hf:H1 s1.heap.objs.size=none:=I1.hok.fresh (Nat.le_refl _)
  refine ⟨.ref s1.heap.objs.size,upd H1 s1.heap.objs.size (.lst xs),I1.laid (t':=s1.toks) (fun b u e=>Heap.get?_push_of_some _ e) (Nat.le_refl _) ?_,rfl,q _ hf⟩
  exact ⟨z,us,0,r,Heap.get?_push_size _ rfl⟩
end
abbrev Sp:=List V→Hp→VK→XK→Prop
abbrev CXT:=List Env→Hp→Shared→XK→Value→Shared→Prop
structure Env0 (P:Program)(w:World)(K:PySem.W.Frag)(mg:Str→Option Value)(base:Heap)(A:Around)(outer:List Env)(s:Shared)(H:Hp):Prop where
  frames:A.frames=some outer
  mod:Mod K mg base
  bs:∀ b o,base.get? b=some o→s.heap.get? b=some o∧H b=none
  bsz:base.objs.size≤s.heap.objs.size
  funs:s.heap.FunFrames base outer
  frf:∀ b∈frs outer,H b=none
  hok:HOk P w H s.heap
  bare:AllBare s.gens
def CE (outer:List Env)(P:Program)(w:World)(H:Hp)(s:Shared)(Q:VK)(u:Value)(s':Shared):Prop:=
  ∃ v H',s'.os=s.os∧AllBare s'.gens∧Un (frs outer) [] H H' s.heap s'.heap∧HOk P w H' s'.heap∧RelV v u∧Q v H'
def CR (CX:CXT)(outer:List Env)(P:Program)(w:World)(H:Hp)(s:Shared)(Q:VK)(E:XK)(r:Result)(s':Shared):Prop:=
  match r with
  | .ok (.ret u)=>CE outer P w H s Q u s'
  | .ok _=>False
  | .error e=>CX outer H s E e s'
structure FnOk (P:Program)(w:World)(K:PySem.W.Frag)(mg:Str→Option Value)(base:Heap)(CX:CXT)(k:Nat)(f:Addr)(fd:FuncData)(ps:List Str)(sp:Sp):Prop where
  len:∀ vs H Q E,sp vs H Q E→vs.length=ps.length
  run:∀ (A:Around) (outer:List Env) (s:Shared) (H:Hp) (args:Args) (us:List Value) (vs:List V) (Q:VK) (E:XK),Room k A→Env0 P w K mg base A outer s H→BindsTo s fd args (ps.zip us)→Vals vs us→sp vs H Q E→
    codeAny (model P w) A (.call (.ref f) args) (CR CX outer P w H s Q E) s
theorem FnOk.mono {P:Program}{w:World}{K:PySem.W.Frag}{mg:Str→Option Value}{base:Heap}{CX:CXT}{j k:Nat}{f:Addr}{fd:FuncData}{ps:List Str}{sp:Sp}(F:FnOk P w K mg base CX j f fd ps sp)(h:j≤k):
    FnOk P w K mg base CX k f fd ps sp:=⟨F.len,fun A outer s H args us vs Q E hr=>F.run A outer s H args us vs Q E (hr.mono h)⟩
theorem FnOk.imp {P:Program}{w:World}{K:PySem.W.Frag}{mg:Str→Option Value}{base:Heap}{CX:CXT}{k:Nat}{f:Addr}{fd:FuncData}{ps:List Str}{sp sp':Sp}(F:FnOk P w K mg base CX k f fd ps sp)
    (h:∀ vs H Q E,sp' vs H Q E→sp vs H Q E):FnOk P w K mg base CX k f fd ps sp':=
  ⟨fun vs H Q E q=>F.len vs H Q E (h _ _ _ _ q),fun A outer s H args us vs Q E hr he hb hv hs=>F.run A outer s H args us vs Q E hr he hb hv (h _ _ _ _ hs)⟩
theorem Env0.in1 {P:Program}{w:World}{K:PySem.W.Frag}{mg:Str→Option Value}{base:Heap}{A:Around}{outer:List Env}{s:Shared}{H:Hp}(e:Env0 P w K mg base A outer s H):
    Env0 P w K mg base A.in1 outer s H:=⟨e.frames,e.mod,e.bs,e.bsz,e.funs,e.frf,e.hok,e.bare⟩
section
variable {X:Cx}{pins:List (Addr×Obj)}{σ:St}{H:Hp}{s s':Shared}
theorem Inv.env0 (I:Inv X pins σ H s):Env0 X.prog X.w X.K X.mg X.base X.A X.stack s H:=
  ⟨I.ok.frames,I.ok.mod,I.bs,Nat.le_trans I.ok.bsz I.sz,I.stack,I.stkFree,I.hok,I.bare⟩
theorem Inv.after {Q:VK}{u:Value}(I:Inv X pins σ H s)(h:CE X.stack X.prog X.w H s Q u s'):EP X pins σ Q u s':=by
  obtain ⟨v,H',os,bare,un,hok,r,q⟩:=h
  obtain ⟨hh,g,d,t,os'⟩:=s'
  obtain rfl:os'=s.os:=os
  exact ⟨v,H',I.call (h':=hh) (g':=g) (d':=d) (t':=t) (ch:=[]) un hok bare (fun b z=>absurd z (by simp)),r,q⟩
end
def tCall (sp:Sp)(dvs:List V)(E:XK)(t:TA):TE:=fun σ H Q=>t σ H fun vs H1=>sp (vs++dvs) H1 Q E
def tMeth (C:Addr)(m:Str)(sp:Sp)(dvs:List V)(E:XK)(ta:TE)(t:TA):TE:=fun σ H Q=>ta σ H fun x H1=>∃ a dx fs,x=.ref a∧H1 a=some (.ins C dx fs)∧fs.lookup m=none∧
  t σ H1 fun vs H2=>sp (x::(vs++dvs)) H2 Q E
def tMake (C:Addr)(sp:Sp)(dvs:List V)(E:XK)(t:TA):TE:=fun σ H Q=>t σ H fun vs H1=>∀ x dx,H1 x=none→H1 dx=none→dx≠x→
  sp (.ref x::(vs++dvs)) (upd (upd H1 dx (.own x)) x (.ins C dx [])) (fun v H2=>v=.non∧Q (.ref x) H2) E
def Binds (K:PySem.W.Frag)(fd:FuncData)(ps:List Str)(ds:List Value):Prop:=
  ∀ (s:Shared) (us:List Value),K.In s.heap→(us++ds).length=ps.length→BindsTo s fd ⟨us,[]⟩ (ps.zip (us++ds))
theorem Binds.all {K:PySem.W.Frag}{fd:FuncData}{ps:List Str}(h:∀ us:List Value,us.length=ps.length→bindArgs fd ⟨us,[]⟩=pure (ps.zip us)):Binds K fd ps []:=fun s us _ hl=>by
  rw [List.append_nil] at hl ⊢
  exact .of_eq (h us hl)
def Passes (CX:CXT)(X:Cx)(E:XK):Prop:=∀ (pins:List (Addr×Obj)) (σ:St) (H:Hp) (s:Shared) (e:Value) (s':Shared),Inv X pins σ H s→CX X.stack H s E e s'→X.xe e s'
section
variable {X:Cx}{CX:CXT}{k:Nat}{f C:Addr}{fd:FuncData}{ps:List Str}{sp:Sp}{dvs:List V}{ds:List Value}{E:XK}{x m:Str}{p pos apos:Pos}{e o:Expr}{es:List Expr}{ta:TE}{t:TA}
theorem run_fn {pins:List (Addr×Obj)}{σ:St}{H:Hp}{s:Shared}{Q:VK}{us:List Value}{vs:List V}(F:FnOk X.prog X.w X.K X.mg X.base CX k f fd ps sp)(hr:Room k X.A)(hb:Binds X.K fd ps ds)(hd:Vals dvs ds)(hx:Passes CX X E)
    (I:Inv X pins σ H s) (r:Vals vs us) (h:sp (vs++dvs) H Q E):wpAny (model X.prog X.w) X.A (call (.ref f) us) (EP X pins σ Q) X.xe s:=by
  have r2:Vals (vs++dvs) (us++ds):=r.append hd
  have hl:(us++ds).length=ps.length:=by rw [← r2.length];exact F.len _ _ _ _ h
  refine wpAny_call (codeAny_mono (F.run X.A X.stack s H ⟨us,[]⟩ (us++ds) (vs++dvs) Q E hr I.env0 (hb s us I.kIn hl) r2 h) fun r s' hq=>?_)
  cases r with
  | error e=>exact hx pins σ H s e s' I hq
  | ok fl=>
    cases fl with
    | ret u=>exact I.after hq
    | next=>exact False.elim hq
    | brk=>exact False.elim hq
    | cont=>exact False.elim hq
theorem pe_call (F:FnOk X.prog X.w X.K X.mg X.base CX k f fd ps sp)(hr:Room k X.A)(hg:Gl X x)(hm:X.mg x=some (.ref f))(hk:PySem.W.keepIn X.K (.ref f)=true)(hb:Binds X.K fd ps ds)(hd:Vals dvs ds)(hx:Passes CX X E)
    (ha:PA X (e::es) t) (hdb:(x==("__debug__":Str))=false:=by decide) (he:starEach (e::es) X.env=(false,eval e X.env)::starEach es X.env:=by rfl) (hpl:(backTo pos (starEach es X.env)).any (·.1)=false:=by rfl):
    PE X (.Call (.Name x p) (e::es) [] pos) (tCall sp dvs E t):=by
  intro pins s σ H Q I h
  refine wpAny_Call_Name_kw (ld_glob I hg hm ?_ hdb)
  refine PySem.W.callWith_K (h₀:=X.base) I.ok.mod.kin hk (thn (ha pos pins s σ H _ I h) fun us s1 ⟨vs,H1,I1,r,q⟩=>⟨I1.kIn,?_⟩) he hpl
  exact run_fn F hr hb hd hx I1 r q
structure Mk (K:PySem.W.Frag)(C f:Addr):Prop where
  makes:PySem.W.makesIn K C=true
  init:PySem.W.findIn K (.ref C) "__init__"=some (some (.ref f))
  fn:PySem.W.isFn K (.ref f)=true
  kp:PySem.W.keepIn K (.ref C)=true
end
def PK (X:Cx)(kws:List Keyword)(t:TA):Prop:=
  ∀ (pos:Pos) (pins:List (Addr×Obj)) (s:Shared) (σ:St) (H:Hp) (Q:List V→Hp→Prop),Inv X pins σ H s→t σ H Q→wpAny (model X.prog X.w) X.A (evalAll ((backToKw pos (keywordEach kws X.env)).map (·.2))) (AP X pins σ Q) X.xe s
section
variable {X:Cx}{CX:CXT}{k:Nat}{f C:Addr}{fd:FuncData}{ps ks:List Str}{sp:Sp}{E:XK}{x m:Str}{p pos apos kpos:Pos}{e o:Expr}{es:List Expr}{kws:List Keyword}{te ta:TE}{t tk:TA}{nm:Option Str}
structure KBinds (K:PySem.W.Frag)(fd:FuncData)(ps ks:List Str)(g:List Value→List Value→List Value)(gV:List V→List V→List V):Prop where
  to:∀ (s:Shared) (us ws:List Value),K.In s.heap→(g us ws).length=ps.length→BindsTo s fd ⟨us,ks.zip ws⟩ (ps.zip (g us ws))
  rel:∀ {vs:List V} {us:List Value} {zs:List V} {ws:List Value},Vals vs us→Vals zs ws→Vals (gV vs zs) (g us ws)
def tCallK (sp:Sp)(gV:List V→List V→List V)(E:XK)(t tk:TA):TE:=fun σ H Q=>t σ H fun vs H1=>tk σ H1 fun zs H2=>sp (gV vs zs) H2 Q E
variable {g:List Value→List Value→List Value}{gV:List V→List V→List V}
end
structure FnScope (N P:List Str)(sc:Scope):Prop where
  kind:sc.kind=.function
  co:sc.isCoroutine=false
  gen:sc.isGenerator=false
  nd:N.Nodup
  pre:N.take P.length=P
  par:∀ x∈P,sc.names.lookup x=some .local∨sc.names.lookup x=some .cell
  nofree:∀ y∈sc.names,y.2≠.free
theorem bindL_out {kindOf:Str→Option NameKind}{x:Str}:∀ {binds:List (Str×Value)} {m:Str→Option Value},(∀ v,(x,v)∉binds)→bindL kindOf binds m x=m x
  | [],_,_=>rfl
  | (n,v)::r,m,h=>by
    unfold bindL
    rw [bindL_out fun w hw=>h w (List.mem_cons_of_mem _ hw)]
    split
    · have:x≠n:=by rintro rfl;exact h v List.mem_cons_self
      simp [this]
    · rfl
theorem bindC_out {kindOf:Str→Option NameKind}{x:Str}:∀ {binds:List (Str×Value)} {m:Str→Option Value},(∀ v,(x,v)∉binds)→bindC kindOf binds m x=m x
  | [],_,_=>rfl
  | (n,v)::r,m,h=>by
    unfold bindC
    rw [bindC_out fun w hw=>h w (List.mem_cons_of_mem _ hw)]
    split
    · rfl
    · have:x≠n:=by rintro rfl;exact h v List.mem_cons_self
      simp [this]
theorem bindL_get {kindOf:Str→Option NameKind}{x:Str}{v:Value}:∀ {P:List Str} {vs:List Value} {i:Nat} {m:Str→Option Value},P.Nodup→P[i]?=some x→vs[i]?=some v→kindOf x=some .local→
    bindL kindOf (P.zip vs) m x=some v
  | [],_,_,_,_,h,_,_=>by simp at h
  | _::_,[],_,_,_,_,h,_=>by simp at h
  | p::P,w::vs,0,m,nd,h1,h2,hk=>by
    simp at h1 h2;subst h1;subst h2
    show bindL kindOf ((p,w)::P.zip vs) m p=_
    unfold bindL
    rw [bindL_out fun v hv=>(List.nodup_cons.mp nd).1 (List.of_mem_zip hv).1,if_pos hk]
    simp
  | p::P,w::vs,i+1,m,nd,h1,h2,hk=>by
    show bindL kindOf ((p,w)::P.zip vs) m x=_
    unfold bindL
    exact bindL_get (i:=i) (List.nodup_cons.mp nd).2 (by simpa using h1) (by simpa using h2) hk
theorem bindC_get {kindOf:Str→Option NameKind}{x:Str}{v:Value}:∀ {P:List Str} {vs:List Value} {i:Nat} {m:Str→Option Value},P.Nodup→P[i]?=some x→vs[i]?=some v→kindOf x≠some .local→
    bindC kindOf (P.zip vs) m x=some v
  | [],_,_,_,_,h,_,_=>by simp at h
  | _::_,[],_,_,_,_,h,_=>by simp at h
  | p::P,w::vs,0,m,nd,h1,h2,hk=>by
    simp at h1 h2;subst h1;subst h2
    show bindC kindOf ((p,w)::P.zip vs) m p=_
    unfold bindC
    rw [bindC_out fun v hv=>(List.nodup_cons.mp nd).1 (List.of_mem_zip hv).1,if_neg hk]
    simp
  | p::P,w::vs,i+1,m,nd,h1,h2,hk=>by
    show bindC kindOf ((p,w)::P.zip vs) m x=_
    unfold bindC
    exact bindC_get (i:=i) (List.nodup_cons.mp nd).2 (by simpa using h1) (by simpa using h2) hk
def start (N:List Str)(vs:List V):St:=vs.map some++List.replicate (N.length-vs.length) none
def cxOf (CX:CXT)(P:Program)(w:World)(K:PySem.W.Frag)(mg:Str→Option Value)(base:Heap)(N:List Str)(qual:Str)(scope:Scope)(f:Addr)(cd:Value)(A:Around)(outer:List Env)(s:Shared)(H:Hp)(E:XK):Cx where
  prog:=P
  w:=w
  K:=K
  mg:=mg
  base:=base
  A:=A.deeper (envOfC qual scope s.heap.objs.size f cd)
  N:=N
  s₀:=s
  H₀:=H
  env:=envOfC qual scope s.heap.objs.size f cd
  outer:=outer
  stack:=envOfC qual scope s.heap.objs.size f cd::outer
  ex:=[]
  calm:=true
  fn:=fun _=>true
  pn:=[]
  xe:=fun e s'=>wpAny (model P w) (A.deeper (envOfC qual scope s.heap.objs.size f cd)) (leaving (envOfC qual scope s.heap.objs.size f cd) e) (fun _ s''=>CX outer H s E e s'') (fun e' s''=>CX outer H s E e' s'') s'
theorem cell_has {sc:Scope}{n:Nat}{x:Str}(h:sc.names.lookup x=some .cell):∃ c,(cellsFrom n sc.names []).lookup x=some c:=by
  have q:=PySem.W.cellsFrom_some sc.names n [] (.inl h)
  exact Option.isSome_iff_exists.mp q
theorem inv_start {CX:CXT}{P:Program}{w:World}{K:PySem.W.Frag}{mg:Str→Option Value}{base:Heap}{N ps:List Str}{qual:Str}{scope:Scope}{f:Addr}{cd:Value}{A:Around}{outer:List Env}{s s1:Shared}{H:Hp}{E:XK}{us:List Value}{vs:List V}
    (S:FnScope N ps scope) (hd:A.handled=none) (e0:Env0 P w K mg base A outer s H) (hl:vs.length=ps.length) (r:Vals vs us)
    (x:InCallC s s.heap.objs.size (bindL (envOfC qual scope s.heap.objs.size f cd).kindOf (ps.zip us) fun _=>none) (cellsFrom (s.heap.objs.size+1) scope.names []) (bindC (envOfC qual scope s.heap.objs.size f cd).kindOf (ps.zip us) fun _=>none) s1):
    Inv (cxOf CX P w K mg base N qual scope f cd A outer s H E) [] (start N vs) H s1:=by
  have hpl:ps.length≤N.length:=by have:=congrArg List.length S.pre;rw [List.length_take] at this;omega
  obtain ⟨h1,tk,rfl,hk⟩:=x.done
  have noA:∀ b:Addr,b∉(cxOf CX P w K mg base N qual scope f cd A outer s H E).ex:=fun b z=>absurd (show b∈([]:List Addr) from z) (by simp)
  refine ⟨⟨e0.mod,S.kind,rfl,rfl,Nat.le_refl _,fun y z c h1 h2=>?_,fun y hy=>?_,fun y c _ h=>?_,fun _=>hd,Around.frames_deeper e0.frames,.inr ⟨rfl,rfl⟩,fun b z=>absurd z (noA b),e0.bs,e0.bsz,fun b _ _=>noA b,fun b z=>absurd z (noA b),e0.funs,e0.frf⟩,
    rfl,e0.bare,Un.kept hk,⟨_,x.toInCall.ns,fun i y v h1 h2 h3=>?_⟩,fun y c h=>⟨_,x.cell y c h⟩,e0.hok.fresh (Nat.le_refl _),fun y c h=>?_,fun p hp=>absurd (show p∈([]:List (Addr×Obj)) from hp) (by simp),e0.hok.kept hk,?_⟩
  · exact name_of_addr x.apart (PySem.mem_of_lookup h1) (PySem.mem_of_lookup h2)
  · have hy:scope.names.lookup y=some .cell∨scope.names.lookup y=some .free:=hy
    rcases hy with hy | hy
    · exact cell_has hy
    · exact absurd rfl (S.nofree _ (PySem.mem_of_lookup hy))
  · exact Nat.le_of_lt (x.above y c (PySem.mem_of_lookup h))
  · have hi:i<vs.length:=by
      unfold start at h2
      by_cases hi:i<vs.length
      · exact hi
      · rw [List.getElem?_append_right (by simpa using hi)] at h2
        rw [List.getElem?_replicate] at h2
        split at h2 <;> cases h2
    have ha:vs[i]?=some v:=by
      unfold start at h2
      rw [List.getElem?_append_left (by simpa using hi),List.getElem?_map] at h2
      cases e:vs[i]? with
      | none=>rw [e] at h2;cases h2
      | some a=>rw [e] at h2;cases h2;rfl
    obtain ⟨u,hu,rv⟩:=r.get ha
    have hp:ps[i]?=some y:=by
      rw [← S.pre,List.getElem?_take_of_lt (by omega)];exact h1
    have ndP:ps.Nodup:=by rw [← S.pre];exact S.nd.sublist (List.take_sublist _ _)
    refine ⟨u,rv,?_⟩
    rcases S.par y (List.mem_of_getElem? hp) with k | k
    · exact .inl ⟨k,bindL_get ndP hp hu k⟩
    · obtain ⟨c,e⟩:=cell_has (n:=s.heap.objs.size+1) k
      refine .inr ⟨.inl k,c,e,?_⟩
      have q:=x.cell y c e
      rw [bindC_get ndP hp hu (by show scope.names.lookup y≠_;rw [k];decide)] at q
      exact q
  · exact e0.hok.fresh (Nat.le_of_lt (x.above y c (PySem.mem_of_lookup h)))
  · unfold start
    show _=N.length
    rw [List.length_append,List.length_map,List.length_replicate]
    omega
theorem fn_of {CX:CXT}{P:Program}{w:World}{K:PySem.W.Frag}{mg:Str→Option Value}{base:Heap}{k:Nat}{f:Addr}{name qual:Str}{params:Arguments}{body:List Stmt}{scope:Scope}{dV kV doc pm cdv ct oc:Value}{an od:Option Addr}
    {osl:Array (Option Value)} {N ps:List Str} {sp:Sp} (lk:K.lookup f=some ⟨oc,od,.func (PySem.W.fnOf name qual params body scope dV kV doc pm an cdv ct),osl⟩) (hcd:PySem.W.codeIn K cdv qual=true) (S:FnScope N ps scope)
    (len:∀ vs H Q E,sp vs H Q E→vs.length=ps.length)
    (hbody:∀ (A:Around) (outer:List Env) (s:Shared) (H:Hp) (vs:List V) (Q:VK) (E:XK),Room k (A.deeper (envOfC qual scope s.heap.objs.size f cdv))→sp vs H Q E→
      ∃ t,PSs (cxOf CX P w K mg base N qual scope f cdv A outer s H E) body t∧t { nx:=fun _ H'=>Q .non H',rt:=Q } (start N vs) H):
    FnOk P w K mg base CX (k+1) f (PySem.W.fnOf name qual params body scope dV kV doc pm an cdv ct) ps sp:=by
  refine ⟨len,fun A outer s H args us vs Q E hr e0 hb r hsp=>?_⟩
  have hl:=len _ _ _ _ hsp
  have KX:K.In s.heap:=e0.mod.kin.keeps fun b o e=>(e0.bs b o e).1
  have lim:s.heap.NoLimit:=e0.mod.nolimit.keeps fun b o e=>(e0.bs b o e).1
  have hkind:∀ y∈ps.zip us,scope.names.lookup y.1=some .local∨(scope.names.lookup y.1=some .cell∧((cellsFrom (s.heap.objs.size+1) scope.names []).lookup y.1).isSome=true):=fun ⟨n,v⟩ hy=>by
    rcases S.par n (List.of_mem_zip hy).1 with q | q
    · exact .inl q
    · exact .inr ⟨q,PySem.W.cellsFrom_some _ _ _ (.inl q)⟩
  refine codeAny_call_function hr.depth (KX _ _ lk) rfl S.co S.gen rfl (PySem.W.codeRec_of KX hcd) (hb _ _ _ _ ?_)
  refine wpAny_newFunctionEnv_cells S.kind hkind fun env he s1 x=>?_
  subst he
  refine ⟨lim.keeps x.toInCall.keep,codeAny_func ?_⟩
  obtain ⟨t,ht,hq⟩:=hbody A outer s H vs Q E (hr.deeper _) hsp
  have I:Inv (cxOf CX P w K mg base N qual scope f cdv A outer s H E) [] (start N vs) H s1:=inv_start S hr.hd e0 hl r x
  refine wpAny_mono (ht [] s1 (start N vs) H _ I hq) (fun fl s' hs=>?_) fun e s' hs=>hs
  have fin:∀ {σ':St} {H':Hp} {v:V} {u:Value},Inv (cxOf CX P w K mg base N qual scope f cdv A outer s H E) [] σ' H' s'→RelV v u→Q v H'→CE outer P w H s Q u s':=
    fun {σ' H' v u} J rv q=>⟨v,H',J.os,J.bare,J.base,J.hok,rv,q⟩
  cases fl with
  | ret u=>
    obtain ⟨v,σ',H',J,rv,q⟩:=hs
    exact fin J rv q
  | next=>
    obtain ⟨σ',H',J,q⟩:=hs
    exact fin (v:=V.non) (u:=Value.none) J rfl q
  | brk=>
    obtain ⟨_,_,_,q⟩:=hs
    exact False.elim q
  | cont=>
    obtain ⟨_,_,_,q⟩:=hs
    exact False.elim q
end L2
namespace L2
open PySem PySem.Spec PyProof.Rows
section
variable {X:Cx}{x:Str}{p pos:Pos}{e:Expr}{es:List Expr}{t:TA}{id T:String}{r:List V→Hp→VK→Prop}
def tCB (r:List V→Hp→VK→Prop)(t:TA):TE:=fun σ H Q=>t σ H fun vs H1=>r vs H1 Q
theorem pe_callB (hc:CallR X (.builtin id) r)(hg:Gl X x)(hm:X.mg x=none)(hv:bootBuiltins x=some (.builtin id))(ha:PA X (e::es) t)(hn:x≠"__name__":=by decide)(hdb:(x==("__debug__":Str))=false:=by decide)
    (he:starEach (e::es) X.env=(false,eval e X.env)::starEach es X.env:=by rfl) (hpl:(backTo pos (starEach es X.env)).any (·.1)=false:=by rfl):PE X (.Call (.Name x p) (e::es) [] pos) (tCB r t):=by
  intro pins s σ H Q I h
  refine wpAny_Call_Name_kw (ld_blt I hg hm hv ?_ hn hdb)
  exact PyProof.Rows.callWith_builtin1 (thn (ha pos pins s σ H _ I h) fun us s1 ⟨vs,H1,I1,r1,q1⟩=>hc pins s1 σ H1 vs us Q I1 r1 q1) he hpl
theorem pe_callTy (hc:CallR X (.type T) r)(hg:Gl X x)(hm:X.mg x=none)(hv:bootBuiltins x=some (.type T))(ha:PA X (e::es) t)(hn:x≠"__name__":=by decide)(hdb:(x==("__debug__":Str))=false:=by decide)
    (he:starEach (e::es) X.env=(false,eval e X.env)::starEach es X.env:=by rfl) (hpl:(backTo pos (starEach es X.env)).any (·.1)=false:=by rfl):PE X (.Call (.Name x p) (e::es) [] pos) (tCB r t):=by
  intro pins s σ H Q I h
  refine wpAny_Call_Name_kw (ld_blt I hg hm hv ?_ hn hdb)
  exact PyProof.Rows.callWith_type1 (thn (ha pos pins s σ H _ I h) fun us s1 ⟨vs,H1,I1,r1,q1⟩=>hc pins s1 σ H1 vs us Q I1 r1 q1) he hpl
end
end L2
namespace HT
open PySem PyProof.Rows
def lexLt:List Int→List Int→Bool
  | [],[]=>false
  | [],_::_=>true
  | _::_,[]=>false
  | x::xs,y::ys=>if x=y then lexLt xs ys else decide (x<y)
section
open PySem.SeqAt
open PySem.AutoSeq1 (wpAny_loadPart')
open PySem.MeetsSeq PySem.MeetsSeq2 PySem.MeetsSeq3
end
section
variable {prog:Program}{w:World}{A:Around}{E:Value→Shared→Prop}{s:Shared}
def sIx (n d:Nat):Option Int→Nat
  | none=>d
  | some v=>if v<0 then (v+(n:Int)).toNat else min v.toNat n
end
end HT
namespace L2
open PySem PySem.Spec PyProof.Rows
abbrev TO:=St→Hp→(Option Int→Hp→Prop)→Prop
def PO (X:Cx)(e:Option Expr)(t:TO):Prop:=
  ∀ (pins:List (Addr×Obj)) (s:Shared) (σ:St) (H:Hp) (Q:Option Int→Hp→Prop),Inv X pins σ H s→t σ H Q→
    wpAny (model X.prog X.w) X.A (evalPart e X.env) (fun u s'=>∃ o H',Inv X pins σ H' s'∧IsPart u o∧Q o H') X.xe s
def tNoPart:TO:=fun _ H Q=>Q none H
def tPart (t:TE):TO:=fun σ H Q=>t σ H fun x H1=>∃ i,x=.int i∧Q (some i) H1
section
variable {X:Cx}{e:Expr}{te:TE}{lo hi:Option Expr}{tl th:TO}{pos p2:Pos}
theorem po_none:PO X none tNoPart:=by
  intro pins s σ H Q I h
  rw [evalPart_none]
  exact wpAny_pure ⟨none,H,I,.none,h⟩
theorem po_some (h:PE X e te):PO X (some e) (tPart te):=by
  intro pins s σ H Q I hw
  rw [evalPart_some]
  refine thn (h pins s σ H _ I hw) fun u s1 ⟨x,H1,I1,r1,q1⟩=>?_
  obtain ⟨i,rfl,q⟩:=q1
  obtain ⟨t,rfl⟩:=r1
  exact ⟨some i,H1,I1,.int i t,q⟩
def SlR (X:Cx)(r:V→Option Int→Option Int→Hp→VK→Prop):Prop:=
  ∀ (pins:List (Addr×Obj)) (s:Shared) (σ:St) (H:Hp) (x:V) (v vl vu:Value) (lo hi:Option Int) (sl:Addr) (Q:VK),Inv X pins σ H s→RelV x v→s.heap.IsSliceOf sl vl vu .none→IsPart vl lo→IsPart vu hi→r x lo hi H Q→
    ∃ T id,typeLookup (.type T) "__getitem__"=pure (some (.builtin id))∧s.TypeIs v T∧wpAny (model X.prog X.w) X.A (getItem v (.ref sl)) (EP X pins σ Q) X.xe s
theorem SlR.or {r r':V→Option Int→Option Int→Hp→VK→Prop}(h:SlR X r)(h':SlR X r'):SlR X (fun x lo hi H Q=>r x lo hi H Q∨r' x lo hi H Q):=by
  intro pins s σ H x v vl vu lo hi sl Q I rx hs pl pu q
  rcases q with q | q
  · exact h pins s σ H x v vl vu lo hi sl Q I rx hs pl pu q
  · exact h' pins s σ H x v vl vu lo hi sl Q I rx hs pl pu q
def tSl (r:V→Option Int→Option Int→Hp→VK→Prop)(te:TE)(tl th:TO):TE:=fun σ H Q=>te σ H fun x H1=>tl σ H1 fun l H2=>th σ H2 fun u H3=>r x l u H3 Q
theorem pe_slice {r:V→Option Int→Option Int→Hp→VK→Prop}(hr:SlR X r)(he:PE X e te)(hl:PO X lo tl)(hu:PO X hi th):PE X (.Subscript e (.Slice lo hi none p2) pos) (tSl r te tl th):=by
  intro pins s σ H Q I h
  refine Subscript_ (thn (he pins s σ H _ I h) fun v s1 ⟨x,H1,I1,r1,q1⟩=>?_)
  refine wpAny_Slice (thn (hl pins s1 σ H1 _ I1 q1) fun vl s2 ⟨l,H2,I2,pl,q2⟩=>thn (hu pins s2 σ H2 _ I2 q2) fun vu s3 ⟨u,H3,I3,pu,q3⟩=>?_)
  rw [evalPart_none]
  refine wpAny_pure ?_
  have I4:Inv X pins σ H3 { s3 with heap:=s3.heap.push { cls:=.type "slice",data:=.fields #[vl,vu,.none] } }:=I3.kept (t':=s3.toks) fun b ob q=>Heap.get?_push_of_some _ q
  obtain ⟨T,id,hT,ht,hg⟩:=hr pins { s3 with heap:=s3.heap.push { cls:=.type "slice",data:=.fields #[vl,vu,.none] } } σ H3 x v vl vu l u s3.heap.objs.size Q I4 r1 (Heap.IsSliceOf.new ..) pl pu q3
  show wpAny (model X.prog X.w) X.A (subscriptTail e (.Slice lo hi none p2) v (.ref s3.heap.objs.size)) (EP X pins σ Q) X.xe { s3 with heap:=s3.heap.push { cls:=.type "slice",data:=.fields #[vl,vu,.none] } }
  exact tail_any (ops:=[.ref s3.heap.objs.size,v]) ht hT hg (by with_unfolding_all rfl)
def cutV (xs:List V)(lo hi:Option Int):List V:=(xs.drop (HT.sIx xs.length 0 lo)).take (HT.sIx xs.length xs.length hi-HT.sIx xs.length 0 lo)
theorem cutV_length (xs:List V)(lo hi:Option Int):(cutV xs lo hi).length≤xs.length:=by
  unfold cutV
  rw [List.length_take,List.length_drop]
  omega
def rSlT (K:PySem.W.Frag):V→Option Int→Option Int→Hp→VK→Prop:=fun x lo hi H Q=>∃ a xs,x=.ref a∧SqT K H a xs∧
  ¬ (HT.sIx xs.length 0 lo=0∧HT.sIx xs.length xs.length hi=xs.length)∧∀ p,H p=none→Q (.ref p) (upd H p (.tup (cutV xs lo hi)))
def rLtT (K:PySem.W.Frag):R2:=fun x y H Q=>∃ a b ns ms,x=.ref a∧y=.ref b∧SqT K H a (ns.map V.int)∧SqT K H b (ms.map V.int)∧Q (.bl (HT.lexLt ns ms)) H
def rCatT (K:PySem.W.Frag):R2:=fun x y H Q=>∃ a b xs ys,x=.ref a∧y=.ref b∧SqT K H a xs∧SqT K H b ys∧xs≠[]∧xs.length+ys.length≤sizeLine∧
  (ys=[]→Q (.ref a) H)∧(ys≠[]→∀ p,H p=none→Q (.ref p) (upd H p (.tup (xs++ys))))
end
end L2
namespace L2
open PySem PySem.Spec PyProof.Rows
def ixN (n:Nat)(i:Int):Option Nat:=if 0≤i then (if i<n then some i.toNat else none) else if -(n:Int)≤i then some (i+n).toNat else none
def atI {α:Type}(xs:List α)(i:Int):Option α:=(ixN xs.length i).bind fun j=>xs[j]?
theorem ixN_seq {n:Nat}{i:Int}{j:Nat}(h:ixN n i=some j):seqIndex? i n=some j∧j<n∧-(n:Int)≤i∧i<n:=by
  unfold ixN at h
  by_cases h0:0≤i
  · rw [if_pos h0] at h
    by_cases h1:i<n
    · rw [if_pos h1] at h
      have e:i.toNat=j:=Option.some.inj h
      exact ⟨by rw [seqIndex_of h0 h1,e],by omega,by omega,h1⟩
    · rw [if_neg h1] at h;cases h
  · rw [if_neg h0] at h
    by_cases h1:-(n:Int)≤i
    · rw [if_pos h1] at h
      have e:(i+n).toNat=j:=Option.some.inj h
      exact ⟨by rw [seqIndex_neg (by omega) h1,e],by omega,h1,by omega⟩
    · rw [if_neg h1] at h;cases h
theorem atI_get {α:Type}{xs:List α}{i:Int}{v:α}(h:atI xs i=some v):∃ j,seqIndex? i xs.length=some j∧xs[j]?=some v∧j<xs.length∧-(xs.length:Int)≤i∧i<xs.length:=by
  unfold atI at h
  cases e:ixN xs.length i with
  | none=>rw [e] at h;cases h
  | some j=>
    rw [e] at h
    obtain ⟨h1,h2,h3,h4⟩:=ixN_seq e
    exact ⟨j,h1,h,h2,h3,h4⟩
theorem atI_nat {α:Type}{xs:List α}{j:Nat}{v:α}(h:xs[j]?=some v):atI xs (j:Int)=some v:=by
  have hj:j<xs.length:=(List.getElem?_eq_some_iff.mp h).1
  have e:ixN xs.length (j:Int)=some j:=by
    unfold ixN
    rw [if_pos (by omega),if_pos (by omega)];simp
  unfold atI;rw [e];exact h
def PlainIx (b:Expr):Prop:=∀ o i,subscripted b false o i=operate [o,i] (getItem o i)
def IxR (X:Cx)(r:R2):Prop:=
  ∀ (value slice:Expr) (pins:List (Addr×Obj)) (s:Shared) (σ:St) (H:Hp) (x y:V) (v u:Value) (Q:VK),Inv X pins σ H s→RelV x v→RelV y u→r x y H Q→
    subscripted slice false v u=operate [v,u] (getItem v u)→wpAny (model X.prog X.w) X.A (subscriptTail value slice v u) (EP X pins σ Q) X.xe s
def MtR (X:Cx)(id:String)(r:V→List V→Hp→VK→Prop):Prop:=
  ∀ (pins:List (Addr×Obj)) (s:Shared) (σ:St) (H:Hp) (x:V) (xs:List V) (v:Value) (us:List Value) (Q:VK),Inv X pins σ H s→RelV x v→Vals xs us→r x xs H Q→
    wpAny (model X.prog X.w) X.A (call (.builtin id) (v::us)) (EP X pins σ Q) X.xe s
section
variable {X:Cx}{a b:Expr}{ta tb:TE}{pos:Pos}
theorem IxR.or {r r':R2}(h:IxR X r)(h':IxR X r'):IxR X (fun x y H Q=>r x y H Q∨r' x y H Q):=by
  intro value slice pins s σ H x y v u Q I rx ry q hs
  rcases q with q | q
  · exact h value slice pins s σ H x y v u Q I rx ry q hs
  · exact h' value slice pins s σ H x y v u Q I rx ry q hs
theorem MtR.or {id:String}{r r':V→List V→Hp→VK→Prop}(h:MtR X id r)(h':MtR X id r'):MtR X id (fun x xs H Q=>r x xs H Q∨r' x xs H Q):=by
  intro pins s σ H x xs v us Q I rx rs q
  rcases q with q | q
  · exact h pins s σ H x xs v us Q I rx rs q
  · exact h' pins s σ H x xs v us Q I rx rs q
theorem pe_ix {r:R2}(hr:IxR X r)(ha:PE X a ta)(hb:PE X b tb)(hs:PlainIx b):PE X (.Subscript a b pos) (tOp r ta tb):=by
  intro pins s σ H Q I h
  exact Subscript_ (binT ha hb I h fun v u s2 x y H2 I2 rx ry q=>hr a b pins s2 σ H2 x y v u Q I2 rx ry q (hs _ _))
def rIxL (K:PySem.W.Frag):R2:=fun x y H Q=>∃ p xs i v,x=.ref p∧y=.int i∧SqL K H p xs∧atI xs i=some v∧Q v H
def rIxT (K:PySem.W.Frag):R2:=fun x y H Q=>∃ p xs i v,x=.ref p∧y=.int i∧SqT K H p xs∧atI xs i=some v∧Q v H
def rIxS:R2:=fun x y H Q=>∃ z i c,x=.str z∧y=.int i∧z.length≤sizeLine∧atI z.cps.toList i=some c∧Q (.str ⟨#[c]⟩) H
theorem ix_list:IxR X (rIxL X.K):=by
  intro value slice pins s σ H x y v u Q I rx ry h hs
  obtain ⟨p,xs,i,z,rfl,rfl,hq,he,q⟩:=h
  cases rx
  obtain ⟨t,rfl⟩:=ry
  obtain ⟨its,r,pl,hz⟩:=I.list hq
  obtain ⟨j,h1,h2,h3,h4,h5⟩:=atI_get he
  obtain ⟨w,ew,rw'⟩:=r.get h2
  have hl:=r.length
  have hn:=line63
  have fin:EP X pins σ Q w s:=⟨z,H,I,rw',q⟩
  by_cases h0:0≤i
  · have hj:i.toNat=j:=by
      rw [seqIndex_of h0 h5] at h1
      exact Option.some.inj h1
    exact item_listR pl.isList h0 (by omega) (by rw [hj];simpa using ew) fin hs
  · have hj:(i+(its.toArray.size:Int)).toNat=j:=by
      rw [seqIndex_neg (by omega) h4] at h1
      rw [List.size_toArray,← hl]
      exact Option.some.inj h1
    exact subscriptTail_builtinR (x:=w) pl.isList.typeIs slot_list_getitem.lookup
      (wpAny_getItem_list_neg (Q:=fun r s'=>r=w∧EP X pins σ Q r s') pl.isList (by omega) (by rw [List.size_toArray] <;> omega) (by omega) (by rw [hj];simpa using ew) ⟨rfl,fin⟩) hs
theorem ix_tup:IxR X (rIxT X.K):=by
  intro value slice pins s σ H x y v u Q I rx ry h hs
  obtain ⟨p,xs,i,z,rfl,rfl,hq,he,q⟩:=h
  cases rx
  obtain ⟨t,rfl⟩:=ry
  obtain ⟨its,r,pl,hz⟩:=I.tuple hq
  obtain ⟨j,h1,h2,h3,h4,h5⟩:=atI_get he
  obtain ⟨w,ew,rw'⟩:=r.get h2
  have hl:=r.length
  have hn:=line63
  have fin:EP X pins σ Q w s:=⟨z,H,I,rw',q⟩
  exact subscriptTail_builtinR (x:=w) pl.typeIs slot_tuple_getitem.lookup
    (getItem_tuple (j:=j) (Q:=fun r s'=>r=w∧EP X pins σ Q r s') pl (by omega) (by omega) (by rw [List.size_toArray,← hl];exact h1) (by simpa using ew) ⟨rfl,fin⟩) hs
def rIx (K:PySem.W.Frag):R2:=fun x y H Q=>rIxL K x y H Q∨rIxT K x y H Q∨rIxS x y H Q
theorem mapSeq_set (its:List Value)(n j:Nat)(u:Value):Obj.mapSeq (·.setIfInBounds j u) { cls:=.type "list",data:=.seq its.toArray n }={ cls:=.type "list",data:=.seq (its.set j u).toArray n }:=by
  simp [Obj.mapSeq]
theorem Inv.lst {pins:List (Addr×Obj)}{σ:St}{H:Hp}{s:Shared}{p:Addr}{xs:List V}(I:Inv X pins σ H s)(h:H p=some (.lst xs)):
    ∃ (its:List Value) (n:Nat),Vals xs its∧s.heap.get? p=some { cls:=.type "list",data:=.seq its.toArray n }∧xs.length≤sizeLine:=by
  obtain ⟨z,its,n,r,e⟩:=I.hok p _ h
  exact ⟨its,n,r,e,z⟩
theorem Inv.lstUpd {pins:List (Addr×Obj)}{σ:St}{H:Hp}{s:Shared}{p:Addr}{xs ys:List V}{its its':List Value}{n n':Nat}{f:Obj→Obj}(I:Inv X pins σ H s)(h:H p=some (.lst xs))
    (ho:s.heap.get? p=some { cls:=.type "list",data:=.seq its.toArray n }) (hf:f { cls:=.type "list",data:=.seq its.toArray n }={ cls:=.type "list",data:=.seq its'.toArray n' }) (r:Vals ys its') (hz:ys.length≤sizeLine) (t:Nat):
    Inv X pins σ (upd H p (.lst ys)) { s with heap:=s.heap.update p f,toks:=t }:=by
  have e:(s.heap.update p f).get? p=some { cls:=.type "list",data:=.seq its'.toArray n' }:=by
    rw [Heap.get?_update_self f ho (by rw [hf] <;> rfl),hf]
  refine I.write (x:=p) (e:=p) (by rw [h];trivial) (.inl rfl) (fun b u hb q=>(Heap.get?_update_other _ _ (Ne.symm hb)).trans q) ⟨_,e⟩ ?_
  exact ⟨hz,its',n',r,e⟩
def rSetL:V→V→V→Hp→(Hp→Prop)→Prop:=fun o i v H Q=>∃ p xs k j,o=.ref p∧i=.int k∧H p=some (.lst xs)∧ixN xs.length k=some j∧Q (upd H p (.lst (xs.set j v)))
theorem set_list:PSet X rSetL:=by
  intro pins s σ H o i v ov iv u Q I ro ri rv h
  obtain ⟨p,xs,k,j,rfl,rfl,hp,hj,q⟩:=h
  cases ro
  obtain ⟨t,rfl⟩:=ri
  obtain ⟨its,n,r,ho,hz⟩:=I.lst hp
  obtain ⟨h1,h2,h3,h4⟩:=ixN_seq hj
  have hl:=r.length
  have hn:=line63
  have I':Inv X pins σ (upd H p (.lst (xs.set j v))) { s with heap:=s.heap.update p (Obj.mapSeq (·.setIfInBounds j u)) }:=
    I.lstUpd hp ho (mapSeq_set its n j u) (r.set rv j) (by rw [List.length_set];exact hz) s.toks
  by_cases h0:0≤k
  · have hk:k.toNat=j:=by
      rw [seqIndex_of h0 h4] at h1
      exact Option.some.inj h1
    exact PySem.W.ki_setAt ho h0 (by omega) (by rw [List.size_toArray,← hl];exact h4) (by rw [hk];exact ⟨_,I',q⟩)
  · have hk:(k+(its.toArray.size:Int)).toNat=j:=by
      rw [seqIndex_neg (by omega) h3] at h1
      rw [List.size_toArray,← hl]
      exact Option.some.inj h1
    exact PySem.W.ki_setBack ho (by omega) (by rw [List.size_toArray,← hl];exact h3) (by omega) (by rw [hk];exact ⟨_,I',q⟩)
theorem slice_bounds (lo hi:Option Int)(n:Nat):(sliceBounds lo hi none n).1=((HT.sIx n 0 lo:Nat):Int)∧(sliceBounds lo hi none n).2.1=((HT.sIx n n hi:Nat):Int)∧(sliceBounds lo hi none n).2.2=1:=by
  refine ⟨?_,?_,rfl⟩
  · cases lo with
    | none=>simp [sliceBounds,HT.sIx]
    | some i=>
      simp only [sliceBounds,HT.sIx,Option.getD_none,show (1:Int)>0 by decide,if_true]
      by_cases h:i<0
      · simp only [h,if_true] <;> omega
      · simp only [h,if_false] <;> omega
  · cases hi with
    | none=>simp [sliceBounds,HT.sIx]
    | some i=>
      simp only [sliceBounds,HT.sIx,Option.getD_none,show (1:Int)>0 by decide,if_true]
      by_cases h:i<0
      · simp only [h,if_true] <;> omega
      · simp only [h,if_false] <;> omega
theorem slicePick_cut (its:List Value)(lo hi:Option Int):slicePick its.toArray lo hi none=((its.drop (HT.sIx its.length 0 lo)).take (HT.sIx its.length its.length hi-HT.sIx its.length 0 lo)).toArray:=by
  obtain ⟨h1,h2,h3⟩:=slice_bounds lo hi its.toArray.size
  unfold slicePick
  rw [h1,h2,h3]
  simp only [sliceRange_one,pick_run,List.size_toArray] <;> rfl
def rSlL (K:PySem.W.Frag):V→Option Int→Option Int→Hp→VK→Prop:=fun x lo hi H Q=>∃ a xs,x=.ref a∧SqL K H a xs∧∀ p,H p=none→Q (.ref p) (upd H p (.lst (cutV xs lo hi)))
theorem sl_list:SlR X (rSlL X.K):=by
  intro pins s σ H x v vl vu lo hi sl Q I rx hs pl pu h
  obtain ⟨a,xs,rfl,hx,q⟩:=h
  cases rx
  obtain ⟨its,r,ht,hz⟩:=I.list hx
  have hlen:=r.length
  refine ⟨"list",_,slot_list_getitem.lookup,ht.isList.typeIs,?_⟩
  refine wpAny_getItem_list_slice ht.isList hs pl pu .none (by simp) ?_ (by rw [List.size_toArray] <;> omega)
  rw [slicePick_cut,← hlen]
  refine ⟨.ref s.heap.objs.size,_,I.laid (t':=s.toks) (o:=.lst (cutV xs lo hi)) (fun b ob q=>Heap.get?_push_of_some _ q) (Nat.le_refl _) ?_,rfl,q _ (I.hok.fresh (Nat.le_refl _))⟩
  exact ⟨Nat.le_trans (cutV_length xs lo hi) hz,_,0,(r.drop (HT.sIx xs.length 0 lo)).take (HT.sIx xs.length xs.length hi-HT.sIx xs.length 0 lo),Heap.get?_push_size _ rfl⟩
def flatV:V→Bool
  | .non=>true
  | .bl _=>true
  | .int _=>true
  | .str _=>true
  | _=>false
def eqV:V→V→Bool
  | .non,.non=>true
  | .bl a,.bl b=>a==b
  | .bl a,.int b=>(if a then 1 else 0)==b
  | .int a,.bl b=>a==(if b then 1 else 0)
  | .int a,.int b=>a==b
  | .str a,.str b=>a==b
  | _,_=>false
theorem eqAt_V {A:Around}{s:Shared}{y x:V}{u v:Value}(ry:RelV y u)(rx:RelV x v)(fy:flatV y=true)(fx:flatV x=true):SeqAt.EqAt A s u v (eqV y x):=by
  cases y with
  | non=>
    cases ry
    cases x with
    | non=>cases rx;exact SeqAt.EqAt.same _
    | bl b=>cases rx;exact SeqAt.EqAt.none_bool b
    | int b=>obtain ⟨t,rfl⟩:=rx;exact SeqAt.EqAt.none_int b t
    | str b=>obtain ⟨t,rfl⟩:=rx;exact SeqAt.EqAt.none_str b t
    | _=>exact absurd (show false=true from fx) Bool.false_ne_true
  | bl a=>
    cases ry
    cases x with
    | non=>cases rx;exact SeqAt.EqAt.bool_none a
    | bl b=>cases rx;exact SeqAt.EqAt.bool_bool a b
    | int b=>obtain ⟨t,rfl⟩:=rx;exact SeqAt.EqAt.bool_int a b t
    | str b=>obtain ⟨t,rfl⟩:=rx;exact SeqAt.EqAt.bool_str a b t
    | _=>exact absurd (show false=true from fx) Bool.false_ne_true
  | int a=>
    obtain ⟨t',rfl⟩:=ry
    cases x with
    | non=>cases rx;exact SeqAt.EqAt.int_none a t'
    | bl b=>cases rx;exact SeqAt.EqAt.int_bool a t' b
    | int b=>obtain ⟨t,rfl⟩:=rx;exact SeqAt.EqAt.int_int a t' b t
    | str b=>obtain ⟨t,rfl⟩:=rx;exact SeqAt.EqAt.int_str a t' b t
    | _=>exact absurd (show false=true from fx) Bool.false_ne_true
  | str a=>
    obtain ⟨t',rfl⟩:=ry
    cases x with
    | non=>cases rx;exact SeqAt.EqAt.str_none a t'
    | bl b=>cases rx;exact SeqAt.EqAt.str_bool a t' b
    | int b=>obtain ⟨t,rfl⟩:=rx;exact SeqAt.EqAt.str_int a t' b t
    | str b=>obtain ⟨t,rfl⟩:=rx;exact SeqAt.EqAt.str_str a t' b t
    | _=>exact absurd (show false=true from fx) Bool.false_ne_true
  | _=>exact absurd (show false=true from fy) Bool.false_ne_true
def eqU (x:V)(u:Value):Bool:=match u with
  | .none=>eqV .non x
  | .bool b=>eqV (.bl b) x
  | .int i _=>eqV (.int i) x
  | .str z _=>eqV (.str z) x
  | _=>false
theorem eqU_of {x y:V}{u:Value}(r:RelV y u)(f:flatV y=true):eqU x u=eqV y x:=by
  cases y with
  | non=>cases r;rfl
  | bl b=>cases r;rfl
  | int i=>obtain ⟨t,rfl⟩:=r;rfl
  | str z=>obtain ⟨t,rfl⟩:=r;rfl
  | _=>exact absurd (show false=true from f) Bool.false_ne_true
theorem any_eqU {x:V}:∀ {xs:List V} {us:List Value},Vals xs us→xs.all flatV=true→us.any (eqU x)=xs.any fun y=>eqV y x
  | _,_,.nil,_=>rfl
  | y::xs,u::us,.cons r t,f=>by
    rw [List.all_cons,Bool.and_eq_true] at f
    rw [List.any_cons,List.any_cons,eqU_of r f.1,any_eqU t f.2]
theorem mem_eqAt {A:Around}{s:Shared}{x:V}{v:Value}(rx:RelV x v)(fx:flatV x=true):∀ {xs:List V} {us:List Value},Vals xs us→xs.all flatV=true→∀ u∈us,SeqAt.EqAt A s u v (eqU x u)
  | _,_,.nil,_=>fun u hu=>by cases hu
  | y::xs,u::us,.cons r t,f=>fun u' hu=>by
    rw [List.all_cons,Bool.and_eq_true] at f
    rcases List.mem_cons.mp hu with rfl | hu
    · rw [eqU_of r f.1];exact eqAt_V r rx f.1 fx
    · exact mem_eqAt rx fx t f.2 u' hu
def inV (x:V)(xs:List V):Bool:=xs.any fun y=>eqV y x
def rIn (K:PySem.W.Frag)(neg:Bool):R2:=fun x y H Q=>∃ p xs,y=.ref p∧(SqL K H p xs∨SqT K H p xs)∧flatV x=true∧xs.all flatV=true∧Q (.bl (if neg then !inV x xs else inV x xs)) H
theorem op_in_seq:OpR X (compareOp .In) (rIn X.K false):=by
  intro pins s σ H x y v u Q I rx ry h
  obtain ⟨p,xs,rfl,hq,fx,fs,q⟩:=h
  cases ry
  rcases hq with hq | hq
  · obtain ⟨its,r,pl,hz⟩:=I.list hq
    refine SeqAt.in_listAt (eqU x) pl.isList (fun w hw=>mem_eqAt rx fx r fs w (by simpa using hw)) ⟨.bl _,H,I,rfl,?_⟩
    rw [show its.toArray.any (eqU x)=its.any (eqU x) by simp,any_eqU r fs]
    exact q
  · obtain ⟨its,r,pl,hz⟩:=I.tuple hq
    refine SeqAt.in_tupleAt (eqU x) pl (fun w hw=>mem_eqAt rx fx r fs w (by simpa using hw)) ⟨.bl _,H,I,rfl,?_⟩
    rw [show its.toArray.any (eqU x)=its.any (eqU x) by simp,any_eqU r fs]
    exact q
theorem call_len_seq:CallR X (.builtin "len") (fun xs H Q=>∃ p ys,xs=[.ref p]∧(SqL X.K H p ys∨SqT X.K H p ys)∧Q (.int ys.length) H):=by
  intro pins s σ H xs us Q I r h
  obtain ⟨p,ys,rfl,hq,q⟩:=h
  obtain ⟨u,rfl,rx⟩:=vals1 r
  cases rx
  have hn:=line63
  rcases hq with hq | hq
  · obtain ⟨its,r',pl,hz⟩:=I.list hq
    have hlen:=r'.length
    exact Calls.call_len_list pl.isList (by simp only [List.size_toArray] <;> omega) ⟨.int ys.length,H,I.tok _,⟨s.toks+1,by rw [List.size_toArray,hlen]⟩,q⟩
  · obtain ⟨its,r',pl,hz⟩:=I.tuple hq
    have hlen:=r'.length
    exact len_tuple pl (by simp only [List.size_toArray] <;> omega) ⟨.int ys.length,H,I.tok _,⟨s.toks+1,by rw [List.size_toArray,hlen]⟩,q⟩
theorem CallR.or {f:Value}{r r':List V→Hp→VK→Prop}(h:CallR X f r)(h':CallR X f r'):CallR X f (fun xs H Q=>r xs H Q∨r' xs H Q):=by
  intro pins s σ H xs us Q I rs q
  rcases q with q | q
  · exact h pins s σ H xs us Q I rs q
  · exact h' pins s σ H xs us Q I rs q
theorem call_list_of:CallR X (.type "list") (fun xs H Q=>∃ p ys,xs=[.ref p]∧(SqL X.K H p ys∨SqT X.K H p ys)∧∀ l,H l=none→Q (.ref l) (upd H l (.lst ys))):=by
  intro pins s σ H xs us Q I r h
  obtain ⟨p,ys,rfl,hq,q⟩:=h
  obtain ⟨u,rfl,rx⟩:=vals1 r
  cases rx
  have fin:∀ (its:List Value),Vals ys its→ys.length≤sizeLine→∀ (h':Heap) (c':Nat),(∀ b o',s.heap.get? b=some o'→h'.get? b=some o')→
      h'.get? s.heap.objs.size=some { cls:=.type "list",dict:=none,data:=.seq its.toArray c',slots:=#[] }→EP X pins σ Q (.ref s.heap.objs.size) { s with heap:=h' }:=fun its r' hz h' c' kp e=>
    ⟨.ref s.heap.objs.size,_,I.laid (t':=s.toks) kp (Nat.le_refl _) (show ObjOk X.prog X.w _ h' _ (.lst ys) from ⟨hz,its,c',r',e⟩),rfl,q _ (I.hok.fresh (Nat.le_refl _))⟩
  rcases hq with hq | hq
  · obtain ⟨its,r',pl,hz⟩:=I.list hq
    have hlen:=r'.length
    obtain ⟨o,ho,hc,n,hd⟩:=pl.isList
    exact call_list_seq p (.inl rfl) ho hc hd (fun h' c' kp e=>fin its r' hz h' c' kp e) (by simp only [List.size_toArray] <;> omega)
  · obtain ⟨its,r',pl,hz⟩:=I.tuple hq
    have hlen:=r'.length
    obtain ⟨o,ho,hc,n,hd⟩:=pl
    exact call_list_seq p (.inr rfl) ho hc hd (fun h' c' kp e=>fin its r' hz h' c' kp e) (by simp only [List.size_toArray] <;> omega)
theorem call_tuple_of:CallR X (.type "tuple") (fun xs H Q=>∃ p ys,xs=[.ref p]∧((SqL X.K H p ys∧∀ l,H l=none→Q (.ref l) (upd H l (.tup ys)))∨(SqT X.K H p ys∧Q (.ref p) H))):=by
  intro pins s σ H xs us Q I r h
  obtain ⟨p,ys,rfl,h⟩:=h
  obtain ⟨u,rfl,rx⟩:=vals1 r
  cases rx
  rcases h with ⟨hq,q⟩ | ⟨hq,q⟩
  · obtain ⟨its,r',pl,hz⟩:=I.list hq
    have hlen:=r'.length
    refine call_tuple_list pl.isList (fun h' kp=>?_) (by simp only [List.size_toArray] <;> omega)
    have I1:Inv X pins σ H { s with heap:=h' }:=I.kept (t':=s.toks) kp
    have I2:Inv X pins σ (upd H h'.objs.size (.tup ys)) { s with heap:=h'.push { cls:=.type "tuple",data:=.seq its.toArray } }:=
      I1.laid (t':=s.toks) (fun b o e=>Heap.get?_push_of_some _ e) (Nat.le_refl _) (show ObjOk X.prog X.w _ _ _ (.tup ys) from ⟨hz,its,r',IsTup.new _ _⟩)
    exact ⟨.ref h'.objs.size,_,I2,rfl,q _ (I1.hok.fresh (Nat.le_refl _))⟩
  · obtain ⟨its,r',pl,hz⟩:=I.tuple hq
    exact call_tuple_same pl ⟨.ref p,H,I,rfl,q⟩
def tyV (K:PySem.W.Frag)(T:String)(x:V)(H:Hp):Prop:=match x with
  | .str _=>T="str"
  | .int _=>T="int"
  | .ref p=>(T="list"∧∃ xs,SqL K H p xs)∨(T="tuple"∧∃ o,K.lookup p=some o∧o.cls=.type "tuple"∧o.dict=none)∨
      (T="dict"∧((∃ kvs,H p=some (.dK kvs))∨∃ kvs,H p=some (.dT kvs)))∨(T="set"∧∃ S n,H p=some (.set S n))
  | _=>False
theorem tyV_is {pins:List (Addr×Obj)}{σ:St}{H:Hp}{s:Shared}{T:String}{x:V}{v:Value}(I:Inv X pins σ H s)(r:RelV x v)(ty:tyV X.K T x H):
    s.TypeIs v T∧∀ a,v=.ref a→∃ ob,s.heap.get? a=some ob∧ob.dict=none:=by
  cases x with
  | str z=>
    obtain ⟨t,rfl⟩:=r
    cases (show T="str" from ty)
    exact ⟨typeIs_str s z t,fun _ e=>nomatch e⟩
  | int i=>
    obtain ⟨t,rfl⟩:=r
    cases (show T="int" from ty)
    exact ⟨typeIs_int s i t,fun _ e=>nomatch e⟩
  | ref p=>
    cases r
    rcases ty with ⟨rfl,xs,hq⟩ | ⟨rfl,o,hk,hc,hd⟩ | ⟨rfl,hk⟩ | ⟨rfl,S,n,hk⟩
    · obtain ⟨its,_,pl,_⟩:=I.list hq
      refine ⟨pl.isList.typeIs,fun a e=>?_⟩
      cases e
      obtain ⟨o,n,e,c,hd,_⟩:=pl
      exact ⟨o,e,hd⟩
    · refine ⟨⟨o,I.kIn p o hk,hc⟩,fun a e=>?_⟩
      cases e
      exact ⟨o,I.kIn _ o hk,hd⟩
    · have z:∃ o,s.heap.get? p=some o∧o.ExactDict:=by
        rcases hk with ⟨kvs,hk⟩ | ⟨kvs,hk⟩
        · obtain ⟨_,_,_,_,o,_,_,e,ex,_⟩:=I.hok p _ hk
          exact ⟨o,e,ex⟩
        · obtain ⟨_,_,_,_,o,_,_,e,ex,_⟩:=I.hok p _ hk
          exact ⟨o,e,ex⟩
      obtain ⟨o,e,ex⟩:=z
      refine ⟨⟨o,e,ex.1⟩,fun a e2=>?_⟩
      cases e2
      exact ⟨o,e,ex.2.1⟩
    · obtain ⟨o,_,_,_,e,ex,_⟩:=I.hok p _ hk
      refine ⟨⟨o,e,ex.1⟩,fun a e2=>?_⟩
      cases e2
      exact ⟨o,e,ex.2.1⟩
  | _=>exact False.elim ty
def tBM0 (K:PySem.W.Frag)(T:String)(r:V→List V→Hp→VK→Prop)(to:TE):TE:=fun σ H Q=>to σ H fun x H1=>tyV K T x H1∧r x [] H1 Q
def tBM (K:PySem.W.Frag)(T:String)(r:V→List V→Hp→VK→Prop)(to:TE)(t:TA):TE:=fun σ H Q=>to σ H fun x H1=>tyV K T x H1∧t σ H1 fun xs H2=>r x xs H2 Q
variable {o e:Expr}{es:List Expr}{to:TE}{t:TA}{name:Str}{apos cpos:Pos}{T id:String}{r:V→List V→Hp→VK→Prop}
theorem pe_bm0 (pa:PlainAttrs T)(slot:Slot T name id)(hty:typeOf (.builtin id)=pure (.type "method_descriptor"))(hm:MtR X id r)(ho:PE X o to)
    (hbase:attributeBase o name X.env (eval o X.env)=eval o X.env:=by rfl) (hline:(apos.endLine==cpos.line)=true:=by rfl):PE X (.Call (.Attribute o name apos) [] [] cpos) (tBM0 X.K T r to):=by
  intro pins s σ H Q I h
  refine wpAny_Call_method0_late hbase hline (thn (ho pins s σ H _ I h) fun v s1 ⟨x,H1,I1,r1,ty,q1⟩=>?_)
  obtain ⟨h1,h2⟩:=tyV_is I1 r1 ty
  exact ⟨T,id,pa,slot,hty,h1,h2,Calls.callWith_builtin rfl (PySem.evalArgs_none (hm pins s1 σ H1 x [] v [] Q I1 r1 .nil q1))⟩
theorem pe_bm (pa:PlainAttrs T)(slot:Slot T name id)(hty:typeOf (.builtin id)=pure (.type "method_descriptor"))(hm:MtR X id r)(ho:PE X o to)(ha:PA X (e::es) t)
    (hbase:attributeBase o name X.env (eval o X.env)=eval o X.env:=by rfl)
    (hfew:((backTo cpos (starEach (e::es) X.env)).all (fun x=>!x.1)&&(backToKw cpos (keywordEach [] X.env)).all (fun x=>x.1.isSome)
      && decide ((e::es).length+([]:List Keyword).length+(if ([]:List Keyword).isEmpty then 0 else 1)<30))=true:=by rfl)
    (hline:(apos.endLine==cpos.line)=true:=by rfl) (hs:starEach (e::es) X.env=(false,eval e X.env)::starEach es X.env:=by rfl) (hplain:(backTo cpos (starEach es X.env)).any (·.1)=false:=by rfl):
    PE X (.Call (.Attribute o name apos) (e::es) [] cpos) (tBM X.K T r to t):=by
  intro pins s σ H Q I h
  refine wpAny_Call_method_late hbase hfew hline rfl (thn (ho pins s σ H _ I h) fun v s1 ⟨x,H1,I1,r1,ty,q1⟩=>?_)
  obtain ⟨h1,h2⟩:=tyV_is I1 r1 ty
  refine ⟨T,id,pa,slot,hty,h1,h2,?_⟩
  have hA:=ha cpos pins s1 σ H1 _ I1 q1
  rw [hs] at hA ⊢
  refine Calls.callWith_builtin (by show (false||(backTo cpos (starEach es X.env)).any (·.1))=false;rw [hplain] <;> rfl) (Calls.evalArgs_plain ?_)
  exact thn hA fun us s2 ⟨vs,H2,I2,r2,q2⟩=>hm pins s2 σ H2 x vs v us Q I2 r1 r2 q2
/- xs.append(e),list.index on a module's tuple .. are MtR facts of 06m -/
end
end L2
namespace L2
open PySem PySem.Spec PyProof.Rows
def MtM (X:Cx)(id:String)(r:V→List V→Hp→VK→Prop):Prop:=
  ∀ (pins:List (Addr×Obj)) (s:Shared) (σ:St) (H:Hp) (x:V) (xs:List V) (v:Value) (us:List Value) (Q:VK),Inv X pins σ H s→RelV x v→Vals xs us→r x xs H Q→
    wpAny (model X.prog X.w) X.A (call (.builtin id) (v::us)) (EP X pins σ Q) X.xe s
theorem Vals.one:∀ {x:V} {us:List Value},Vals [x] us→∃ u,us=[u]∧RelV x u
  | _,_,.cons r .nil=>⟨_,rfl,r⟩
theorem Vals.two:∀ {x y:V} {us:List Value},Vals [x,y] us→∃ u v,us=[u,v]∧RelV x u∧RelV y v
  | _,_,_,.cons r (.cons q .nil)=>⟨_,_,rfl,r,q⟩
theorem Vals.zero:∀ {us:List Value},Vals [] us→us=[]
  | _,.nil=>rfl
theorem Vals.dropLast {xs:List V}{us:List Value}(h:Vals xs us):Vals xs.dropLast us.dropLast:=by
  induction h with
  | nil=>exact .nil
  | cons r t ih=>
    cases t with
    | nil=>exact .nil
    | cons q t'=>exact .cons r ih
theorem Vals.eraseIdx:∀ {xs:List V} {us:List Value} (i:Nat),Vals xs us→Vals (xs.eraseIdx i) (us.eraseIdx i)
  | _,_,_,.nil=>.nil
  | _,_,0,.cons _ t=>t
  | _,_,i+1,.cons r t=>.cons r (Vals.eraseIdx i t)
theorem Vals.reverse {xs:List V}{us:List Value}(h:Vals xs us):Vals xs.reverse us.reverse:=by
  induction h with
  | nil=>exact .nil
  | cons r t ih=>rw [List.reverse_cons,List.reverse_cons];exact Vals.append ih (.cons r .nil)
theorem erase_last {α:Type}(l:List α):l.eraseIdx (l.length-1)=l.dropLast:=by
  induction l with
  | nil=>rfl
  | cons a r ih=>
    cases r with
    | nil=>rfl
    | cons b r=>
      have e:(a::b::r).length-1=((b::r).length-1)+1:=by
        have h1:(a::b::r).length=r.length+2:=rfl
        have h2:(b::r).length=r.length+1:=rfl
        omega
      rw [e,List.eraseIdx_cons_succ,ih]
      all_goals rfl
section
variable {X:Cx}{pins:List (Addr×Obj)}{σ:St}{H:Hp}{s:Shared}{l b:Addr}{xs ys zs:List V}
theorem Inv.lset {its its':List Value}{n:Nat}{f:Array Value→Array Value}{t':Nat}(I:Inv X pins σ H s)(hH:H l=some (.lst xs))
    (e:s.heap.get? l=some { cls:=.type "list",data:=.seq its.toArray n }) (hf:f its.toArray=its'.toArray) (hv:Vals ys its') (hz:ys.length≤sizeLine):
    Inv X pins σ (upd H l (.lst ys)) { s with heap:=s.heap.update l (Obj.mapSeq f),toks:=t' }:=by
  have q:=PySem.IsL.update e f
  rw [hf] at q
  refine I.write (x:=l) (e:=l) (by rw [hH];exact trivial) (.inl rfl) (fun b' u hb hu=>(Heap.get?_update_other s.heap (Obj.mapSeq f) (Ne.symm hb)).trans hu) ⟨_,q⟩ ?_
  exact ⟨hz,its',_,hv,q⟩
theorem Inv.lnew {its:List Value}{t':Nat}(I:Inv X pins σ H s)(hv:Vals ys its)(hz:ys.length≤sizeLine):
    Inv X pins σ (upd H s.heap.objs.size (.lst ys)) { s with heap:=s.heap.push { cls:=.type "list",data:=.seq its.toArray },toks:=t' }:=
  I.laid (fun _ _ q=>Heap.get?_push_of_some _ q) (Nat.le_refl _) ⟨hz,its,0,hv,Heap.get?_push_size _ rfl⟩
theorem Inv.fresh (I:Inv X pins σ H s):H s.heap.objs.size=none:=I.hok.fresh (Nat.le_refl _)
theorem Inv.lstM (I:Inv X pins σ H s)(hH:H l=some (.lst xs)):xs.length≤sizeLine∧∃ (its:List Value) (n:Nat),Vals xs its∧xs.length=its.length∧s.heap.get? l=some { cls:=.type "list",data:=.seq its.toArray n }:=by
  obtain ⟨z,its,n,r,e⟩:=I.hok l _ hH
  exact ⟨z,its,n,r,r.length,e⟩
theorem notLongL {n:Nat}(h:n≤sizeLine):Builtin.List.listTooLong n=false:=by
  unfold Builtin.List.listTooLong
  exact decide_eq_false (by omega)
end
section
variable {X:Cx}
def rAppend:V→List V→Hp→VK→Prop:=fun x vs H Q=>∃ l xs y,x=.ref l∧vs=[y]∧H l=some (.lst xs)∧xs.length<sizeLine∧Q .non (upd H l (.lst (xs++[y])))
theorem mt_append:MtM X "list.append" rAppend:=by
  intro pins s σ H x vs v us Q I rx rv h
  obtain ⟨l,xs,y,rfl,rfl,hH,hz,q⟩:=h
  cases rx
  obtain ⟨u,rfl,ru⟩:=rv.one
  obtain ⟨z,its,n,r,hl,e⟩:=I.lstM hH
  refine call_meets F.slot_list_append ⟨_,e,rfl⟩ F.entry_list_append (F.args_list_append_2 _ _) (PySem.list_append l its.toArray n u (by rw [List.size_toArray];omega)) ⟨e,?_⟩
  refine ⟨.non,_,I.lset (its':=its++[u]) hH e (by simp) (r.append (.cons ru .nil)) ?_,rfl,q⟩
  rw [List.length_append,List.length_singleton]
  omega
def rExtend:V→List V→Hp→VK→Prop:=fun x vs H Q=>∃ l b xs zs,x=.ref l∧vs=[.ref b]∧H l=some (.lst xs)∧H b=some (.lst zs)∧xs.length+zs.length≤sizeLine∧Q .non (upd H l (.lst (xs++zs)))
theorem mt_extend:MtM X "list.extend" rExtend:=by
  intro pins s σ H x vs v us Q I rx rv h
  obtain ⟨l,b,xs,zs,rfl,rfl,hH,hB,hz,q⟩:=h
  cases rx
  obtain ⟨u,rfl,ru⟩:=rv.one
  cases ru
  obtain ⟨z,its,n,r,hl,e⟩:=I.lstM hH
  obtain ⟨z2,its2,n2,r2,hl2,e2⟩:=I.lstM hB
  have hsz:its.toArray.size+its2.toArray.size≤sizeLine:=by rw [List.size_toArray,List.size_toArray];omega
  have hlong:¬ (!its.toArray.isEmpty&&Builtin.List.listTooLong (its.toArray.size+its2.toArray.size))=true:=by
    rw [notLongL hsz,Bool.and_false]
    exact Bool.false_ne_true
  refine call_meets F.slot_list_extend ⟨_,e,rfl⟩ F.entry_list_extend (F.args_list_extend_2 _ _)
    (AutoSeq1.list_extend_list_list_0 l its.toArray n b its2.toArray n2 hlong (by rw [List.size_toArray];omega) (by omega)) ⟨e,e2,?_⟩
  refine ⟨.non,_,I.lset (its':=its++its2) hH e (by simp) (r.append r2) ?_,rfl,q⟩
  rw [List.length_append]
  omega
def rPop:V→List V→Hp→VK→Prop:=fun x vs H Q=>∃ l xs y,x=.ref l∧vs=[]∧H l=some (.lst xs)∧xs[xs.length-1]?=some y∧Q y (upd H l (.lst xs.dropLast))
theorem mt_pop:MtM X "list.pop" rPop:=by
  intro pins s σ H x vs v us Q I rx rv h
  obtain ⟨l,xs,y,rfl,rfl,hH,hy,q⟩:=h
  cases rx
  have hus:=rv.zero
  subst hus
  obtain ⟨z,its,n,r,hl,e⟩:=I.lstM hH
  obtain ⟨u,hu,ru⟩:=r.get hy
  have hy':its.toArray[its.toArray.size-1]?=some u:=by
    show its.toArray[its.length-1]?=some u
    rw [← Array.getElem?_toList,← hl]
    exact hu
  refine call_meets F.slot_list_pop ⟨_,e,rfl⟩ F.entry_list_pop (F.args_list_pop_1 _) (MeetsSeq.list_pop_last l its.toArray n u hy' (by rw [List.size_toArray];omega)) ⟨e,?_⟩
  refine ⟨y,_,I.lset (its':=its.dropLast) hH e ?_ r.dropLast ?_,ru,q⟩
  · show its.toArray.eraseIdxIfInBounds (its.toArray.size-1)=its.dropLast.toArray
    rw [List.size_toArray,List.eraseIdxIfInBounds_toArray,erase_last]
  · rw [List.length_dropLast]
    omega
def rPopAt:V→List V→Hp→VK→Prop:=fun x vs H Q=>∃ l xs i k y,x=.ref l∧vs=[.int i]∧H l=some (.lst xs)∧-(2 ^ 63)≤i∧i<2 ^ 63∧seqIndex? i xs.length=some k∧xs[k]?=some y∧Q y (upd H l (.lst (xs.eraseIdx k)))
def rReverse:V→List V→Hp→VK→Prop:=fun x vs H Q=>∃ l xs,x=.ref l∧vs=[]∧H l=some (.lst xs)∧Q .non (upd H l (.lst xs.reverse))
def rClear:V→List V→Hp→VK→Prop:=fun x vs H Q=>∃ l xs,x=.ref l∧vs=[]∧H l=some (.lst xs)∧Q .non (upd H l (.lst []))
def rCat:R2:=fun x y H Q=>∃ l b xs zs,x=.ref l∧y=.ref b∧H l=some (.lst xs)∧H b=some (.lst zs)∧xs.length+zs.length≤sizeLine∧∀ p,H p=none→Q (.ref p) (upd H p (.lst (xs++zs)))
theorem op_cat:OpR X (binaryOp .Add) rCat:=by
  intro pins s σ H x y v u Q I rx ry h
  obtain ⟨l,b,xs,zs,rfl,rfl,hH,hB,hz,q⟩:=h
  cases rx
  cases ry
  obtain ⟨z,its,n,r,hl,e⟩:=I.lstM hH
  obtain ⟨z2,its2,n2,r2,hl2,e2⟩:=I.lstM hB
  refine PySem.P.add_list e e2 ?_ (by rw [List.size_toArray,List.size_toArray];omega)
  have ea:its.toArray++its2.toArray=(its++its2).toArray:=by simp
  rw [ea]
  exact ⟨.ref _,_,I.lnew (t':=s.toks) (r.append r2) (by rw [List.length_append];omega),rfl,q _ I.fresh⟩
def rRep:R2:=fun x y H Q=>∃ l k xs,x=.ref l∧y=.int k∧H l=some (.lst xs)∧-(2 ^ 63)≤k∧k<2 ^ 63∧xs.length*k.toNat≤sizeLine∧
  ∀ p,H p=none→Q (.ref p) (upd H p (.lst (List.replicate k.toNat xs).flatten))
end
section
variable {prog:Program}{w:World}{A:Around}{E:Value→Shared→Prop}{s:Shared}
end
section
variable {X:Cx}
end
end L2
namespace Att
open PySem PySem.W PySem.Calls PyProof.Rows
theorem ints_of_wellAll {P:Params}{h:Heap}:∀ (ns:List Int) (vs:List Value),WellAll P h vs (ns.map WData.int)→IntsAre vs ns:=by
  intro ns
  induction ns with
  | nil=>
    intro vs w
    rw [List.map_nil] at w
    cases w
    exact .nil
  | cons n ns ih=>
    intro vs w
    rw [List.map_cons] at w
    cases w with
    | cons a b=>
      cases a
      exact .cons _ _ (ih _ b)
theorem script_of {l:OpenLaw}{n:Nat}(hn:l.most=some n){P:Params}{h:Heap}{args:List WData}{vals:List Value}
    (hpre:l.row.toRowW.claim.pre args=true) (hwl:WellAll P h vals args):
    ∃ a vs ns,vals=[Value.ref a]∧args=[WData.list (ns.map WData.int)]∧h.get? a=some { cls:=.type "list",data:=.seq vs.toArray }∧IntsAre vs ns∧ns.length≤n:=by
  have hsh:WShape.hasAll [] args [.list .int]=true:=(pre_splitW hpre).1
  have hc:l.pre.holds [] { args:=args }=true:=(pre_splitW hpre).2
  obtain ⟨d,r,rfl,h1,h2⟩:=hasAllW_cons hsh
  obtain rfl:=hasAllW_nil h2
  obtain ⟨xs,rfl,h3⟩:=hasW_list h1
  obtain ⟨ns,rfl⟩:=items_int h3
  have hlen:ns.length≤n:=by
    unfold OpenLaw.pre at hc
    have h4:(WTm.not (.lt (.lit (.int (n:Int))) (.len (.arg 0)))).holds [] { args:=[.list (ns.map .int)] }=true:=by
      have h4:=(holds_andW hc).1
      rw [hn] at h4
      exact h4
    have h5:=condW_of h4 (w_not (w_lt w_lit (w_len_list (w_arg rfl))))
    rw [List.length_map] at h5
    refine Nat.le_of_not_lt fun q=>?_
    have q':(n:Int)<((ns.length:Nat):Int):=by omega
    first
      | (rw [decide_eq_true q'] at h5;exact absurd h5 (by decide))
      | (simp at h5;omega)
  cases hwl with
  | cons w1 w2=>
    cases w2
    cases w1 with
    | list ho hall=>exact ⟨_,_,ns,rfl,rfl,ho,ints_of_wellAll ns _ hall,hlen⟩
theorem post_true (l:OpenLaw)(args:List WData):l.row.toRowW.claim.post args (.bool true) args=true:=
  postW_of (r:=l.row.toRowW) (X:=(true==true))
    (show WShape.has [] (.bool true) .bool=true by first | rfl | decide | simp [WShape.has,WShape.arms,WShape.armsAll])
    (show (WTm.eq .res (.lit (.bool true))).value [] { args:=args,res:=some (.bool true),after:=args }=some (.bool (true==true)) from w_eq_bool (w_res rfl) w_lit) rfl
theorem attach_call {l:OpenLaw}{n:Nat}{q:Program}{loose:List Str}{XP:(Str→Option Value)→Heap→Prop}{YP:World→Heap→Prop}{d:DefRec}
    (hn:l.most=some n) (hdf:d.params.defaults=[])
    (call:∀ (w:World) (s₀ s₁:Shared) (mg mb:Str→Option Value) (fa:Addr) (o:Obj) (pm cd doc:Value) (a:Addr) (vs:List Value) (ns:List Int),
      Ground q loose [] XP w s₀ mg mb s₁.heap→YP w s₁.heap→
      s₁.heap.get? fa=some o→o.data=.func (docDef d.name d.params d.body d.scope pm cd doc)→s₁.heap.CodeRec cd d.name→mg d.name=some (.ref fa)→
      s₁.heap.get? a=some { cls:=.type "list",data:=.seq vs.toArray }→IntsAre vs ns→ns.length≤n→s₁.gens=#[]→
      codeAny (model l.prog w) callerA (.call (.ref fa) ⟨[.ref a],[]⟩) (fun r s'=>r=.ok (.ret (.bool true))∧OldK s₁.heap s'.heap∧s'.os=s₁.os∧AllBare s'.gens) s₁):
    WalkO q loose XP YP l.row.toRowW d [] (fun f vs=>PySem.call f vs):=by
  intro w s₀ s₁ mg mb G Y fa o pm cd doc dV kV ho hd hcd hD hmg hg args vals as hpre hlay hrd hwl hlo
  obtain rfl:dV=.none:=Dflts.none hD hdf
  obtain rfl:kV=.none:=Dflts.noKw hD
  obtain ⟨a,vs,ns,rfl,rfl,hobj,hints,hlen⟩:=script_of hn hpre hwl
  refine enter_call (codeAny_mono (call w s₀ s₁ mg mb fa o pm cd doc a vs ns G Y ho (fd_plain hd) hcd hmg hobj hints hlen hg) fun r s' hq=>?_)
  obtain ⟨rfl,h2,h3,h4⟩:=hq
  exact ⟨.inl ⟨.bool true,.bool true,[],rfl,fun _=>rfl,.bool true,post_true l _,fun _=>⟨List.Pairwise.nil,fun _ hm=>(nomatch hm)⟩⟩,h2,h3,h4⟩
section
variable {prog:Program}{w:World}{A:Around}{E:Value→Shared→Prop}{s:Shared}{K:Frag}
def noObjs (h:Heap):Heap:={ h with objs:=#[] }
def ledger (h:Heap)(L d:Addr):List (Addr×Obj):=(List.range h.objs.size).filterMap fun a=>if a=L∨a=d then none else (h.get? a).map fun o=>(a,o)
end
end Att
namespace L2
open PySem PySem.Spec PyProof.Rows
theorem vals_ints:∀ {vs:List Value} {ns:List Int},IntsAre vs ns→Vals (ns.map V.int) vs
  | _,_,.nil=>.nil
  | _,_,.cons n t h=>.cons ⟨t,rfl⟩ (vals_ints h)
def Only (H:Hp):Prop:=∀ b,H b=none∨∃ o xs,H b=some (.frz o (.lst xs))
theorem law_call {P:Program}{w:World}{K:PySem.W.Frag}{mg mb:Str→Option Value}{CX:CXT}{k:Nat}{fa a:Addr}{fd:FuncData}{x:Str}{sp:Sp}{s₁:Shared}{vs:List Value}{ns:List Int}
    (KX:K.In s₁.heap) (hns:s₁.heap.Ns mainGlobals mg) (hb:s₁.heap.Ns builtinsNs mb) (hbb:∀ x:Str,x≠"__name__"→mb x=bootBuiltins x) (hlim:s₁.heap.NoLimit) (hg:s₁.gens=#[])
    (ha:s₁.heap.get? a=some { cls:=.type "list",data:=.seq vs.toArray }) (hi:IntsAre vs ns) (hl:ns.length≤sizeLine) (hr:Room k callerA)
    (F:∀ base:Heap,K.In base→base.Ns mainGlobals mg→FnOk P w K mg base CX k fa fd [x] sp) (hbind:∀ (s:Shared) (u:Value),BindsTo s fd ⟨[u],[]⟩ [(x,u)])
    (hsp:∀ H:Hp,Only H→SqL K H a (ns.map V.int)→sp [.ref a] H (fun v _=>v=.bl true) fun _ _ _=>False)
    (hCX:∀ H e s',CX [] H s₁ (fun _ _ _=>False) e s'→False):
    codeAny (model P w) callerA (.call (.ref fa) ⟨[.ref a],[]⟩) (fun r s'=>r=.ok (.ret (.bool true))∧OldK s₁.heap s'.heap∧s'.os=s₁.os∧AllBare s'.gens) s₁:=by
  have rv:=vals_ints hi
  have lenV:=hi.length
  have core:∀ H:Hp,Only H→SqL K H a (ns.map V.int)→HOk P w H s₁.heap→(∀ b,H b≠none→b=a)→(H a≠none→K.lookup a=none)→
      codeAny (model P w) callerA (.call (.ref fa) ⟨[.ref a],[]⟩) (fun r s'=>r=.ok (.ret (.bool true))∧OldK s₁.heap s'.heap∧s'.os=s₁.os∧AllBare s'.gens) s₁:=by
    intro H hO hS hok hA hK
    have base_of:∀ {b:Addr} {o:Obj},s₁.heap.get? b=some o→H b=none→(hidT s₁.heap H).get? b=some o:=fun e n=>hidT_get e n
    have noA:∀ {b:Addr} {o:Obj} {es:Array DictEntry} {ep:Nat},s₁.heap.get? b=some o→o.data=.dict es ep→H b=none:=fun {b o es ep} e d=>by
      cases q:H b with
      | none=>rfl
      | some u=>
        have e':b=a:=hA b (by rw [q];simp)
        subst e'
        rw [ha] at e;cases e
        have d':Data.seq vs.toArray _=Data.dict es ep:=d
        cases d'
    have nsK:∀ {b:Addr} {m:Str→Option Value},s₁.heap.Ns b m→(hidT s₁.heap H).Ns b m:=fun {b m} ⟨o,es,ep,e,d,r⟩=>⟨o,es,ep,base_of e (noA e d),d,r⟩
    have hKb:K.In (hidT s₁.heap H):=fun b o e=>base_of (KX b o e) (by
      cases q:H b with
      | none=>rfl
      | some u=>
        have e':b=a:=hA b (by rw [q];simp)
        subst e'
        rw [hK (by rw [q];simp)] at e;cases e)
    have hM:Mod K mg (hidT s₁.heap H):=⟨hKb,nsK hns,⟨mb,nsK hb,hbb⟩,let ⟨mc,h1,h2⟩:=hlim;⟨mc,nsK h1,h2⟩⟩
    have e0:Env0 P w K mg (hidT s₁.heap H) callerA [] s₁ H:=⟨rfl,hM,fun b o e=>of_hidT e,Nat.le_of_eq (hidT_size _ _),trivial,fun b hb=>absurd (show b∈([]:List Addr) from hb) (by simp),hok,.of_eq hg⟩
    refine codeAny_mono ((F _ hKb (nsK hns)).run callerA [] s₁ H ⟨[.ref a],[]⟩ [.ref a] [.ref a] _ _ hr e0 (hbind s₁ (.ref a)) (.cons rfl .nil) (hsp H hO hS)) fun r s' h=>?_
    cases r with
    | error e=>exact (hCX H e s' h).elim
    | ok fl=>
      cases fl with
      | next=>exact False.elim h
      | brk=>exact False.elim h
      | cont=>exact False.elim h
      | ret u=>
        obtain ⟨v,H',os,bare,un,hok',r',q⟩:=h
        have q':v=.bl true:=q
        subst q'
        obtain rfl:u=Value.bool true:=r'
        refine ⟨rfl,OldK.of_keep fun b o e=>?_,os,bare⟩
        cases q:H b with
        | none=>exact un.keep b o e q (by intro z;exact absurd (show b∈([]:List Addr) from z) (by simp)) (by simp)
        | some u=>
          rcases hO b with z | ⟨ob,xs,z⟩
          · rw [q] at z;cases z
          · have z2:=un.frzs b ob _ z
            obtain ⟨e1,_⟩:=hok b _ z
            obtain ⟨e2,_⟩:=hok' b _ z2
            rw [e] at e1;cases e1
            exact e2
  cases hk:K.lookup a with
  | some o=>
    have e:=KX a o hk
    rw [ha] at e
    cases e
    refine core (fun _=>none) (fun _=>.inl rfl) (.inr ⟨_,vs.toArray,_,hk,rfl,rfl,rfl,by rw [List.size_toArray,lenV];exact hl,by simpa using rv⟩) (fun b u z=>by have z':(none:Option HO)=some u:=z;cases z') (fun b z=>absurd rfl z) fun z=>absurd rfl z
  | none=>
    refine core (fun b=>if b=a then some (.frz { cls:=.type "list",data:=.seq vs.toArray } (.lst (ns.map V.int))) else none) (fun b=>?_) (.inl (.inr ⟨{ cls:=.type "list",data:=.seq vs.toArray },if_pos rfl⟩)) (fun b u z=>?_) (fun b z=>?_) fun _=>hk
    · by_cases hb:b=a
      · exact .inr ⟨_,_,if_pos hb⟩
      · exact .inl (if_neg hb)
    · by_cases hb:b=a
      · have z':=(if_pos hb).symm.trans z
        cases z'
        subst hb
        exact ⟨ha,by rw [List.length_map];exact hl,vs,_,rv,ha⟩
      · have z':=(if_neg hb).symm.trans z
        cases z'
    · by_cases hb:b=a
      · exact hb
      · exact absurd (if_neg hb) z
end L2
namespace L2
open PySem PySem.Spec PyProof.Rows
abbrev KOf {K:PySem.W.Frag}{h:Heap}(_:K.In h):PySem.W.Frag:=K
theorem walk_of {l:PySem.W.OpenLaw}{n k:Nat}{q:Program}{loose:List Str}{XP:(Str→Option Value)→Heap→Prop}{YP:World→Heap→Prop}{d:DefRec}{K:Params→PySem.W.Frag}{CX:World→CXT}{sp:World→Sp}{x:Str}
    (hn:l.most=some n) (hn2:n≤sizeLine) (hdf:d.params.defaults=[]) (hr:Room k callerA)
    (hY:∀ (w:World) (h:Heap),YP w h→(K w.params).In h)
    (F:∀ (w:World) (mg:Str→Option Value) (fa:Addr) (h:Heap),(K w.params).In h→h.Ns mainGlobals mg→mg d.name=some (.ref fa)→
      ∃ fd:FuncData,(∀ (s:Shared) (u:Value),BindsTo s fd ⟨[u],[]⟩ [(x,u)])∧
        ∀ base:Heap,(K w.params).In base→base.Ns mainGlobals mg→FnOk l.prog w (K w.params) mg base (CX w) k fa fd [x] (sp w))
    (hsp:∀ (w:World) (H:Hp) (a:Addr) (ns:List Int),ns.length≤n→Only H→SqL (K w.params) H a (ns.map V.int)→sp w [.ref a] H (fun v _=>v=.bl true) fun _ _ _=>False)
    (hCX:∀ (w:World) (H:Hp) (s:Shared) (e:Value) (s':Shared),CX w [] H s (fun _ _ _=>False) e s'→False):
    PySem.W.WalkO q loose XP YP l.row.toRowW d [] (fun f vs=>PySem.call f vs):=by
  refine Att.attach_call hn hdf fun w s₀ s₁ mg mb fa o pm cd doc a vs ns G Y ho hd hcd hmg hobj hints hlen hg=>?_
  have KX:=hY w _ Y
  obtain ⟨fd,hb,hF⟩:=F w mg fa _ KX G.T.g hmg
  exact law_call KX G.T.g G.T.b G.T.builtins G.T.nolimit hg hobj hints (Nat.le_trans hlen hn2) hr hF hb (fun H hO hS=>hsp w H a ns hlen hO hS) fun H e s'=>hCX w H s₁ e s'
end L2
/- THE LAST THEOREM (shape;LID,My.* are yours):
   My.Adr: a structure of the addresses that your layer names (classes,functions);My.Txt K t: a structure (Prop) of the equations over K;
   My.txt_mk:{K} {implicit addresses ..} (e1:nsIn K mainGlobals "law"=some (some (.ref f))) (e2:K.lookup f=some ⟨oc,od,.func (fnOf "law" "law" params body scope dV kV doc pm an cdv ct),sl⟩) (e3:codeIn K cdv "law"=true) ..:∃ t,My.Txt K t
set_option maxRecDepth 100000 in
set_option maxHeartbeats 0 in
theorem PySem.Challenge.cw_LID_holds : PySem.Challenge.rw_LID.Holds := by
  w_on;o_law;k_head;(case hw=>w_witness2)
  k_fill
  refine L2.walk_of (l:=PySem.Challenge.rw_LID) (n:=63) (k:=40) (x:="script") (CX:=fun w=>..) (sp:=fun _=>My.sp_law) rfl (by decide) rfl ⟨rfl,by decide,by decide⟩ (fun w h Y=>PySem.W.kIn_of Y) ?F ?S ?C
  case F=>
    intro w mg fa h KX G hmg
    have T:∃ t,My.Txt (L2.KOf KX) t:=by
      dsimp only [L2.KOf]                          -- K must stand as «<heap const> w.params» for k_is
      refine' My.txt_mk ?e1 ?e2 ?e3 ..
      (case e1=>PySem.W.k_is)                    -- in the order: a name -> its address -> its object -> its parts
      (case e2=>PySem.W.k_is)
      ..
    obtain ⟨t,T⟩:=T
    have e0:=hmg.symm.trans (PySem.W.mg_of KX G T.law)
    cases e0                                       -- fa is the law's own address
    exact ⟨_,fun s u=>.of_eq rfl,fun base kb nb=>My.law_fn T kb nb⟩     -- if «.of_eq rfl» comes too early: refine' ⟨_,?b,fun base kb nb=>My.law_fn T kb nb⟩;exact fun s u=>.of_eq rfl
  case S=>exact fun w H a ns hl hO hS=>..
  case C=>exact ..
(the tactic k_is has no namespace: write k_is) -/
namespace L2
open PySem PySem.Spec PyProof.Rows
def inClass (s:Stmt)(j:Nat):Stmt:=match s with
  | .ClassDef _ _ _ body _ _ _ _ _ _ _=>body.getD j (.Pass ⟨0,0,0,0⟩)
  | _=>.Pass ⟨0,0,0,0⟩
def defArgs (s:Stmt):Arguments:=match s with
  | .FunctionDef _ a _ _ _ _ _ _ _ _=>a
  | _=>{ posonlyargs:=[],args:=[],vararg:=none,kwonlyargs:=[],kw_defaults:=[],kwarg:=none,defaults:=[] }
def defBody (s:Stmt):List Stmt:=match s with
  | .FunctionDef _ _ b _ _ _ _ _ _ _=>b
  | _=>[]
def defScope (s:Stmt):Scope:=match s with
  | .FunctionDef _ _ _ _ _ _ sc _ _ _=>sc
  | _=>{ kind:=.function,names:=[],isGenerator:=false,isCoroutine:=false }
abbrev CX0:CXT:=fun _ _ _ _ _ _=>False
abbrev E0:XK:=fun _ _ _=>False
theorem pass0 {X:Cx}:Passes CX0 X E0:=fun _ _ _ _ _ _ _ h=>h.elim
structure Fun (K:PySem.W.Frag)(x qual:Str)(st:Stmt)(f:Addr)(fd:FuncData):Prop where
  ex:∃ (oc:Value) (od:Option Addr) (kV doc pm:Value) (an:Option Addr) (cdv ct:Value) (osl:Array (Option Value)),
    fd=PySem.W.fnOf x qual (defArgs st) (defBody st) (defScope st) .none kV doc pm an cdv ct∧K.lookup f=some ⟨oc,od,.func fd,osl⟩∧PySem.W.codeIn K cdv qual=true
  kp:PySem.W.keepIn K (.ref f)=true
section
variable {P:Program}{w:World}{K:PySem.W.Frag}{mg:Str→Option Value}{base:Heap}
theorem Fun.ok {x qual:Str}{st:Stmt}{f:Addr}{fd:FuncData}{N ps:List Str}{k:Nat}{sp:Sp}(F:Fun K x qual st f fd)(S:FnScope N ps (defScope st))(len:∀ vs H Q E,sp vs H Q E→vs.length=ps.length)
    (hbody:∀ (cdv:Value) (A:Around) (outer:List Env) (s:Shared) (H:Hp) (vs:List V) (Q:VK) (E:XK),Room k (A.deeper (envOfC qual (defScope st) s.heap.objs.size f cdv))→sp vs H Q E→
      ∃ t,PSs (cxOf CX0 P w K mg base N qual (defScope st) f cdv A outer s H E).nox (defBody st) t∧t { nx:=fun _ H'=>Q .non H',rt:=Q } (start N vs) H):FnOk P w K mg base CX0 (k+1) f fd ps sp:=by
  obtain ⟨oc,od,kV,doc,pm,an,cdv,ct,osl,rfl,lk,hcd⟩:=F.ex
  refine fn_of lk hcd S len fun A outer s H vs Q E hr hsp=>?_
  obtain ⟨t,h,q⟩:=hbody cdv A outer s H vs Q E hr hsp
  exact ⟨t,h.nox,q⟩
theorem Fun.binds {x qual:Str}{st:Stmt}{f:Addr}{fd:FuncData}{ps:List Str}(F:Fun K x qual st f fd)
    (h:∀ (kV doc pm:Value) (an:Option Addr) (cdv ct:Value) (us:List Value),us.length=ps.length→bindArgs (PySem.W.fnOf x qual (defArgs st) (defBody st) (defScope st) .none kV doc pm an cdv ct) ⟨us,[]⟩=pure (ps.zip us)):Binds K fd ps []:=by
  obtain ⟨oc,od,kV,doc,pm,an,cdv,ct,osl,rfl,lk,hcd⟩:=F.ex
  exact .all (h kV doc pm an cdv ct)
theorem fun_mk {x qual:Str}{st:Stmt}{f:Addr}{oc:Value}{od an:Option Addr}{osl:Array (Option Value)}{kV doc pm cdv ct:Value}(l:K.lookup f=some ⟨oc,od,.func (PySem.W.fnOf x qual (defArgs st) (defBody st) (defScope st) .none kV doc pm an cdv ct),osl⟩)
    (c:PySem.W.codeIn K cdv qual=true) (k:PySem.W.keepIn K (.ref f)=true):Fun K x qual st f (PySem.W.fnOf x qual (defArgs st) (defBody st) (defScope st) .none kV doc pm an cdv ct):=⟨⟨oc,od,kV,doc,pm,an,cdv,ct,osl,rfl,l,c⟩,k⟩
end
theorem hu_of {A:Around}{k:Nat}(hr:Room k A):A.units+1<cLine:=Nat.lt_of_le_of_lt (Nat.add_le_add_left (by decide:1≤64) _) hr.units
theorem small1000 {n:Nat}(h:n≤1000):n<sizeLine:=Nat.lt_of_le_of_lt h (by decide)
section
variable {X:Cx}
theorem pv (i:Nat){x:Str}{pos:Pos}(hN:X.N[i]?=some x:=by rfl)(hv:Vis X.env.scope x:=by first | exact Or.inl rfl | exact Or.inr (Or.inl rfl) | exact Or.inr (Or.inr rfl))(hd:(x==("__debug__":Str))=false:=by decide)
    (hcd:(x==("__classdict__":Str))=false:=by decide):PE X (.Name x pos) (tVar i):=pe_var hN hv hd hcd
end
theorem iteF {A B:Prop}(h:B):if false=true then A else B:=by
  rw [if_neg Bool.false_ne_true]
  exact h
theorem iteT {A B:Prop}(h:A):if true=true then A else B:=by
  rw [if_pos rfl]
  exact h
theorem ite2 {c A B:Prop}[Decidable c](h1:c→A)(h2:¬ c→B):if c then A else B:=by
  by_cases h:c
  · rw [if_pos h]
    exact h1 h
  · rw [if_neg h]
    exact h2 h
def Same (H H':Hp):Prop:=∀ b o,H b=some o→H' b=some o
theorem Same.refl (H:Hp):Same H H:=fun _ _ h=>h
theorem Same.trans {H H1 H2:Hp}(a:Same H H1)(b:Same H1 H2):Same H H2:=fun c o h=>b c o (a c o h)
theorem Same.free {H H':Hp}(e:Same H H'){l:Addr}(h:H' l=Option.none):H l=Option.none:=by
  cases q:H l with
  | none=>rfl
  | some o=>
    rw [e l o q] at h
    cases h
theorem Same.seq {K:PySem.W.Frag}{H H':Hp}{a:Addr}{xs:List V}(e:Same H H')(h:SqL K H a xs):SqL K H' a xs:=by
  rcases h with (h | ⟨o,h⟩) | h
  · exact .inl (.inl (e _ _ h))
  · exact .inl (.inr ⟨o,e _ _ h⟩)
  · exact .inr h
end L2
namespace L2
open PySem PySem.Spec PyProof.Rows
def Sz (n:Nat)(x:Int):Prop:=x.natAbs<2 ^ n
theorem Sz.mono {m n:Nat}{x:Int}(h:Sz m x)(hn:m≤n):Sz n x:=Nat.lt_of_lt_of_le h (Nat.pow_le_pow_right (by decide) hn)
theorem Sz.mul {m n:Nat}{x y:Int}(h:Sz m x)(g:Sz n y):Sz (m+n) (x*y):=by
  unfold Sz at *
  rw [Int.natAbs_mul,Nat.pow_add]
  exact Nat.mul_lt_mul_of_lt_of_lt h g
theorem Sz.sub {n:Nat}{x y:Int}(h:Sz n x)(g:Sz n y):Sz (n+1) (x-y):=by
  unfold Sz at *
  rw [Nat.pow_succ]
  omega
theorem Sz.neg {n:Nat}{x:Int}(h:Sz n x):Sz n (-x):=by
  unfold Sz at *
  omega
theorem Sz.of_le {n:Nat}{x y:Int}(h:Sz n y)(g:x.natAbs≤y.natAbs):Sz n x:=Nat.lt_of_le_of_lt g h
section
variable {X:Cx}
def CMulW (i j:Int):Prop:=Sz 4000 i∧Sz 4000 j
theorem CMulW.ok {i j:Int}(h:CMulW i j):IntMulOk i j:=IntMulOk.of_le (m:=4000) (n:=4000) (intBits_le_iff.mpr h.1) (intBits_le_iff.mpr h.2) (by decide)
theorem op_mulW:OpR X (binaryOp .Mult) (rI CMulW fun i j=>.int (i*j)):=opI fun _ _ _ _ _ _ _ hc q=>mul_int q hc.ok
def CDivW (_ j:Int):Prop:=j≠0∧Sz 4000 j
theorem CDivW.ok {i j:Int}(h:CDivW i j):Builtin.divisionGoesByPylong i j=false:=by
  refine PyProof.noPylong_of_log2 ?_
  have h0:j.natAbs≠0:=by have:=h.1;omega
  exact Nat.lt_trans ((Nat.log2_lt h0).mpr h.2) (by decide)
theorem op_fdivW:OpR X (binaryOp .FloorDiv) (rI CDivW fun i j=>.int (i.fdiv j)):=opI fun _ _ _ _ _ _ _ hc q=>floordiv_int hc.1 q (.inl hc.ok)
def eqVs:List V→List V→Bool
  | [],[]=>true
  | x::xs,y::ys=>eqV x y&&eqVs xs ys
  | _,_=>false
theorem all_range_succ (n:Nat)(e:Nat→Bool):(List.range (n+1)).all e=(e 0&&(List.range n).all fun i=>e (i+1)):=by
  rw [List.range_succ_eq_map,List.all_cons,List.all_map]
  rfl
def eqAtI (xs ys:List V)(j:Nat):Bool:=match xs[j]?,ys[j]? with
  | some x,some y=>eqV x y
  | _,_=>false
theorem eqVs_range:∀ (xs ys:List V),((List.range (min xs.length ys.length)).all (eqAtI xs ys)&&xs.length==ys.length)=eqVs xs ys
  | [],[]=>by simp [eqVs]
  | [],y::ys=>by simp [eqVs]
  | x::xs,[]=>by simp [eqVs]
  | x::xs,y::ys=>by
    have ih:=eqVs_range xs ys
    have e:min (x::xs).length (y::ys).length=min xs.length ys.length+1:=by simp only [List.length_cons];omega
    rw [e,all_range_succ]
    have e2:(fun i=>eqAtI (x::xs) (y::ys) (i+1))=eqAtI xs ys:=by
      funext i;simp [eqAtI]
    rw [e2]
    have e3:((x::xs).length==(y::ys).length)=(xs.length==ys.length):=by simp
    have e4:eqAtI (x::xs) (y::ys) 0=eqV x y:=by simp [eqAtI]
    rw [e3,e4,Bool.and_assoc,ih,eqVs]
def rEqT (K:PySem.W.Frag)(neg:Bool):R2:=fun x y H Q=>∃ a b xs ys,x=.ref a∧y=.ref b∧SqT K H a xs∧SqT K H b ys∧xs.all flatV=true∧ys.all flatV=true∧Q (.bl (if neg then !eqVs xs ys else eqVs xs ys)) H
theorem tup_eqAt {pins:List (Addr×Obj)}{σ:St}{H:Hp}{s:Shared}{A:Around}{xs ys:List V}{us vs:List Value}(r1:Vals xs us)(r2:Vals ys vs)(f1:xs.all flatV=true)(f2:ys.all flatV=true):
    ∀ j (h1:j<us.toArray.size) (h2:j<vs.toArray.size),SeqAt.EqAt A s us.toArray[j] vs.toArray[j] (eqAtI xs ys j):=by
  intro j h1 h2
  have l1:=r1.length
  have l2:=r2.length
  rw [List.size_toArray] at h1 h2
  have hx:xs[j]?=some (xs[j]'(by omega)):=List.getElem?_eq_getElem _
  have hy:ys[j]?=some (ys[j]'(by omega)):=List.getElem?_eq_getElem _
  obtain ⟨u,hu,ru⟩:=r1.get hx
  obtain ⟨v,hv,rv⟩:=r2.get hy
  have eu:us.toArray[j]'(by simpa using h1)=u:=by
    rw [List.getElem?_eq_getElem h1] at hu
    simpa using Option.some.inj hu
  have ev:vs.toArray[j]'(by simpa using h2)=v:=by
    rw [List.getElem?_eq_getElem h2] at hv
    simpa using Option.some.inj hv
  rw [eu,ev]
  have e:eqAtI xs ys j=eqV (xs[j]'(by omega)) (ys[j]'(by omega)):=by unfold eqAtI;rw [hx,hy]
  rw [e]
  exact eqAt_V ru rv (List.all_eq_true.mp f1 _ (List.getElem_mem _)) (List.all_eq_true.mp f2 _ (List.getElem_mem _))
theorem op_eqT (hu:X.A.units<cLine):OpR X (compareOp .Eq) (rEqT X.K false):=by
  intro pins s σ H x y v u Q I rx ry h
  obtain ⟨a,b,xs,ys,rfl,rfl,ha,hb,f1,f2,q⟩:=h
  cases rx
  cases ry
  obtain ⟨its,r1,p1,_⟩:=I.tuple ha
  obtain ⟨its2,r2,p2,_⟩:=I.tuple hb
  refine SeqAt.eq_tupleAt (e:=eqAtI xs ys) (show s.heap.IsTuple a its.toArray from p1) (show s.heap.IsTuple b its2.toArray from p2) hu (tup_eqAt (pins:=pins) (σ:=σ) (H:=H) r1 r2 f1 f2) ⟨.bl _,H,I,rfl,?_⟩
  rw [List.size_toArray,List.size_toArray,← r1.length,← r2.length,eqVs_range]
  exact q
theorem op_neT (hu:X.A.units<cLine):OpR X (compareOp .NotEq) (rEqT X.K true):=by
  intro pins s σ H x y v u Q I rx ry h
  obtain ⟨a,b,xs,ys,rfl,rfl,ha,hb,f1,f2,q⟩:=h
  cases rx
  cases ry
  obtain ⟨its,r1,p1,_⟩:=I.tuple ha
  obtain ⟨its2,r2,p2,_⟩:=I.tuple hb
  refine SeqAt.RcNeAt.tuples (e:=eqAtI xs ys) (show s.heap.IsTuple a its.toArray from p1) (show s.heap.IsTuple b its2.toArray from p2) hu (tup_eqAt (pins:=pins) (σ:=σ) (H:=H) r1 r2 f1 f2) X.prog X.w X.xe _ ⟨.bl _,H,I,rfl,?_⟩
  rw [List.size_toArray,List.size_toArray,← r1.length,← r2.length,eqVs_range]
  exact q
def gLst (K:PySem.W.Frag)(n:Nat)(t:TGs):TG:=fun v σ H Q=>∃ a xs,v=.ref a∧SqL K H a xs∧xs.length=n∧t xs σ H Q
def rIs (K:PySem.W.Frag):List V→Hp→VK→Prop:=fun xs H Q=>∃ x c t u b,xs=[x,c]∧TyOf K H x t∧RelV c u∧(∀ p,c≠.ref p∨True)∧PySem.W.kitOne K t u=some b∧Q (.bl b) H
theorem call_isinst:CallR X (.builtin "isinstance") (rIs X.K):=by
  intro pins s σ H xs us Q I r h
  obtain ⟨x,c,t,u',b,rfl,ty,rc,_,hk,q⟩:=h
  obtain ⟨u,w',rfl,r1,r2⟩:=vals2 r
  have e:w'=u'∨∃ T,c=.ty T:=by
    cases c with
    | non=>left;cases rc;cases r2;rfl
    | bl _=>left;cases rc;cases r2;rfl
    | int i=>obtain ⟨z,rfl⟩:=rc;exact absurd hk (by simp [PySem.W.kitOne,PySem.W.kitCls];cases ty <;> simp)
    | str i=>obtain ⟨z,rfl⟩:=rc;exact absurd hk (by simp [PySem.W.kitOne,PySem.W.kitCls];cases ty <;> simp)
    | byt i=>obtain ⟨z,rfl⟩:=rc;exact absurd hk (by simp [PySem.W.kitOne,PySem.W.kitCls];cases ty <;> simp)
    | flt i=>obtain ⟨z,rfl⟩:=rc;exact absurd hk (by simp [PySem.W.kitOne,PySem.W.kitCls];cases ty <;> simp)
    | ref _=>left;cases rc;cases r2;rfl
    | ty _=>left;cases rc;cases r2;rfl
  rcases e with rfl | ⟨T,rfl⟩
  · exact isinst_ok I r1 ty hk fun tk=>⟨.bl b,H,I.tok tk,rfl,q⟩
  · cases rc;cases r2
    exact isinst_ok I r1 ty hk fun tk=>⟨.bl b,H,I.tok tk,rfl,q⟩
end
end L2
namespace L2
open PySem PySem.Spec PyProof.Rows
def cxComp (X:Cx)(scope:Scope)(cl:List (Str×Addr))(C:Addr)(N:List Str)(s₀:Shared)(H₀:Hp)(ex:List Addr)(pn:List (Addr×Obj)):Cx where
  prog:=X.prog
  w:=X.w
  K:=X.K
  mg:=X.mg
  base:=X.base
  A:=X.A
  N:=N
  s₀:=s₀
  H₀:=H₀
  env:=compEnvC scope cl C X.env
  outer:=X.stack
  stack:=X.stack
  ex:=ex
  fn:=fun y=>(cl.lookup y).any fun c=>decide (C<c)
  calm:=X.calm
  pn:=pn
  xe:=fun _ _=>False
structure CompScope (X:Cx)(scope:Scope)(cl:List (Str×Addr))(x:Str)(fv:List Str)(js:List Nat):Prop where
  kind:scope.kind=.function
  nc:∀ y∈scope.names,y.2≠.cell
  nm:∀ y∈scope.names,y.2=.local→scope.names.lookup y.1=some .local
  hx:scope.names.lookup x=some .local
  fr:∀ y∈scope.names,y.2=.free→y.1∈fv
  nd:(x::fv).Nodup
  vis:∀ y∈fv,scope.names.lookup y=some .free∧X.env.scope.names.lookup y=some .cell∧(cl.lookup y).isSome=true
  cls:∀ p∈cl,X.env.cells.lookup p.1=some p.2
  sl:Paired (fun y j=>X.N[j]?=some y) fv js
def frv (js:List Nat)(σ:St):St:=js.map fun j=>(σ[j]?).getD none
theorem lookup_relabel_free {env:Env}(hk:env.scope.kind=.function):∀ {names:List (Str×NameKind)} {y:Str},names.lookup y=some .free→env.kindOf y=some .cell→
    (names.map fun (n,k)=>if (k==NameKind.free&&env.scope.kind==.function&&env.kindOf n==some .cell) then (n,NameKind.cell) else (n,k)).lookup y=some .cell
  | [],_,h,_=>by simp at h
  | (n,k)::r,y,h,hy=>by
    have ih:=@lookup_relabel_free env hk r y
    show List.lookup y ((if (k==NameKind.free&&env.scope.kind==.function&&env.kindOf n==some .cell)=true then (n,NameKind.cell) else (n,k))::_)=_
    cases hx:y==n with
    | true=>
      have e:y=n:=eq_of_beq hx
      subst e
      simp only [List.lookup_cons,hx] at h
      cases h
      rw [if_pos (by rw [hk,hy];rfl)]
      simp [List.lookup_cons]
    | false=>
      simp only [List.lookup_cons,hx] at h
      split
      · simp only [List.lookup_cons,hx];exact ih h hy
      · simp only [List.lookup_cons,hx];exact ih h hy
theorem lookup_relabel_back {env:Env}:∀ {names:List (Str×NameKind)} {y:Str} {k':NameKind},
    (names.map fun (n,k)=>if (k==NameKind.free&&env.scope.kind==.function&&env.kindOf n==some .cell) then (n,NameKind.cell) else (n,k)).lookup y=some k'→
    names.lookup y=some k'∨(names.lookup y=some .free∧k'=.cell)
  | [],_,_,h=>by simp at h
  | (n,k)::r,y,k',h=>by
    have ih:=@lookup_relabel_back env r y k'
    have h:List.lookup y ((if (k==NameKind.free&&env.scope.kind==.function&&env.kindOf n==some .cell)=true then (n,NameKind.cell) else (n,k))::(r.map fun (n,k)=>if (k==NameKind.free&&env.scope.kind==.function&&env.kindOf n==some .cell) then (n,NameKind.cell) else (n,k)))=some k':=h
    cases hx:y==n with
    | true=>
      by_cases hc:(k==NameKind.free&&env.scope.kind==.function&&env.kindOf n==some .cell)=true
      · rw [if_pos hc] at h
        simp only [List.lookup_cons,hx] at h
        cases h
        right
        have hk:k=.free:=by
          rw [Bool.and_eq_true,Bool.and_eq_true] at hc
          exact eq_of_beq hc.1.1
        subst hk
        exact ⟨by simp [List.lookup_cons,hx],rfl⟩
      · rw [if_neg hc] at h
        simp only [List.lookup_cons,hx] at h
        left
        simp only [List.lookup_cons,hx]
        exact h
    | false=>
      have h':(r.map fun (n,k)=>if (k==NameKind.free&&env.scope.kind==.function&&env.kindOf n==some .cell) then (n,NameKind.cell) else (n,k)).lookup y=some k':=by
        by_cases hc:(k==NameKind.free&&env.scope.kind==.function&&env.kindOf n==some .cell)=true
        · rw [if_pos hc] at h
          simp only [List.lookup_cons,hx] at h
          exact h
        · rw [if_neg hc] at h
          simp only [List.lookup_cons,hx] at h
          exact h
      simp only [List.lookup_cons,hx]
      exact ih h'
section
variable {X:Cx}{scope:Scope}{cl:List (Str×Addr)}{x:Str}{fv:List Str}{js:List Nat}
theorem CompScope.cell_of (S:CompScope X scope cl x fv js){y:Str}{c:Addr}(h:cl.lookup y=some c):X.env.cells.lookup y=some c:=S.cls (y,c) (PySem.mem_of_lookup h)
theorem CompScope.own (S:CompScope X scope cl x fv js){C:Addr}{y:Str}{k:NameKind}(h:(compEnvC scope cl C X.env).kindOf y=some k)(hk:k=.cell∨k=.free):y∈fv:=by
  have h':(scope.names.map fun (n,k)=>if (k==NameKind.free&&X.env.scope.kind==.function&&X.env.kindOf n==some .cell) then (n,NameKind.cell) else (n,k)).lookup y=some k:=h
  rcases lookup_relabel_back h' with q | ⟨q,_⟩
  · rcases hk with rfl | rfl
    · exact absurd rfl (S.nc _ (PySem.mem_of_lookup q))
    · exact S.fr _ (PySem.mem_of_lookup q) rfl
  · exact S.fr _ (PySem.mem_of_lookup q) rfl
theorem paired_get {F:Str→Nat→Prop}:∀ {ys:List Str} {js:List Nat} {i:Nat} {y:Str},Paired F ys js→ys[i]?=some y→∃ j,js[i]?=some j∧F y j
  | _,_,_,_,.nil,e=>by simp at e
  | _,_,0,_,.cons r _,e=>by simp at e;subst e;exact ⟨_,rfl,r⟩
  | _,_,i+1,y,.cons _ t,e=>by
    obtain ⟨j,h1,h2⟩:=paired_get (i:=i) (y:=y) t (by simpa using e)
    exact ⟨j,by simpa using h1,h2⟩
theorem comp_start {pins:List (Addr×Obj)}{σ:St}{H:Hp}{s:Shared}{h₁:Heap}{ex:List Addr}{tk:Nat}(S:CompScope X scope cl x fv js)(I:Inv X pins σ H s)
    (hf:∀ b∈ex,FpOk X pins H b) (hlt:∀ b∈ex,b<s.heap.objs.size) (hns:h₁.Ns s.heap.objs.size (fun _=>none)) (hk:∀ b o,s.heap.get? b=some o→h₁.get? b=some o):
    Inv (cxComp X scope cl s.heap.objs.size (x::fv) s H ex (X.pn++pins)) [] (none::frv js σ) H { s with heap:=h₁,toks:=tk }:=by
  have nstk:∀ b∈ex,b∉frs X.stack:=fun b hb z=>by
    rcases List.mem_cons.mp (I.stkSub b z) with e | e
    · exact (hf b hb).2.1 e
    · exact (hf b hb).2.2.1 e
  have ok:(cxComp X scope cl s.heap.objs.size (x::fv) s H ex (X.pn++pins)).Ok:=by
    refine ⟨I.ok.mod,S.kind,I.ok.glob,I.ok.blt,Nat.le_refl _,fun y z c h1 h2=>I.ok.inj y z c (S.cell_of h1) (S.cell_of h2),fun y hy=>?_,(fun y c h hc=>by
      have h':((cl.lookup y).any fun c=>decide (s.heap.objs.size<c))=true:=h
      rw [show cl.lookup y=some c from hc] at h'
      exact Nat.le_of_lt (of_decide_eq_true h')),I.ok.hd,I.ok.frames,.inl rfl,
      fun b hb=>⟨Nat.ne_of_lt (hlt b hb),fun y c h=>(hf b hb).2.2.2.2.1 y c (S.cell_of h)⟩,I.bs,Nat.le_trans I.ok.bsz I.sz,fun b o e hb=>?_,nstk,I.stack,I.stkFree⟩
    · have hm:y∈fv:=by
        rcases hy with hy | hy
        · exact S.own hy (.inl rfl)
        · exact S.own hy (.inr rfl)
      exact Option.isSome_iff_exists.mp (S.vis y hm).2.2
    · obtain ⟨f0,f1,f2,f3,f4,f5⟩:=hf b hb
      rcases f3 with z | z
      · exact I.ok.noex b o e z
      · exact absurd (Nat.lt_of_lt_of_le (Heap.lt_size e) (Nat.le_trans I.ok.bsz z)) (Nat.lt_irrefl _)
  refine ⟨ok,rfl,I.bare,Un.kept hk,⟨_,hns,fun i y v e1 e2 e3=>?_⟩,fun y c h=>?_,I.hok.fresh (Nat.le_refl _),fun y c h=>I.freeC y c (S.cell_of h),fun p hp=>?_,I.hok.kept hk,?_⟩
  · cases i with
    | zero=>have z:(some (none:Option V))=some (some v):=e2;cases z
    | succ i=>
      have hy:fv[i]?=some y:=by simpa [cxComp] using e1
      obtain ⟨j,hj,hN⟩:=paired_get S.sl hy
      have hv:σ[j]?=some (some v):=by
        have z:(frv js σ)[i]?=some (some v):=by simpa using e2
        unfold frv at z
        rw [List.getElem?_map,hj] at z
        have z':(σ[j]?).getD none=some v:=Option.some.inj z
        cases q:σ[j]? with
        | none=>rw [q] at z';cases z'
        | some o=>rw [q] at z';exact congrArg some z'
      obtain ⟨hfree,hcell,hsome⟩:=S.vis y (List.mem_of_getElem? hy)
      obtain ⟨m,hn,hl⟩:=I.loc
      obtain ⟨u,ru,look⟩:=hl j y v hN hv (.inr (.inl hcell))
      refine ⟨u,ru,.inr ⟨.inl (lookup_relabel_free I.ok.kind hfree hcell),?_⟩⟩
      obtain ⟨c',hc'⟩:=Option.isSome_iff_exists.mp hsome
      rcases look with ⟨k,_⟩ | ⟨_,c,ec,z⟩
      · have k':X.env.scope.names.lookup y=some .local:=k
        rw [hcell] at k';cases k'
      · have e:=S.cell_of hc'
        rw [ec] at e
        cases e
        exact ⟨_,hc',by obtain ⟨o,ho,hd⟩:=z;exact ⟨o,hk _ _ ho,hd⟩⟩
  · obtain ⟨v,o,ho,hd⟩:=I.cell y c (S.cell_of h)
    exact ⟨v,o,hk _ _ ho,hd⟩
  · have hp':p∈X.pn++pins:=by simpa [cxComp] using hp
    obtain ⟨e,n,ne,nf,d⟩:=I.pin p hp'
    refine ⟨hk _ _ e,n,Nat.ne_of_lt (Heap.lt_size e),fun z=>?_,d⟩
    rcases List.mem_cons.mp (I.stkSub p.1 z) with q | q
    · exact ne q
    · exact nf q
  · show (none::frv js σ).length=(x::fv).length
    have:fv.length=js.length:=Paired.length S.sl
    simp [frv,this]
theorem comp_end {pins pins':List (Addr×Obj)}{σ σ':St}{H H':Hp}{s s':Shared}{h'':Heap}{ex:List Addr}{N:List Str}{pn:List (Addr×Obj)}(I:Inv X pins σ H s)(hf:∀ b∈ex,FpOk X pins H b)
    (J:Inv (cxComp X scope cl s.heap.objs.size N s H ex pn) pins' σ' H' s') (sb:Heap.SameBut s.heap.objs.size s'.heap h''):Inv X pins σ H' { s' with heap:=h'' }:=by
  have neC:∀ b o,s.heap.get? b=some o→b≠s.heap.objs.size:=fun b o e=>Nat.ne_of_lt (Heap.lt_size e)
  have u:Un (frs X.stack) ex H H' s.heap s'.heap:=J.base
  have fr:H' s.heap.objs.size=none:=J.free
  refine I.call' (s':={ s' with heap:=h'' }) (ch:=ex) J.os ⟨fun b o e n hb hx=>?_,fun b o e n hb hx=>?_,u.free,fun b o e hx=>?_,u.tups,u.frzs,u.tbls⟩ (fun b o e=>?_) J.bare (fun b hb=>?_)
  · exact (sb.2 b (neC b o e)).trans (u.keep b o e n hb hx)
  · obtain ⟨sl,q⟩:=u.slot b o e n hb hx
    exact ⟨sl,(sb.2 b (neC b o e)).trans q⟩
  · obtain ⟨o',q⟩:=u.there b o e hx
    exact ⟨o',(sb.2 b (neC b o e)).trans q⟩
  · refine (J.hok b o e).stay (fun c v hc q=>(sb.2 c ?_).trans q) (fun _ q=>q) fun _ _ q=>q
    rcases hc with rfl | hc
    · intro z;rw [z,fr] at e;cases e
    · intro z;rw [z,fr] at hc;cases hc
  · obtain ⟨f0,f1,f2,f3,f4,f5⟩:=hf b hb
    exact ⟨f3,f1,f4,f5⟩
end
def PF (X:Cx)(ifs:List Expr)(t:TT):Prop:=
  ∀ (pins:List (Addr×Obj)) (s:Shared) (σ:St) (H:Hp) (Q:Bool→Hp→Prop),Inv X pins σ H s→t σ H Q→
    wpAny (model X.prog X.w) X.A (forIn ifs true fun c r=>if r=true then do let ok ← isTrue c X.env (eval c X.env);pure (ForInStep.yield ok) else pure (ForInStep.yield r)) (TP X pins σ Q) X.xe s
def tYes:TT:=fun _ H Q=>Q true H
theorem pf_nil {X:Cx}:PF X [] tYes:=by
  intro pins s σ H Q I h
  rw [List.forIn_nil]
  exact wpAny_pure ⟨H,I,h⟩
theorem pf_one {X:Cx}{c:Expr}{t:TT}(h:PT X c t):PF X [c] t:=by
  intro pins s σ H Q I hq
  rw [List.forIn_cons]
  refine wpAny_bind ?_
  rw [if_pos rfl]
  refine wpAny_bind (thn (h pins s σ H Q I hq) fun b s1 q=>wpAny_pure ?_)
  dsimp only
  rw [List.forIn_nil]
  exact wpAny_pure q
section
variable {prog:Program}{w:World}{A:Around}{R:Result→Shared→Prop}{s:Shared}
theorem compLoop_go {elt target iter:Expr}{ifs:List Expr}{scope:Scope}{pos:Pos}{it acc:Value}{env:Env}(I:Nat→Shared→Prop)
    (turn:∀ n s,I n s→wpAny (model prog w) A (pyNext it) (fun r s₁=>match r with
      | none=>R (.ok .next) s₁
      | some v=>wpAny (model prog w) A (letOwnedTupleGo target it v) (fun _ s₁'=>wpAny (model prog w) A (assign target env v) (fun _ s₂=>
          wpAny (model prog w) A (forIn ifs true fun c r=>if r=true then do let ok ← isTrue c env (eval c env);pure (ForInStep.yield ok) else pure (ForInStep.yield r)) (fun ok s₃=>
            if ok=true then wpAny (model prog w) A (eval elt env) (fun x s₄=>
              wpAny (model prog w) A (call (.builtin "list.append") [acc,x]) (fun _ s₅=>∃ m,m<n∧I m s₅) (fun _ _=>False) s₄) (fun _ _=>False) s₃
            else ∃ m,m<n∧I m s₃) (fun _ _=>False) s₂) (fun _ _=>False) s₁') (fun _ _=>False) s₁) (fun _ _=>False) s)
    (n:Nat) (h:I n s):
    codeAny (model prog w) A (.compLoop (.ListComp elt [⟨target,iter,ifs,0⟩] scope pos) 0 it acc env) R s:=by
  refine codeAny_loop rfl I (fun n s hI=>?_) n h
  show wpAny _ A ((compTurn (.ListComp elt [⟨target,iter,ifs,0⟩] scope pos) 0 it acc env).onRaise (fun x=>do noteFrame x env;theTreesLotGoes x)) _ _ s
  refine wpAny_noted ?_
  rw [compTurn_list]
  refine wpAny_bind (wpAny_standAt (wpAny_bind (wpAny_mono (turn n s hI) (fun r s₁ h₁=>?_) fun _ _ h'=>h'.elim)))
  cases r with
  | none=>exact wpAny_pure h₁
  | some v=>
    refine wpAny_bind (wpAny_mono h₁ (fun _ s₁' h₁'=>?_) fun _ _ h'=>h'.elim)
    refine wpAny_bind (wpAny_mono h₁' (fun _ s₂ h₂=>wpAny_bind (wpAny_mono h₂ (fun ok s₃ h₃=>?_) fun _ _ h'=>h'.elim)) fun _ _ h'=>h'.elim)
    cases ok with
    | false=>exact wpAny_pure ⟨rfl,h₃⟩
    | true=>
      exact wpAny_bind (wpAny_bind (wpAny_mono h₃ (fun x s₄ h₄=>wpAny_bind (wpAny_mono h₄ (fun _ s₅ h₅=>wpAny_pure (wpAny_pure ⟨rfl,h₅⟩)) fun _ _ h'=>h'.elim)) fun _ _ h'=>h'.elim))
end
def tComp (wi:TI)(js:List Nat)(tt:TT)(te:TE):TE:=fun σ H Q=>wi σ H fun J H1=>∀ D,H1 D=none→∃ W:Nat→Nat→Hp→Prop,(∃ m,W 0 m (upd H1 D (.lst [])))∧∀ i m H,W i m H→
  (J.stop i H∧Q (.ref D) H)∨(J.go i H∧∀ x H',J.yld i H x H'→tt (some x::frv js σ) H' fun b H2=>
    if b=true then te (some x::frv js σ) H2 fun v H3=>∃ xs,H3 D=some (.lst xs)∧xs.length<sizeLine∧∃ m',m'<m∧W (i+1) m' (upd H3 D (.lst (xs++[v])))
    else ∃ m',m'<m∧W (i+1) m' H2)
theorem pe_comp {X:Cx}{elt iter:Expr}{ifs:List Expr}{x:Str}{px pos:Pos}{scope:Scope}{cl:List (Str×Addr)}{fv:List Str}{js:List Nat}{wi:TI}{tt:TT}{te:TE}(hc:X.calm=true)(hclos:closureFor scope X.env=pure cl)
    (S:CompScope X scope cl x fv js) (hi:PI X (.Name x px) iter wi)
    (ht:∀ (C:Addr) (s₀:Shared) (H₀:Hp) (ex:List Addr) (pn:List (Addr×Obj)),PF (cxComp X scope cl C (x::fv) s₀ H₀ ex pn) ifs tt)
    (he:∀ (C:Addr) (s₀:Shared) (H₀:Hp) (ex:List Addr) (pn:List (Addr×Obj)),PE (cxComp X scope cl C (x::fv) s₀ H₀ ex pn) elt te)
    (hs:∀ x,foldedSetIterable iter X.env x=pure x:=by intro _;rfl):PE X (.ListComp elt [⟨.Name x px,iter,ifs,0⟩] scope pos) (tComp wi js tt te):=by
  intro pins s σ H Q I h
  rw [eval_ListComp]
  refine wpAny_comprehension_free (use:=none) rfl hs hclos S.kind S.nm (thn (hi pins s σ H _ I h) fun v s1 h1=>thn h1 fun itv s2 h2=>?_)
  obtain ⟨it,fp,tn,J,H2,e,I2,T,st2,f2,hW⟩:=h2
  subst e
  have hD:H2 s2.heap.objs.size=none:=I2.hok.fresh (Nat.le_refl _)
  obtain ⟨W,⟨m0,w0⟩,turn⟩:=hW s2.heap.objs.size hD
  have lt2:∀ b∈fp,b<s2.heap.objs.size:=fun b hb=>by
    obtain ⟨o,e,_⟩:=T.obj _ _ st2 b hb
    exact Heap.lt_size e
  refine wpAny_newObj_type (wpAny_newFunctionEnv S.nc (by intro y hy;simp at hy) (fun h₁ hns₁ hsb₁=>?_) S.kind)
  dsimp only at hns₁ hsb₁ ⊢
  have I3:Inv X pins σ (upd H2 s2.heap.objs.size (.lst [])) { s2 with heap:=s2.heap.push { cls:=.type "list",dict:=none,data:=.seq ([]:List Value).toArray } }:=I2.lnew (t':=s2.toks) .nil (Nat.zero_le _)
  generalize hS3:({ s2 with heap:=s2.heap.push { cls:=.type "list",dict:=none,data:=.seq ([]:List Value).toArray } }:Shared)=s3 at I3
  have eh:s3.heap=s2.heap.push { cls:=.type "list",dict:=none,data:=.seq ([]:List Value).toArray }:=by rw [← hS3]
  rw [← eh] at hns₁ hsb₁ ⊢
  have hsz:s3.heap.objs.size=s2.heap.objs.size+1:=by rw [eh,Heap.size_push]
  have k23:∀ b o,s2.heap.get? b=some o→s3.heap.get? b=some o:=fun b o e=>by rw [eh];exact Heap.get?_push_of_some _ e
  have k34:∀ b o,s3.heap.get? b=some o→h₁.get? b=some o:=fun b o e=>hsb₁.extBut b o (Nat.ne_of_lt (Heap.lt_size e)) (Heap.get?_push_of_some _ e)
  have f3:∀ b∈fp,FpOk X pins (upd H2 s2.heap.objs.size (.lst [])) b:=fun b hb=>⟨by rw [upd_ne (Nat.ne_of_lt (lt2 b hb))];exact (f2 b hb).1,(f2 b hb).2⟩
  have lt3:∀ b∈fp,b<s3.heap.objs.size:=fun b hb=>by rw [hsz];exact Nat.lt_succ_of_lt (lt2 b hb)
  have I4:=comp_start (tk:=s3.toks) S I3 f3 lt3 (h₁:=h₁) (by simpa using hns₁) k34
  generalize hY:cxComp X scope cl s3.heap.objs.size (x::fv) s3 (upd H2 s2.heap.objs.size (.lst [])) fp (X.pn++pins)=Y at I4
  have hYp:Y.prog=X.prog:=by rw [← hY];rfl
  have hYw:Y.w=X.w:=by rw [← hY];rfl
  have hYK:Y.K=X.K:=by rw [← hY];rfl
  have hYA:Y.A=X.A:=by rw [← hY];rfl
  have hYc:Y.calm=true:=by rw [← hY];exact hc
  have hYe:Y.env=compEnvC scope cl s3.heap.objs.size X.env:=by rw [← hY];rfl
  have hYx:Y.xe=fun _ _=>False:=by rw [← hY];rfl
  have hYN:Y.N=x::fv:=by rw [← hY];rfl
  have heY:PE Y elt te:=by rw [← hY];exact he _ _ _ _ _
  have htY:PF Y ifs tt:=by rw [← hY];exact ht _ _ _ _ _
  have stat:∀ {H':Hp},(∀ b∈fp,H' b=none)→∀ b∈fp,FpOk Y [] H' b:=fun {H'} hn b hb=>by
    obtain ⟨g0,g1,g2,g3,g4,g5⟩:=f3 b hb
    rw [← hY]
    refine ⟨hn b hb,Nat.ne_of_lt (lt3 b hb),fun z=>?_,.inl hb,fun y c e=>g4 y c (S.cell_of e),fun p hp=>g5 p (by simpa [cxComp] using hp)⟩
    rcases List.mem_cons.mp (I3.stkSub b z) with q | q
    · exact g1 q
    · exact g2 q
  have fin:∀ {i:Nat} {m:Nat} {σ':St} {H':Hp} {s':Shared},Inv Y [] σ' H' s'→Q (.ref s2.heap.objs.size) H'→compPost (model X.prog X.w) X.A X.xe none (EP X pins σ Q) (.ref s2.heap.objs.size) s3.heap.objs.size (.ok .next) s':=fun {i m σ' H' s'} J q=>by
    obtain ⟨mm,hn,_⟩:=J.loc
    rw [← hY] at J hn
    refine ⟨mm,hn,fun h'' sb=>?_⟩
    exact ⟨.ref _,H',comp_end I3 f3 J sb,rfl,q⟩
  have st4:∀ s4:Shared,s4={ s3 with heap:=h₁,toks:=s3.toks }→tn 0 s4.heap:=fun s4 e=>by
    subst e
    exact T.keep _ _ _ st2 fun b hb o e=>k34 b o (k23 b o e)
  have loop:codeAny (model X.prog X.w) X.A (.compLoop (.ListComp elt [⟨.Name x px,iter,ifs,0⟩] scope pos) 0 (.ref it) (.ref s2.heap.objs.size) (compEnvC scope cl s3.heap.objs.size X.env))
      (compPost (model X.prog X.w) X.A X.xe none (EP X pins σ Q) (.ref s2.heap.objs.size) s3.heap.objs.size) { s3 with heap:=h₁,toks:=s3.toks }:=by
    refine compLoop_go (fun n s'=>∃ (i:Nat) (o:Option V) (H':Hp),Inv Y [] (o::frv js σ) H' s'∧tn i s'.heap∧(∀ b∈fp,H' b=none)∧W i n H') ?_ m0 ⟨0,none,_,I4,st4 _ rfl,fun b hb=>(f3 b hb).1,w0⟩
    rintro n s5 ⟨i,o,H5,I5,st5,fr5,w5⟩
    rcases turn i n H5 w5 with ⟨stop,q⟩ | ⟨go,step⟩
    · have r:=T.done Y hYp hYw hYK hYc i [] s5 _ H5 (fun _ _=>False) I5 (stat fr5) st5 stop
      rw [hYA] at r
      refine thn r fun r s6 ⟨hr,I6⟩=>?_
      subst hr
      exact fin (i:=i) (m:=n) I6 q
    · have r:=T.item Y hYp hYw hYK hYc i [] s5 _ H5 (fun _ _=>False) I5 (stat fr5) st5 go
      rw [hYA] at r
      refine thn r fun r s6 ⟨u,hr,h6⟩=>?_
      subst hr
      refine thn h6 fun _ s7 ⟨y,H7,I7,r7,y7,st7,fr7⟩=>?_
      have I7':=I7.pinned (stat fr7) (T.obj _ _ st7)
      have hname:PG Y (.Name x px) (gName 0):=pg_name (X:=Y) (i:=0) (by rw [hYN];exact S.nd) (by rw [hYN];rfl) (.inl (by rw [hYe];exact lookup_relabel_local S.hx)) (.inr (by rw [hYe];exact lookup_relabel_local S.hx))
      have r8:=hname _ s7 _ H7 y u (fun σ' H'=>σ'=some y::frv js σ∧H'=H7) I7' r7 ⟨rfl,rfl⟩
      rw [hYp,hYw,hYA,hYe,hYx] at r8
      refine thn r8 fun _ s8 ⟨σ8,H8,I8,e1,e2⟩=>?_
      subst e1 e2
      have r9:=htY _ s8 _ _ _ I8 (step y _ y7)
      rw [hYp,hYw,hYA,hYe,hYx] at r9
      refine thn r9 fun b s9 ⟨H9,I9,q9⟩=>?_
      have again:∀ {σ':St} {H':Hp} {s':Shared},Inv Y ([]++pinsAt fp s7.heap) (some y::frv js σ) H' s'→(∃ m',m'<n∧W (i+1) m' H')→
          ∃ m,m<n∧∃ (i:Nat) (o:Option V) (H':Hp),Inv Y [] (o::frv js σ) H' s'∧tn i s'.heap∧(∀ b∈fp,H' b=none)∧W i m H':=fun {σ' H' s'} K7 ⟨m',hm,w7⟩=>by
        refine ⟨m',hm,i+1,some y,H',K7.unpinned,T.keep _ _ _ st7 fun b hb o e=>(K7.pin (b,o) (List.mem_append_right _ (List.mem_append_right _ (mem_pinsAt hb e)))).1,fun b hb=>?_,w7⟩
        obtain ⟨o,e,d⟩:=T.obj _ _ st7 b hb
        exact (K7.pin (b,o) (List.mem_append_right _ (List.mem_append_right _ (mem_pinsAt hb e)))).2.1
      cases b with
      | false=>
        rw [if_neg Bool.false_ne_true] at q9 ⊢
        exact again (σ':=[]) I9 q9
      | true=>
        rw [if_pos rfl] at q9 ⊢
        have r10:=heY _ s9 _ _ _ I9 q9
        rw [hYp,hYw,hYA,hYe,hYx] at r10
        refine thn r10 fun v s10 ⟨y10,H10,I10,ry,xs,hxs,hlen,m',hm,w10⟩=>?_
        have r11:=mt_append (X:=Y) _ s10 _ H10 (.ref s2.heap.objs.size) [y10] (.ref s2.heap.objs.size) [v] (fun _ H'=>H'=upd H10 s2.heap.objs.size (.lst (xs++[y10]))) I10 rfl (.cons ry .nil) ⟨_,xs,y10,rfl,rfl,hxs,hlen,rfl⟩
        rw [hYp,hYw,hYA,hYx] at r11
        refine thn r11 fun _ s11 ⟨_,H11,I11,_,e11⟩=>?_
        subst e11
        exact again (σ':=[]) I11 ⟨m',hm,w10⟩
  have loop':∀ s4:Shared,s4={ s3 with heap:=h₁,toks:=s3.toks }→codeAny (model X.prog X.w) X.A (.compLoop (.ListComp elt [⟨.Name x px,iter,ifs,0⟩] scope pos) 0 (.ref it) (.ref s2.heap.objs.size) (compEnvC scope cl s3.heap.objs.size X.env))
      (compPost (model X.prog X.w) X.A X.xe none (EP X pins σ Q) (.ref s2.heap.objs.size) s3.heap.objs.size) s4:=fun s4 e=>by subst e;exact loop
  have e4:∀ t,t=s3.toks→({ s3 with heap:=h₁,toks:=t }:Shared)={ s3 with heap:=h₁,toks:=s3.toks }:=fun t e=>by rw [e]
  have fin4:∀ s4:Shared,s4={ s3 with heap:=h₁,toks:=s3.toks }→codeAny (model X.prog X.w) X.A (.compStart (.ListComp elt [⟨.Name x px,iter,ifs,0⟩] scope pos) 0 (.ref it) (.ref s2.heap.objs.size) (compEnvC scope cl s3.heap.objs.size X.env))
      (compPost (model X.prog X.w) X.A X.xe none (EP X pins σ Q) (.ref s2.heap.objs.size) s3.heap.objs.size) s4:=fun s4 e=>
    codeAny_compStart_list (loop' s4 e) (T.self X.A 0 s4 _ _ (st4 s4 e) (loop' s4 e))
  have es:({ s2 with heap:=s2.heap.push { cls:=.type "list",dict:=none,data:=.seq ([]:List Value).toArray } }:Shared)=s3:=hS3
  refine fin4 _ ?_
  rw [← es]
  rfl
end L2
namespace L2
open PySem PySem.Spec PyProof.Rows
section
variable {P:Program}{w:World}{H:Hp}{h:Heap}{a:Addr}{o:HO}
theorem ObjOk.there (x:ObjOk P w H h a o):∃ ob,h.get? a=some ob:=by
  cases o with
  | lst xs=>obtain ⟨_,_,_,_,e⟩:=x;exact ⟨_,e⟩
  | tup xs=>obtain ⟨_,_,_,ob,e,_⟩:=x;exact ⟨_,e⟩
  | dK kvs=>obtain ⟨_,_,_,_,o,_,_,e,_⟩:=x;exact ⟨_,e⟩
  | dT kvs=>obtain ⟨_,_,_,_,o,_,_,e,_⟩:=x;exact ⟨_,e⟩
  | set S n=>obtain ⟨o,_,_,_,e,_⟩:=x;exact ⟨_,e⟩
  | ins C dx fs=>obtain ⟨_,_,_,e,_⟩:=x;exact ⟨_,e⟩
  | own y=>exact x
  | xd fs=>obtain ⟨_,⟨_,_,_,e,_⟩,_⟩:=x;exact ⟨_,e⟩
  | rng lo hi=>obtain ⟨_,_,_,e⟩:=x;exact ⟨_,e⟩
  | frz ob u=>obtain ⟨e,_⟩:=x;exact ⟨_,e⟩
  | tbl ps=>exact ⟨_,(show h.get? a=some _ from x)⟩
  | met f y=>exact ⟨_,(show h.get? a=some _ from x)⟩
  | ext φ=>obtain ⟨_,e,_⟩:=x;exact e
end
structure FliesB (P:Program)(w:World)(l:List Env)(H H':Hp)(h h' B:Heap):Prop where
  inB:∀ b o,h.get? b=some o→b∉frs l→∃ o1,B.get? b=some o1∧(H b=none→o1=o)
  trk:∀ b u,H' b=some u→∃ o,B.get? b=some o
  st:B.StaysIn h'
  fr:∀ b∈frs l,H b=none∧∃ o,h.get? b=some o∧∀ vs,o.data≠.fields vs
  slot:∀ b o,h.get? b=some o→b∈frs l→∃ sl,h'.get? b=some { o with slots:=sl }
  free:∀ b o,h.get? b=some o→H b=none→H' b=none
  tups:∀ b xs,H b=some (.tup xs)→H' b=some (.tup xs)
  frzs:∀ b o u,H b=some (.frz o u)→H' b=some (.frz o u)
  tbls:∀ b ps,H b=some (.tbl ps)→∃ more,H' b=some (.tbl (ps++more))
  hok:HOk P w H' h'
section
variable {P:Program}{w:World}{l:List Env}{H H':Hp}{h h' h'' B:Heap}
theorem FliesB.step (F:FliesB P w l H H' h h' B)(st:B.StaysIn h'')(up:h'.UpToSlots h''):FliesB P w l H H' h h'' B:=by
  refine ⟨F.inB,F.trk,st,F.fr,fun b o e hb=>?_,F.free,F.tups,F.frzs,F.tbls,fun b u e=>?_⟩
  · obtain ⟨sl,e1⟩:=F.slot b o e hb
    obtain ⟨_,o',e',nd⟩:=F.fr b hb
    rw [e] at e'
    cases e'
    obtain ⟨sl2,e2⟩:=up b _ e1 nd
    exact ⟨sl2,e2⟩
  · refine (F.hok b u e).stay (fun c v hc q=>?_) (fun _ q=>q) fun _ _ q=>q
    obtain ⟨u',hu'⟩:∃ u',H' c=some u':=by
      rcases hc with z | z
      · rw [z];exact ⟨u,e⟩
      · exact ⟨_,z⟩
    obtain ⟨o2,e2⟩:=F.trk c u' hu'
    have e3:=F.st c o2 e2
    rw [q] at e3
    cases e3
    exact st c _ e2
theorem FliesB.un (F:FliesB P w l H H' h h' B):Un (frs l) [] H H' h h' where
  keep:=fun b o e n hb _=>by
    obtain ⟨o1,e1,z⟩:=F.inB b o e hb
    rw [z n] at e1
    exact F.st b o e1
  slot:=fun b o e _ hb _=>F.slot b o e hb
  free:=fun b o e n _=>F.free b o e n
  there:=fun b o e _=>by
    by_cases hb:b∈frs l
    · obtain ⟨sl,e1⟩:=F.slot b o e hb
      exact ⟨_,e1⟩
    · obtain ⟨o1,e1,_⟩:=F.inB b o e hb
      exact ⟨o1,F.st b o1 e1⟩
  tups:=F.tups
  frzs:=F.frzs
  tbls:=F.tbls
end
def CXe (P:Program)(w:World):CXT:=fun outer H s E e s'=>∃ (a:Addr) (cls:Value) (H':Hp) (B:Heap) (a0:Value),e=.ref a∧s'.os=s.os∧AllBare s'.gens∧s.heap.get? a=none∧H' a=none∧
  FliesB P w outer H H' s.heap s'.heap B∧Heap.FlyingW B outer a cls a0 s'.heap∧E cls none H'
theorem CXe.none {P:Program}{w:World}{outer:List Env}{H:Hp}{s:Shared}{e:Value}{s':Shared}(h:CXe P w outer H s (fun _ _ _=>False) e s'):False:=by
  obtain ⟨_,_,_,_,_,_,_,_,_,_,_,_,q⟩:=h
  exact q
section
variable {P:Program}{w:World}{K:PySem.W.Frag}{mg:Str→Option Value}{base:Heap}
theorem Fun.okE {x qual:Str}{st:Stmt}{f:Addr}{fd:FuncData}{N ps:List Str}{k:Nat}{sp:Sp}(F:Fun K x qual st f fd)(S:FnScope N ps (defScope st))(len:∀ vs H Q E,sp vs H Q E→vs.length=ps.length)
    (hbody:∀ (cdv:Value) (A:Around) (outer:List Env) (s:Shared) (H:Hp) (vs:List V) (Q:VK) (E:XK),Room k (A.deeper (envOfC qual (defScope st) s.heap.objs.size f cdv))→sp vs H Q E→
      ∃ t,PSs (cxOf (CXe P w) P w K mg base N qual (defScope st) f cdv A outer s H E) (defBody st) t∧t { nx:=fun _ H'=>Q .non H',rt:=Q } (start N vs) H):FnOk P w K mg base (CXe P w) (k+1) f fd ps sp:=by
  obtain ⟨oc,od,kV,doc,pm,an,cdv,ct,osl,rfl,lk,hcd⟩:=F.ex
  exact fn_of lk hcd S len fun A outer s H vs Q E hr hsp=>hbody cdv A outer s H vs Q E hr hsp
end
section
variable {P:Program}{w:World}{K:PySem.W.Frag}{mg:Str→Option Value}{base:Heap}{N:List Str}{qual:Str}{scope:Scope}{f:Addr}{cd:Value}{A:Around}{outer:List Env}{s:Shared}{H:Hp}{E:XK}
structure ExcC (K:PySem.W.Frag)(x:Str)(C:Addr):Prop where
  ns:PySem.W.nsIn K mainGlobals x=some (some (.ref C))
  ex:PySem.W.excIn K C [.type "ValueError",.type "Exception",.type "BaseException",.type "object"] "ValueError.__new__"=true
def tRaise (C:Addr)(E:XK)(te:TE):TS:=fun _ σ H=>te σ H fun _ H1=>E (.ref C) none H1
end
end L2
namespace L2
open PySem PySem.Spec PyProof.Rows
def cxMark (X:Cx)(a:Addr):Cx:={ X with A:=X.A.mark (some (.ref a)),calm:=false,xe:=fun _ _=>False }
def ExcAt (a:Addr)(cls:Value)(h:Heap):Prop:=∃ o vs,h.get? a=some o∧o.cls=cls∧o.data=.fields vs
def excO (a:Addr)(cls:Value):HO:=.ext (ExcAt a cls)
section
variable {X:Cx}{pins:List (Addr×Obj)}{σ:St}{H:Hp}{s:Shared}{a:Addr}
theorem Cx.Ok.mark (ok:X.Ok)(a:Addr):(cxMark X a).Ok:=
  ⟨ok.mod,ok.kind,ok.glob,ok.blt,ok.above,ok.inj,ok.has,ok.cab,fun z=>absurd (show false=true from z) Bool.false_ne_true,ok.frames,ok.stk,ok.exf,ok.bs,ok.bsz,ok.noex,ok.exfs,ok.funs,ok.frf⟩
theorem Inv.mark (I:Inv X pins σ H s)(a:Addr):Inv (cxMark X a) pins σ H s:=⟨I.ok.mark a,I.os,I.bare,I.base,I.loc,I.cell,I.free,I.freeC,I.pin,I.hok,I.len⟩
end
def tTry1 (K:PySem.W.Frag)(sp:Sp)(t:TA)(Dc:Addr)(i:Nat)(ts:TS):TS:=fun D σ H=>t σ H fun vs H1=>sp (vs++[]) H1 (fun _ H2=>D.nx σ H2) fun cls _ H2=>
  PySem.W.exmOne K cls (.ref Dc)=some true∧∀ a,H2 a=none→ts { nx:=fun σ' H'=>D.nx (σ'.set i none) H',rt:=fun _ _=>False } (σ.set i (some (.ref a))) (upd H2 a (excO a cls))
section
open Builtin Builtin.ObjectAttr Builtin.Getset_descriptor
variable {prog:Program}{w:World}{A:Around}{E:Value→Shared→Prop}{s:Shared}{K:PySem.W.Frag}{a C:Addr}{o:Obj}
structure ExcK (K:PySem.W.Frag)(C:Addr):Prop where
  cl:(PySem.W.clsIn K C).isSome=true
  ga:PySem.W.findIn K (.ref C) "__getattribute__"=some (some (.builtin "BaseException.__getattribute__"))
  gh:PySem.W.findIn K (.ref C) "__getattr__"=some none
  at_:PySem.W.findIn K (.ref C) "__class__"=some (some (.builtin "object.__class__"))
  ob:PySem.W.mroIn K C (.type "object")=some true
  be:PySem.W.mroIn K C (.type "BaseException")=some true
end
end L2
namespace L2
open PySem PySem.Spec PyProof.Rows
section
open Builtin Builtin.ObjectAttr Builtin.Getset_descriptor PySem.W
variable {prog:Program}{w:World}{A:Around}{E:Value→Shared→Prop}{s:Shared}{K:PySem.W.Frag}{a C:Addr}{o:Obj}
end
section
variable {X:Cx}
def rIsE (K:PySem.W.Frag):List V→Hp→VK→Prop:=fun xs H Q=>∃ (a C:Addr) (c:V) (b:Bool),xs=[.ref a,c]∧H a=some (excO a (.ref C))∧ExcK K C∧Q (.bl b) H∧
  ((∃ u,RelV c u∧(∀ i,c≠.int i)∧(∀ i,c≠.str i)∧(∀ i,c≠.byt i)∧(∀ i,c≠.flt i)∧PySem.W.kitOne K (.ref C) u=some b)∨∃ p cs us,c=.ref p∧H p=some (.tup cs)∧Vals cs us∧(∀ vs,Vals cs vs→vs=us)∧PySem.W.kitAny K (.ref C) us=some b)
end
end L2
namespace L2
open PySem PySem.Spec PyProof.Rows
section
variable {X:Cx}{es:List Expr}{te:TE}{t:TA}{pos:Pos}
theorem pa_consT {a0:List Expr}{a1:Nat}(ha:PE X (Expr.Tuple a0 a1 pos) te)(hr:PA X es t):PA X ((Expr.Tuple a0 a1 pos)::es) (tCons te t):=pa_cons ha hr rfl
theorem pa_consL {a0:List Expr}(ha:PE X (Expr.List a0 pos) te)(hr:PA X es t):PA X ((Expr.List a0 pos)::es) (tCons te t):=pa_cons ha hr rfl
theorem pa_consB {a0:Expr}{a1:Operator}{a2:Expr}(ha:PE X (Expr.BinOp a0 a1 a2 pos) te)(hr:PA X es t):PA X ((Expr.BinOp a0 a1 a2 pos)::es) (tCons te t):=pa_cons ha hr rfl
theorem pa_consC {a0:Expr}{a1:List Expr}{a2:List Keyword}(ha:PE X (Expr.Call a0 a1 a2 pos) te)(hr:PA X es t):PA X ((Expr.Call a0 a1 a2 pos)::es) (tCons te t):=pa_cons ha hr rfl
theorem pa_consN {a0:Str}(ha:PE X (Expr.Name a0 pos) te)(hr:PA X es t):PA X ((Expr.Name a0 pos)::es) (tCons te t):=pa_cons ha hr rfl
theorem pa_consK {a0:Const}{a1:Nat}(ha:PE X (Expr.Constant a0 a1 pos) te)(hr:PA X es t):PA X ((Expr.Constant a0 a1 pos)::es) (tCons te t):=pa_cons ha hr rfl
theorem pa_consS {a0:Expr}{a1:Expr}(ha:PE X (Expr.Subscript a0 a1 pos) te)(hr:PA X es t):PA X ((Expr.Subscript a0 a1 pos)::es) (tCons te t):=pa_cons ha hr rfl
theorem pa_consU {a0:UnaryOp}{a1:Expr}(ha:PE X (Expr.UnaryOp a0 a1 pos) te)(hr:PA X es t):PA X ((Expr.UnaryOp a0 a1 pos)::es) (tCons te t):=pa_cons ha hr rfl
theorem pa_consM {a0:Expr}{a1:List CmpOp}{a2:List Expr}(ha:PE X (Expr.Compare a0 a1 a2 pos) te)(hr:PA X es t):PA X ((Expr.Compare a0 a1 a2 pos)::es) (tCons te t):=pa_cons ha hr rfl
theorem pa_consI {a0:Expr}{a1:Expr}{a2:Expr}(ha:PE X (Expr.IfExp a0 a1 a2 pos) te)(hr:PA X es t):PA X ((Expr.IfExp a0 a1 a2 pos)::es) (tCons te t):=pa_cons ha hr rfl
theorem pa_consH {a0:Expr}{a1:List Comprehension}{a2:Scope}(ha:PE X (Expr.ListComp a0 a1 a2 pos) te)(hr:PA X es t):PA X ((Expr.ListComp a0 a1 a2 pos)::es) (tCons te t):=pa_cons ha hr rfl
end
end L2
namespace L2
open PySem PySem.Spec PyProof.Rows
section
variable {X:Cx}
abbrev rPow:R2:=rI CPow fun i j=>.int (i ^ j.toNat)
abbrev rSubI:R2:=rI0 fun i j=>.int (i-j)
end
end L2
namespace L2
open PySem PySem.Spec PyProof.Rows
def Its (z:Str):It:=⟨fun i _=>i<z.cps.size,fun i H x H'=>H'=H∧∃ c,z.cps[i]?=some c∧x=.str ⟨#[c]⟩,fun i _=>i=z.cps.size⟩
section
variable {X:Cx}{tg:Expr}
def iStr (tl:TE):TI:=fun σ H R=>tl σ H fun x H1=>∃ z,x=.str z∧R (Its z) H1
end
theorem range_all_getD:∀ (bs:List Bool),(List.range bs.length).all (fun i=>bs.getD i true)=bs.all id
  | []=>rfl
  | b::bs=>by
    have ih:=range_all_getD bs
    rw [List.length_cons,List.range_succ_eq_map,List.all_cons,List.all_map,List.all_cons]
    simp only [List.getD_cons_zero,id]
    rw [← ih]
    rfl
theorem Vals.bools:∀ {bs:List Bool} {us:List Value} {i:Nat} {v:Value},Vals (bs.map V.bl) us→us[i]?=some v→v=.bool (bs.getD i true)
  | [],_,_,_,.nil,e=>by simp at e
  | b::bs,_,0,_,.cons r _,e=>by
    have e':=Option.some.inj e
    subst e'
    exact r
  | b::bs,_,i+1,v,.cons _ t,e=>by
    have:=Vals.bools (i:=i) (v:=v) t (by simpa using e)
    simpa using this
section
variable {X:Cx}
theorem call_all (hc:X.calm=true):CallR X (.builtin "all") (fun xs H Q=>∃ (p:Addr) (bs:List Bool),xs=[.ref p]∧SqL X.K H p (bs.map V.bl)∧Q (.bl (bs.all id)) H):=by
  intro pins s σ H xs us Q I r h
  obtain ⟨p,bs,rfl,hq,q⟩:=h
  obtain ⟨u,rfl,rx⟩:=vals1 r
  cases rx
  obtain ⟨its,rv,pl,hz⟩:=I.list hq
  have hl:=rv.length
  rw [List.length_map] at hl
  have hlt:p<s.heap.objs.size:=by obtain ⟨o,e,_⟩:=pl.isList;exact Heap.lt_size e
  have hne:p≠s.heap.objs.size:=Nat.ne_of_lt hlt
  refine call_all_walk (wpAny_pyIter_list pl.isList ⟨s.heap.objs.size,[s.heap.objs.size,p],[s.heap.objs.size],its.toArray.size,_,_,fun i=>bs.getD i true,rfl,
    Walks.list (A:=X.A.in1) (show X.A.in1.handled=none from I.ok.hd hc) s.heap.objs.size p hne its.toArray,⟨⟨_,Heap.get?_push_size _ rfl,rfl,rfl⟩,pl.isList.at fun o e=>Heap.get?_push_of_some _ e⟩,?_,fun h' tk kk=>?_⟩)
  · intro i v s' Q' E' hP hQ
    have e:=Vals.bools rv (show its[i]?=some v by simpa using hP)
    subst e
    exact wpAny_truthy_bool hQ
  · have hsz:its.toArray.size=bs.length:=by rw [List.size_toArray,← hl]
    rw [hsz,range_all_getD]
    exact ⟨.bl _,H,I.kept fun b o e=>kk b o (by simp;exact Nat.ne_of_lt (Heap.lt_size e)) (Heap.get?_push_of_some _ e),rfl,q⟩
theorem boot_all:bootBuiltins "all"=some (.builtin "all"):=by decide +kernel
def PJ (X:Cx)(es:List Expr)(t:Str→TE):Prop:=
  ∀ (acc:Str) (pins:List (Addr×Obj)) (s:Shared) (σ:St) (H:Hp) (Q:VK),Inv X pins σ H s→t acc σ H Q→wpAny (model X.prog X.w) X.A (joinParts acc (evalEach es X.env)) (EP X pins σ Q) X.xe s
def jNil:Str→TE:=fun acc _ H Q=>acc.length≤sizeLine∧Q (.str acc) H
def jStr (y:Str)(t:Str→TE):Str→TE:=fun acc σ H Q=>(acc++y).length≤sizeLine∧t (acc++y) σ H Q
def FmtOf:V→Str→Prop
  | .str z,y=>y=z∧z.length≤sizeLine
  | .int i,y=>y=toString i∧i.natAbs.log2<1920
  | _,_=>False
def jFmt (te:TE)(t:Str→TE):Str→TE:=fun acc σ H Q=>te σ H fun x H1=>∃ y,FmtOf x y∧(acc++y).length≤sizeLine∧t (acc++y) σ H1 Q
def tFmt1 (te:TE):TE:=fun σ H Q=>te σ H fun x H1=>∃ y,FmtOf x y∧Q (.str y) H1
theorem Vals.strs:∀ {ts:List Str} {us:List Value},Vals (ts.map V.str) us→∃ l:List (Str×Tok),us=strValues l∧l.map (·.1)=ts
  | [],_,.nil=>⟨[],rfl,rfl⟩
  | t::ts,_,.cons r h=>by
    obtain ⟨l,e1,e2⟩:=Vals.strs h
    obtain ⟨tk,e⟩:=r
    subst e
    exact ⟨(t,tk)::l,by rw [e1];rfl,by rw [List.map_cons,e2]⟩
def rSlS:V→Option Int→Option Int→Hp→VK→Prop:=fun x lo hi H Q=>∃ z,x=.str z∧z.length≤sizeLine∧Q (.str (Txt.slice z lo hi)) H
theorem ixc_list {scope:Scope}{cl:List (Str×Addr)}{C:Addr}{N:List Str}{s₀:Shared}{H₀:Hp}{ex:List Addr}{pn:List (Addr×Obj)}:IxR (cxComp X scope cl C N s₀ H₀ ex pn) (rIxL X.K):=ix_list
theorem ixc_tup {scope:Scope}{cl:List (Str×Addr)}{C:Addr}{N:List Str}{s₀:Shared}{H₀:Hp}{ex:List Addr}{pn:List (Addr×Obj)}:IxR (cxComp X scope cl C N s₀ H₀ ex pn) (rIxT X.K):=ix_tup
def rNeL (K:PySem.W.Frag):R2:=fun x y H Q=>∃ a b xs ys,x=.ref a∧y=.ref b∧SqL K H a xs∧SqL K H b ys∧xs.all flatV=true∧ys.all flatV=true∧Q (.bl (!eqVs xs ys)) H
end
end L2
namespace L2
open PySem PySem.Spec PyProof.Rows
def eqL {α:Type}(f:α→α→Bool):List α→List α→Bool
  | [],[]=>true
  | x::xs,y::ys=>f x y&&eqL f xs ys
  | _,_=>false
def eqLat {α:Type}(f:α→α→Bool)(xs ys:List α)(j:Nat):Bool:=match xs[j]?,ys[j]? with
  | some x,some y=>f x y
  | _,_=>false
theorem eqL_range {α:Type}(f:α→α→Bool):∀ (xs ys:List α),((List.range (min xs.length ys.length)).all (eqLat f xs ys)&&xs.length==ys.length)=eqL f xs ys
  | [],[]=>by simp [eqL]
  | [],y::ys=>by simp [eqL]
  | x::xs,[]=>by simp [eqL]
  | x::xs,y::ys=>by
    have ih:=eqL_range f xs ys
    have hm:min (x::xs).length (y::ys).length=min xs.length ys.length+1:=by simp only [List.length_cons];omega
    rw [hm,all_range_succ]
    have h2:(fun i=>eqLat f (x::xs) (y::ys) (i+1))=eqLat f xs ys:=by funext i;simp [eqLat]
    have h3:((x::xs).length==(y::ys).length)=(xs.length==ys.length):=by simp
    have h4:eqLat f (x::xs) (y::ys) 0=f x y:=by simp [eqLat]
    rw [h2,h3,h4,Bool.and_assoc,ih,eqL]
inductive Itm where
  | fl (x:V) | tp (xs:List V)
def ItAt (H:Hp):V→Itm→Prop
  | x,.fl y=>x=y∧flatV y=true
  | x,.tp xs=>∃ q,x=.ref q∧H q=some (.tup xs)∧xs.all flatV=true
def eqItm:Itm→Itm→Bool
  | .fl x,.fl y=>eqV x y
  | .tp xs,.tp ys=>eqVs xs ys
  | _,_=>false
section
variable {X:Cx}{pins:List (Addr×Obj)}{σ:St}{H:Hp}{s:Shared}
def rEqN (neg:Bool):R2:=fun x y H Q=>∃ a b xs ys is js,x=.ref a∧y=.ref b∧H a=some (.tup xs)∧H b=some (.tup ys)∧Paired (ItAt H) xs is∧Paired (ItAt H) ys js∧Q (.bl (if neg then !eqL eqItm is js else eqL eqItm is js)) H
theorem paired_at {α β:Type}{F:α→β→Prop}:∀ {xs:List α} {ys:List β},Paired F xs ys→∀ {j:Nat} {x:α},xs[j]?=some x→∃ y,ys[j]?=some y∧F x y
  | _,_,.nil,_,_,e=>by simp at e
  | _,_,.cons r _,0,_,e=>by simp at e;subst e;exact ⟨_,rfl,r⟩
  | _,_,.cons _ t,j+1,x,e=>by
    obtain ⟨y,h1,h2⟩:=paired_at t (j:=j) (x:=x) (by simpa using e)
    exact ⟨y,by simpa using h1,h2⟩
def rInN:R2:=fun x y H Q=>∃ p us,x=.non∧y=.ref p∧H p=some (.lst us)∧(∀ u∈us,∃ q xs,u=.ref q∧H q=some (.tup xs))∧Q (.bl false) H
theorem vals_mem:∀ {xs:List V} {us:List Value},Vals xs us→∀ u∈us,∃ x∈xs,RelV x u
  | _,_,.nil,u,hu=>by cases hu
  | _,_,.cons r t,u,hu=>by
    rcases List.mem_cons.mp hu with rfl | hu
    · exact ⟨_,List.mem_cons_self ..,r⟩
    · obtain ⟨x,hx,rx⟩:=vals_mem t u hu
      exact ⟨x,List.mem_cons_of_mem _ hx,rx⟩
def tCallV (tf:TE)(ok:Addr→Sp→Prop)(t:TA):TE:=fun σ H Q=>tf σ H fun x H1=>∃ f sp,x=.ref f∧ok f sp∧t σ H1 fun vs H2=>sp (vs++[]) H2 Q E0
end
end L2
namespace L2
open PySem PySem.Spec PyProof.Rows
theorem comp_gen {X:Cx}{elt iter:Expr}{ifs:List Expr}{x:Str}{px pos:Pos}{scope:Scope}{cl:List (Str×Addr)}{fv:List Str}{js:List Nat}{wi:TI}{tt:TT}{te:TE}(hc:X.calm=true)(hclos:closureFor scope X.env=pure cl)
    (S:CompScope X scope cl x fv js) (hi:PI X (.Name x px) iter wi)
    (ht:∀ (C:Addr) (s₀:Shared) (H₀:Hp) (ex:List Addr) (pn:List (Addr×Obj)),PF (cxComp X scope cl C (x::fv) s₀ H₀ ex pn) ifs tt)
    (he:∀ (C:Addr) (s₀:Shared) (H₀:Hp) (ex:List Addr) (pn:List (Addr×Obj)),PE (cxComp X scope cl C (x::fv) s₀ H₀ ex pn) elt te)
    (hs:∀ x,foldedSetIterable iter X.env x=pure x) {use:Option (Value→Sem Unit)} {QQ:Value→Shared→Prop} {pins:List (Addr×Obj)} {s:Shared} {σ:St} {H:Hp} {Q:VK} (I:Inv X pins σ H s) (h:tComp wi js tt te σ H Q)
    (hfin:∀ (D:Addr) (s3:Shared) (H3:Hp) (fp:List Addr) (pn:List (Addr×Obj)) (N:List Str) (pins':List (Addr×Obj)) (σ':St) (H':Hp) (s':Shared),Inv X pins σ H3 s3→(∀ b∈fp,FpOk X pins H3 b)→
      Inv (cxComp X scope cl s3.heap.objs.size N s3 H3 fp pn) pins' σ' H' s'→Q (.ref D) H'→compPost (model X.prog X.w) X.A X.xe use QQ (.ref D) s3.heap.objs.size (.ok .next) s'):
    wpAny (model X.prog X.w) X.A (comprehension (.ListComp elt [⟨.Name x px,iter,ifs,0⟩] scope pos) scope X.env (firstIterPos [⟨.Name x px,iter,ifs,0⟩] pos) (newList []) (firstAsync [⟨.Name x px,iter,ifs,0⟩]) (firstIter [⟨.Name x px,iter,ifs,0⟩] X.env) use) QQ X.xe s:=by
  refine wpAny_comprehension_free (use:=use) rfl hs hclos S.kind S.nm (thn (hi pins s σ H _ I h) fun v s1 h1=>thn h1 fun itv s2 h2=>?_)
  obtain ⟨it,fp,tn,J,H2,e,I2,T,st2,f2,hW⟩:=h2
  subst e
  have hD:H2 s2.heap.objs.size=none:=I2.hok.fresh (Nat.le_refl _)
  obtain ⟨W,⟨m0,w0⟩,turn⟩:=hW s2.heap.objs.size hD
  have lt2:∀ b∈fp,b<s2.heap.objs.size:=fun b hb=>by
    obtain ⟨o,e,_⟩:=T.obj _ _ st2 b hb
    exact Heap.lt_size e
  refine wpAny_newObj_type (wpAny_newFunctionEnv S.nc (by intro y hy;simp at hy) (fun h₁ hns₁ hsb₁=>?_) S.kind)
  dsimp only at hns₁ hsb₁ ⊢
  have I3:Inv X pins σ (upd H2 s2.heap.objs.size (.lst [])) { s2 with heap:=s2.heap.push { cls:=.type "list",dict:=none,data:=.seq ([]:List Value).toArray } }:=I2.lnew (t':=s2.toks) .nil (Nat.zero_le _)
  generalize hS3:({ s2 with heap:=s2.heap.push { cls:=.type "list",dict:=none,data:=.seq ([]:List Value).toArray } }:Shared)=s3 at I3
  have eh:s3.heap=s2.heap.push { cls:=.type "list",dict:=none,data:=.seq ([]:List Value).toArray }:=by rw [← hS3]
  rw [← eh] at hns₁ hsb₁ ⊢
  have hsz:s3.heap.objs.size=s2.heap.objs.size+1:=by rw [eh,Heap.size_push]
  have k23:∀ b o,s2.heap.get? b=some o→s3.heap.get? b=some o:=fun b o e=>by rw [eh];exact Heap.get?_push_of_some _ e
  have k34:∀ b o,s3.heap.get? b=some o→h₁.get? b=some o:=fun b o e=>hsb₁.extBut b o (Nat.ne_of_lt (Heap.lt_size e)) (Heap.get?_push_of_some _ e)
  have f3:∀ b∈fp,FpOk X pins (upd H2 s2.heap.objs.size (.lst [])) b:=fun b hb=>⟨by rw [upd_ne (Nat.ne_of_lt (lt2 b hb))];exact (f2 b hb).1,(f2 b hb).2⟩
  have lt3:∀ b∈fp,b<s3.heap.objs.size:=fun b hb=>by rw [hsz];exact Nat.lt_succ_of_lt (lt2 b hb)
  have I4:=comp_start (tk:=s3.toks) S I3 f3 lt3 (h₁:=h₁) (by simpa using hns₁) k34
  generalize hY:cxComp X scope cl s3.heap.objs.size (x::fv) s3 (upd H2 s2.heap.objs.size (.lst [])) fp (X.pn++pins)=Y at I4
  have hYp:Y.prog=X.prog:=by rw [← hY];rfl
  have hYw:Y.w=X.w:=by rw [← hY];rfl
  have hYK:Y.K=X.K:=by rw [← hY];rfl
  have hYA:Y.A=X.A:=by rw [← hY];rfl
  have hYc:Y.calm=true:=by rw [← hY];exact hc
  have hYe:Y.env=compEnvC scope cl s3.heap.objs.size X.env:=by rw [← hY];rfl
  have hYx:Y.xe=fun _ _=>False:=by rw [← hY];rfl
  have hYN:Y.N=x::fv:=by rw [← hY];rfl
  have heY:PE Y elt te:=by rw [← hY];exact he _ _ _ _ _
  have htY:PF Y ifs tt:=by rw [← hY];exact ht _ _ _ _ _
  have stat:∀ {H':Hp},(∀ b∈fp,H' b=none)→∀ b∈fp,FpOk Y [] H' b:=fun {H'} hn b hb=>by
    obtain ⟨g0,g1,g2,g3,g4,g5⟩:=f3 b hb
    rw [← hY]
    refine ⟨hn b hb,Nat.ne_of_lt (lt3 b hb),fun z=>?_,.inl hb,fun y c e=>g4 y c (S.cell_of e),fun p hp=>g5 p (by simpa [cxComp] using hp)⟩
    rcases List.mem_cons.mp (I3.stkSub b z) with q | q
    · exact g1 q
    · exact g2 q
  have fin:∀ {i:Nat} {m:Nat} {σ':St} {H':Hp} {s':Shared},Inv Y [] σ' H' s'→Q (.ref s2.heap.objs.size) H'→compPost (model X.prog X.w) X.A X.xe use QQ (.ref s2.heap.objs.size) s3.heap.objs.size (.ok .next) s':=fun {i m σ' H' s'} J q=>by
    rw [← hY] at J
    exact hfin _ _ _ _ _ _ _ _ _ _ I3 f3 J q
  have st4:∀ s4:Shared,s4={ s3 with heap:=h₁,toks:=s3.toks }→tn 0 s4.heap:=fun s4 e=>by
    subst e
    exact T.keep _ _ _ st2 fun b hb o e=>k34 b o (k23 b o e)
  have loop:codeAny (model X.prog X.w) X.A (.compLoop (.ListComp elt [⟨.Name x px,iter,ifs,0⟩] scope pos) 0 (.ref it) (.ref s2.heap.objs.size) (compEnvC scope cl s3.heap.objs.size X.env))
      (compPost (model X.prog X.w) X.A X.xe use QQ (.ref s2.heap.objs.size) s3.heap.objs.size) { s3 with heap:=h₁,toks:=s3.toks }:=by
    refine compLoop_go (fun n s'=>∃ (i:Nat) (o:Option V) (H':Hp),Inv Y [] (o::frv js σ) H' s'∧tn i s'.heap∧(∀ b∈fp,H' b=none)∧W i n H') ?_ m0 ⟨0,none,_,I4,st4 _ rfl,fun b hb=>(f3 b hb).1,w0⟩
    rintro n s5 ⟨i,o,H5,I5,st5,fr5,w5⟩
    rcases turn i n H5 w5 with ⟨stop,q⟩ | ⟨go,step⟩
    · have r:=T.done Y hYp hYw hYK hYc i [] s5 _ H5 (fun _ _=>False) I5 (stat fr5) st5 stop
      rw [hYA] at r
      refine thn r fun r s6 ⟨hr,I6⟩=>?_
      subst hr
      exact fin (i:=i) (m:=n) I6 q
    · have r:=T.item Y hYp hYw hYK hYc i [] s5 _ H5 (fun _ _=>False) I5 (stat fr5) st5 go
      rw [hYA] at r
      refine thn r fun r s6 ⟨u,hr,h6⟩=>?_
      subst hr
      refine thn h6 fun _ s7 ⟨y,H7,I7,r7,y7,st7,fr7⟩=>?_
      have I7':=I7.pinned (stat fr7) (T.obj _ _ st7)
      have hname:PG Y (.Name x px) (gName 0):=pg_name (X:=Y) (i:=0) (by rw [hYN];exact S.nd) (by rw [hYN];rfl) (.inl (by rw [hYe];exact lookup_relabel_local S.hx)) (.inr (by rw [hYe];exact lookup_relabel_local S.hx))
      have r8:=hname _ s7 _ H7 y u (fun σ' H'=>σ'=some y::frv js σ∧H'=H7) I7' r7 ⟨rfl,rfl⟩
      rw [hYp,hYw,hYA,hYe,hYx] at r8
      refine thn r8 fun _ s8 ⟨σ8,H8,I8,e1,e2⟩=>?_
      subst e1 e2
      have r9:=htY _ s8 _ _ _ I8 (step y _ y7)
      rw [hYp,hYw,hYA,hYe,hYx] at r9
      refine thn r9 fun b s9 ⟨H9,I9,q9⟩=>?_
      have again:∀ {σ':St} {H':Hp} {s':Shared},Inv Y ([]++pinsAt fp s7.heap) (some y::frv js σ) H' s'→(∃ m',m'<n∧W (i+1) m' H')→
          ∃ m,m<n∧∃ (i:Nat) (o:Option V) (H':Hp),Inv Y [] (o::frv js σ) H' s'∧tn i s'.heap∧(∀ b∈fp,H' b=none)∧W i m H':=fun {σ' H' s'} K7 ⟨m',hm,w7⟩=>by
        refine ⟨m',hm,i+1,some y,H',K7.unpinned,T.keep _ _ _ st7 fun b hb o e=>(K7.pin (b,o) (List.mem_append_right _ (List.mem_append_right _ (mem_pinsAt hb e)))).1,fun b hb=>?_,w7⟩
        obtain ⟨o,e,d⟩:=T.obj _ _ st7 b hb
        exact (K7.pin (b,o) (List.mem_append_right _ (List.mem_append_right _ (mem_pinsAt hb e)))).2.1
      cases b with
      | false=>
        rw [if_neg Bool.false_ne_true] at q9 ⊢
        exact again (σ':=[]) I9 q9
      | true=>
        rw [if_pos rfl] at q9 ⊢
        have r10:=heY _ s9 _ _ _ I9 q9
        rw [hYp,hYw,hYA,hYe,hYx] at r10
        refine thn r10 fun v s10 ⟨y10,H10,I10,ry,xs,hxs,hlen,m',hm,w10⟩=>?_
        have r11:=mt_append (X:=Y) _ s10 _ H10 (.ref s2.heap.objs.size) [y10] (.ref s2.heap.objs.size) [v] (fun _ H'=>H'=upd H10 s2.heap.objs.size (.lst (xs++[y10]))) I10 rfl (.cons ry .nil) ⟨_,xs,y10,rfl,rfl,hxs,hlen,rfl⟩
        rw [hYp,hYw,hYA,hYx] at r11
        refine thn r11 fun _ s11 ⟨_,H11,I11,_,e11⟩=>?_
        subst e11
        exact again (σ':=[]) I11 ⟨m',hm,w10⟩
  have loop':∀ s4:Shared,s4={ s3 with heap:=h₁,toks:=s3.toks }→codeAny (model X.prog X.w) X.A (.compLoop (.ListComp elt [⟨.Name x px,iter,ifs,0⟩] scope pos) 0 (.ref it) (.ref s2.heap.objs.size) (compEnvC scope cl s3.heap.objs.size X.env))
      (compPost (model X.prog X.w) X.A X.xe use QQ (.ref s2.heap.objs.size) s3.heap.objs.size) s4:=fun s4 e=>by subst e;exact loop
  have e4:∀ t,t=s3.toks→({ s3 with heap:=h₁,toks:=t }:Shared)={ s3 with heap:=h₁,toks:=s3.toks }:=fun t e=>by rw [e]
  have fin4:∀ s4:Shared,s4={ s3 with heap:=h₁,toks:=s3.toks }→codeAny (model X.prog X.w) X.A (.compStart (.ListComp elt [⟨.Name x px,iter,ifs,0⟩] scope pos) 0 (.ref it) (.ref s2.heap.objs.size) (compEnvC scope cl s3.heap.objs.size X.env))
      (compPost (model X.prog X.w) X.A X.xe use QQ (.ref s2.heap.objs.size) s3.heap.objs.size) s4:=fun s4 e=>
    codeAny_compStart_list (loop' s4 e) (T.self X.A 0 s4 _ _ (st4 s4 e) (loop' s4 e))
  have es:({ s2 with heap:=s2.heap.push { cls:=.type "list",dict:=none,data:=.seq ([]:List Value).toArray } }:Shared)=s3:=hS3
  refine fin4 _ ?_
  rw [← es]
  rfl
theorem ps_setC {X:Cx}{i:Nat}{y:Str}{elt iter:Expr}{ifs:List Expr}{x:Str}{px pos py spos:Pos}{scope:Scope}{cl:List (Str×Addr)}{fv:List Str}{js:List Nat}{wi:TI}{tt:TT}{te:TE}(hN:X.N.Nodup)(hi0:X.N[i]?=some y)(hy:X.env.scope.names.lookup y=some .local)
    (hc:X.calm=true) (hclos:closureFor scope X.env=pure cl)
    (S:CompScope X scope cl x fv js) (hi:PI X (.Name x px) iter wi)
    (ht:∀ (C:Addr) (s₀:Shared) (H₀:Hp) (ex:List Addr) (pn:List (Addr×Obj)),PF (cxComp X scope cl C (x::fv) s₀ H₀ ex pn) ifs tt)
    (he:∀ (C:Addr) (s₀:Shared) (H₀:Hp) (ex:List Addr) (pn:List (Addr×Obj)),PE (cxComp X scope cl C (x::fv) s₀ H₀ ex pn) elt te)
    (hs:∀ x,foldedSetIterable iter X.env x=pure x:=by intro _;rfl)
    (hsw:swapsWith (.ListComp elt [⟨.Name x px,iter,ifs,0⟩] scope pos) (some (.Name y py)) spos.line X.env=pure true:=by rfl):
    PS X (.Assign [.Name y py] (.ListComp elt [⟨.Name x px,iter,ifs,0⟩] scope pos) spos) (tAsg (tComp wi js tt te) (gName i)):=by
  intro pins s σ H D I h
  rw [exec_Assign_Name_used _ _ _ _ hsw]
  refine wpAny_bind (wpAny_standAt (wpAny_bind ?_))
  rw [arm_evalThenUse_ListComp]
  refine wpAny_bind (comp_gen (Q:=fun v H1=>D.nx (σ.set i (some v)) H1) hc hclos S hi ht he hs I h ?_)
  intro L s3 H3 fp pn N pins' σ' H' s' I3 f3 J q
  obtain ⟨mm,hn,_⟩:=id J.loc
  have sb0:Heap.SameBut s3.heap.objs.size s'.heap s'.heap:=⟨rfl,fun _ _=>rfl⟩
  have I':Inv X pins σ H' s':=comp_end I3 f3 J sb0
  have ok:=I3.fpOk (H':=H') (Nat.le_refl _) (show H' s3.heap.objs.size=none from J.free)
  obtain ⟨f0,f1,f2,f4,f5,f6⟩:=ok
  refine wpAny_assign_Name (store_ok2 I' hN hi0 (.inl hy) (v:=.ref L) rfl (fun s2 I2 ⟨a,hsb,ha⟩=>?_) (.inr hy))
  have nac:s3.heap.objs.size≠a:=fun z=>by
    rcases ha with ha | ha
    · exact f1 (z.trans ha)
    · exact f5 _ _ ha z.symm
  refine ⟨mm,hn.sameBut hsb nac,fun h'' sb=>?_⟩
  have I4:Inv X pins (σ.set i (some (.ref L))) H' { s2 with heap:=h'' }:=I2.turned (t':=s2.toks) (fun b o hb e=>(sb.2 b hb).trans e) f0 f1 f4 f5 f6
  exact wpAny_pure (wpAny_pure ⟨_,H',I4,q⟩)
end L2
namespace L2
open PySem PySem.Spec PyProof.Rows
section
variable {X:Cx}
def rMulS:R2:=fun x y H Q=>∃ z n,x=.str z∧y=.int n∧MulOk z n∧Q (.str (Txt.mul z n)) H
theorem nofill_tup:fillsNumberSlot (.type "tuple") "mul"=pure false:=
  PySem.fillsNumberSlot_seq (id:="tuple.__mul__") (r:=some (.builtin "tuple.__rmul__")) F.slot_tuple_mul.lookup (by decide +kernel) F.slot_tuple_rmul.lookup (by decide +kernel)
theorem repeat_tup:seqRepeat? (.type "tuple")=pure (some (.builtin "tuple.__mul__")):=by
  unfold seqRepeat?
  rw [PySem.seqSlot_of (T:="tuple") (name:="__mul__") (id:="tuple.__mul__") F.slot_tuple_mul.lookup (by decide +kernel),
    PySem.seqSlot_of (T:="tuple") (name:="__rmul__") (id:="tuple.__rmul__") F.slot_tuple_rmul.lookup (by decide +kernel)]
  rfl
theorem rmul_tup (a:Int)(t:Tok)(l:Addr)(its:Array Value)(n:Nat)(dd:Option Addr)(sl:Array (Option Value)):
    Meets (Builtin.«int.__rmul__» ⟨[.int a t,.ref l],[]⟩) (fun _ R s=>s.heap.get? l=some ⟨.type "tuple",dd,.seq its n,sl⟩∧R (.ok (.ret Value.notImplemented)) s):=
  .of_wp fun prog w A R s h=>by
    obtain ⟨hp,g,d,tk,os⟩:=s
    obtain ⟨hl,h⟩:=h
    wp_walk
    exact ⟨_,rfl,h⟩
def rDbl:R2:=fun x y H Q=>∃ t v,x=.ref t∧y=.int 2∧H t=some (.tup [v])∧∀ p,H p=none→Q (.ref p) (upd H p (.tup [v,v]))
end
end L2
namespace L2
open PySem PySem.Spec PyProof.Rows
section
variable {κ:Type}[DecidableEq κ]
def valV (kvs:List (κ×V))(k:κ):Option V:=(kvs.find? fun kv=>decide (kv.1=k)).map (·.2)
def putK (kvs:List (κ×V))(k:κ)(v:V):List (κ×V):=
  if (kvs.any fun kv=>decide (kv.1=k))=true then kvs.map (fun kv=>if kv.1=k then (kv.1,v) else kv) else kvs++[(k,v)]
def dropK (kvs:List (κ×V))(k:κ):List (κ×V):=kvs.filter fun kv=>decide (kv.1≠k)
theorem valV_pos {p:κ×V}{r:List (κ×V)}{k:κ}(e:p.1=k):valV (p::r) k=some p.2:=by simp [valV,List.find?_cons,e]
theorem valV_neg {p:κ×V}{r:List (κ×V)}{k:κ}(e:¬ p.1=k):valV (p::r) k=valV r k:=by simp [valV,List.find?_cons,e]
theorem valV_any (k:κ):∀ kvs:List (κ×V),(kvs.any fun kv=>decide (kv.1=k))=(valV kvs k).isSome
  | []=>rfl
  | p::r=>by
    rw [List.any_cons]
    by_cases e:p.1=k
    · simp only [valV_pos e,decide_eq_true e,Bool.true_or,Option.isSome_some]
    · rw [valV_neg e,decide_eq_false e,Bool.false_or];exact valV_any k r
theorem valV_map (k j:κ)(y:V):∀ kvs:List (κ×V),valV (kvs.map fun kv=>if kv.1=k then (kv.1,y) else kv) j=(valV kvs j).map fun x=>if j=k then y else x
  | []=>rfl
  | p::r=>by
    have ih:=valV_map k j y r
    rw [List.map_cons]
    by_cases h:p.1=k
    · rw [if_pos h]
      by_cases e:p.1=j
      · rw [valV_pos (p:=(p.1,y)) e,valV_pos e,Option.map_some,if_pos (e.symm.trans h)]
      · rw [valV_neg (p:=(p.1,y)) e,valV_neg e,ih]
    · rw [if_neg h]
      by_cases e:p.1=j
      · rw [valV_pos (p:=p) e,valV_pos e,Option.map_some,if_neg (fun z=>h (e.trans z))]
      · rw [valV_neg (p:=p) e,valV_neg e,ih]
theorem valV_snoc (k j:κ)(y:V):∀ kvs:List (κ×V),valV kvs k=none→valV (kvs++[(k,y)]) j=if j=k then some y else valV kvs j
  | [],_=>by
    by_cases e:k=j
    · rw [if_pos e.symm];exact valV_pos (p:=(k,y)) e
    · rw [if_neg (fun z=>e z.symm)];exact valV_neg (p:=(k,y)) e
  | p::r,hn=>by
    rw [List.cons_append]
    have hk:¬ p.1=k:=fun z=>by rw [valV_pos z] at hn;cases hn
    rw [valV_neg hk] at hn
    have ih:=valV_snoc k j y r hn
    by_cases e:p.1=j
    · rw [valV_pos e,valV_pos e,if_neg (fun z=>hk (e.trans z))]
    · rw [valV_neg e,valV_neg e,ih]
theorem valV_put (kvs:List (κ×V))(k j:κ)(y:V):valV (putK kvs k y) j=if j=k then some y else valV kvs j:=by
  unfold putK
  by_cases a:(kvs.any fun kv=>decide (kv.1=k))=true
  · rw [if_pos a,valV_map]
    rw [valV_any] at a
    by_cases e:j=k
    · obtain ⟨x,hx⟩:=Option.isSome_iff_exists.mp a
      rw [if_pos e,e,hx,Option.map_some,if_pos rfl]
    · rw [if_neg e]
      cases valV kvs j with
      | none=>rfl
      | some x=>rw [Option.map_some,if_neg e]
  · rw [if_neg a]
    refine valV_snoc k j y kvs ?_
    rw [valV_any] at a
    cases q:valV kvs k with
    | none=>rfl
    | some x=>rw [q] at a;exact (a rfl).elim
theorem length_putK (kvs:List (κ×V))(k:κ)(v:V):(putK kvs k v).length≤kvs.length+1:=by
  unfold putK
  split
  · rw [List.length_map];omega
  · rw [List.length_append,List.length_cons,List.length_nil];omega
theorem RelO.isSome_eq {o:Option V}{u:Option Value}(r:RelO o u):o.isSome=u.isSome:=by
  cases o with
  | none=>cases u with
    | none=>rfl
    | some _=>exact (show False from r).elim
  | some _=>cases u with
    | none=>exact (show False from r).elim
    | some _=>rfl
theorem RelO.getD {o:Option V}{u:Option Value}{d:V}{d':Value}(r:RelO o u)(rd:RelV d d'):RelV (o.getD d) (u.getD d'):=by
  cases o with
  | none=>cases u with
    | none=>exact rd
    | some _=>exact (show False from r).elim
  | some _=>cases u with
    | none=>exact (show False from r).elim
    | some _=>exact r
theorem KV.val {kvs:List (κ×V)}{vs:List (κ×Value)}(r:KV kvs vs)(k:κ):RelO (valV kvs k) (valueAt vs k):=by
  unfold KV at r
  induction r with
  | nil=>exact True.intro
  | @cons p q ps qs h t ih=>
    obtain ⟨h1,h2⟩:=h
    by_cases e:p.1=k
    · have e':q.1=k:=h1.symm.trans e
      have b:valueAt (q::qs) k=some q.2:=by simp [valueAt,List.find?_cons,e']
      rw [valV_pos e,b];exact h2
    · have e':¬ q.1=k:=fun z=>e (h1.trans z)
      have b:valueAt (q::qs) k=valueAt qs k:=by simp [valueAt,List.find?_cons,e']
      rw [valV_neg e,b];exact ih
theorem KV.any {kvs:List (κ×V)}{vs:List (κ×Value)}(r:KV kvs vs)(k:κ):(kvs.any fun kv=>decide (kv.1=k))=vs.any fun kv=>decide (kv.1=k):=by
  unfold KV at r
  induction r with
  | nil=>rfl
  | cons h t ih=>rw [List.any_cons,List.any_cons,ih,h.1]
theorem KV.repl {kvs:List (κ×V)}{vs:List (κ×Value)}(r:KV kvs vs)(k:κ){y:V}{u:Value}(ry:RelV y u):
    KV (kvs.map fun kv=>if kv.1=k then (kv.1,y) else kv) (vs.map fun kv=>if kv.1=k then (kv.1,u) else kv):=by
  unfold KV at r ⊢
  induction r with
  | nil=>exact .nil
  | @cons p q ps qs h t ih=>
    rw [List.map_cons,List.map_cons]
    refine .cons ?_ ih
    obtain ⟨h1,h2⟩:=h
    by_cases e:p.1=k
    · rw [if_pos e,if_pos (h1.symm.trans e)];exact ⟨h1,ry⟩
    · rw [if_neg e,if_neg (fun z=>e (h1.trans z))];exact ⟨h1,h2⟩
theorem KV.put {kvs:List (κ×V)}{vs:List (κ×Value)}(r:KV kvs vs)(k:κ){y:V}{u:Value}(ry:RelV y u):KV (putK kvs k y) (stored vs k u):=by
  unfold putK stored
  rw [r.any k]
  by_cases e:(vs.any fun kv=>decide (kv.1=k))=true
  · rw [if_pos e,if_pos e];exact r.repl k ry
  · rw [if_neg e,if_neg e];exact Paired.snoc r ⟨rfl,ry⟩
theorem KV.drop {kvs:List (κ×V)}{vs:List (κ×Value)}(r:KV kvs vs)(k:κ):KV (dropK kvs k) (without vs k):=by
  unfold KV at r ⊢
  unfold dropK without
  induction r with
  | nil=>exact .nil
  | @cons p q ps qs h t ih=>
    obtain ⟨h1,h2⟩:=h
    rw [List.filter_cons,List.filter_cons]
    by_cases e:p.1=k
    · have a:¬ decide (p.1≠k)=true:=by simp [e]
      have b:¬ decide (q.1≠k)=true:=by simp [h1.symm.trans e]
      rw [if_neg a,if_neg b];exact ih
    · have e':¬ q.1=k:=fun z=>e (h1.trans z)
      have a:decide (p.1≠k)=true:=by simp [e]
      have b:decide (q.1≠k)=true:=by simp [e']
      rw [if_pos a,if_pos b];exact .cons ⟨h1,h2⟩ ih
theorem KV.keys {kvs:List (κ×V)}{vs:List (κ×Value)}(r:KV kvs vs):kvs.map (·.1)=vs.map (·.1):=by
  unfold KV at r
  induction r with
  | nil=>rfl
  | cons h t ih=>rw [List.map_cons,List.map_cons,ih,h.1]
theorem KV.length {kvs:List (κ×V)}{vs:List (κ×Value)}(r:KV kvs vs):kvs.length=vs.length:=Paired.length r
end
theorem kV_is {P:Program}{w:World}{k:Key}{u:Value}(r:RelV (kV k) u):(mixKind P w).is k u=true:=by
  cases k with
  | inl i=>obtain ⟨t,e⟩:=(show ∃ t,u=Value.int i t from r);subst e;exact mixKind_int P w i t
  | inr x=>obtain ⟨t,e⟩:=(show ∃ t,u=Value.str x t from r);subst e;exact mixKind_str P w x t
theorem items_are {P:Program}{w:World}:∀ {ks:List Key} {us:List Value},Vals (ks.map kV) us→ItemsAre (mixKind P w) ks us
  | [],_,r=>by rw [List.map_nil] at r;cases r;exact .nil
  | k::ks,_,r=>by
    rw [List.map_cons] at r
    cases r with
    | cons h t=>exact .cons (kV_is h) (items_are t)
abbrev KT (H:Hp):List (List Key×V)→List (List Key×Addr×Value)→Prop:=Paired fun p q=>p.1=q.1∧H q.2.1=some (.tup (p.1.map kV))∧RelV p.2 q.2.2
theorem KT.val {H:Hp}{kvs:List (List Key×V)}{xs:List (List Key×Addr×Value)}(r:KT H kvs xs)(k:List Key):RelO (valV kvs k) ((atKey xs k).map (·.2)):=by
  induction r with
  | nil=>exact True.intro
  | @cons p q ps qs h t ih=>
    obtain ⟨h1,_,h2⟩:=h
    by_cases e:p.1=k
    · have e':q.1=k:=h1.symm.trans e
      have b:atKey (q::qs) k=some q.2:=by simp [atKey,List.find?_cons,e']
      rw [valV_pos e,b];exact h2
    · have e':¬ q.1=k:=fun z=>e (h1.trans z)
      have b:atKey (q::qs) k=atKey qs k:=by simp [atKey,List.find?_cons,e']
      rw [valV_neg e,b];exact ih
theorem KT.repl {H:Hp}{kvs:List (List Key×V)}{xs:List (List Key×Addr×Value)}(r:KT H kvs xs)(k:List Key){y:V}{u:Value}(ry:RelV y u):
    KT H (kvs.map fun kv=>if kv.1=k then (kv.1,y) else kv) (xs.map (putAt k u)):=by
  induction r with
  | nil=>exact .nil
  | @cons p q ps qs h t ih=>
    rw [List.map_cons,List.map_cons]
    refine .cons ?_ ih
    obtain ⟨h1,h2,h3⟩:=h
    unfold putAt
    by_cases e:p.1=k
    · rw [if_pos e,if_pos (h1.symm.trans e)];exact ⟨h1,h2,ry⟩
    · rw [if_neg e,if_neg (fun z=>e (h1.trans z))];exact ⟨h1,h2,h3⟩
theorem KT.put {H:Hp}{kvs:List (List Key×V)}{xs:List (List Key×Addr×Value)}(r:KT H kvs xs)(k:List Key){b:Addr}{y:V}{u:Value}(hb:H b=some (.tup (k.map kV)))(ry:RelV y u):
    KT H (putK kvs k y) (storedH xs k b u):=by
  have e:(kvs.any fun kv=>decide (kv.1=k))=(atKey xs k).isSome:=by
    rw [valV_any,(r.val k).isSome_eq,Option.isSome_map]
  unfold putK storedH
  rw [e]
  by_cases q:(atKey xs k).isSome=true
  · rw [if_pos q,if_pos q];exact r.repl k ry
  · rw [if_neg q,if_neg q];exact Paired.snoc r ⟨rfl,hb,ry⟩
theorem KT.keeps {H H':Hp}{kvs:List (List Key×V)}{xs:List (List Key×Addr×Value)}(r:KT H kvs xs)(ht:∀ b ys,H b=some (.tup ys)→H' b=some (.tup ys)):KT H' kvs xs:=
  Paired.mapP r fun _ _ z=>⟨z.1,ht _ _ z.2.1,z.2.2⟩
section
variable {P:Program}{w:World}{H:Hp}{h:Heap}{a:Addr}
theorem rd_of {u:HO}(ok:HOk P w H h)(e:Rd H a u):ObjOk P w H h a u:=e.ok ok
theorem dk_rd {kvs:List (Key×V)}(ok:HOk P w H h)(e:Rd H a (.dK kvs)):kvs.length≤sizeLine∧(a==sysModules)=false∧∃ vs,KV kvs vs∧h.DictOf (mixKind P w) a vs:=
  show ObjOk P w H h a (.dK kvs) from rd_of ok e
theorem dk_of {kvs:List (Key×V)}(ok:HOk P w H h)(e:H a=some (.dK kvs)):kvs.length≤sizeLine∧(a==sysModules)=false∧∃ vs,KV kvs vs∧h.DictOf (mixKind P w) a vs:=dk_rd ok (.inl e)
theorem key_of {ks:List Key}(ok:HOk P w H h)(e:H a=some (.tup (ks.map kV))):(tupleKind (mixKind P w)).is h ks a:=by
  obtain ⟨_,its,r,o,h1,h2,n,h3⟩:=(show ObjOk P w H h a (.tup (ks.map kV)) from ok a _ e)
  exact ⟨o,its.toArray,n,h1,h2,h3,by simpa using items_are r⟩
theorem dt_rd {kvs:List (List Key×V)}(ok:HOk P w H h)(e:Rd H a (.dT kvs)):kvs.length≤sizeLine∧(a==sysModules)=false∧
    ∃ xs,KT H kvs xs∧h.DictOfH (tupleKind (mixKind P w)) a xs:=by
  obtain ⟨z,y,xs,r,o,es,ep,h1,h2,h3,h4,h5⟩:=(show ObjOk P w H h a (.dT kvs) from rd_of ok e)
  refine ⟨z,y,xs,r,o,es,ep,h1,h2,h3,h4,fun x hx=>?_,h5⟩
  have all:∀ {l:List (List Key×V)} {m:List (List Key×Addr×Value)},KT H l m→∀ x∈m,(tupleKind (mixKind P w)).is h x.1 x.2.1:=by
    intro l m q
    induction q with
    | nil=>intro x hx;exact nomatch hx
    | @cons p q ps qs hq t ih=>
      intro x hx
      rcases List.mem_cons.mp hx with e | hx
      · subst e
        exact key_of ok (by rw [← hq.1];exact hq.2.1)
      · exact ih x hx
  exact all r x hx
theorem dt_of {kvs:List (List Key×V)}(ok:HOk P w H h)(e:H a=some (.dT kvs)):kvs.length≤sizeLine∧(a==sysModules)=false∧
    ∃ xs,KT H kvs xs∧h.DictOfH (tupleKind (mixKind P w)) a xs:=dt_rd ok (.inl e)
end
def DGet (H:Hp)(a:Addr)(y:V)(r:Option V):Prop:=
  (∃ kvs k,Rd H a (.dK kvs)∧y=kV k∧r=valV kvs k)∨∃ kvs k b,Rd H a (.dT kvs)∧y=.ref b∧H b=some (.tup (k.map kV))∧r=valV kvs k
def DPut (H:Hp)(a:Addr)(y v:V)(H':Hp):Prop:=
  (∃ kvs k,H a=some (.dK kvs)∧y=kV k∧kvs.length<sizeLine∧H'=upd H a (.dK (putK kvs k v)))∨
  ∃ kvs k b,H a=some (.dT kvs)∧y=.ref b∧H b=some (.tup (k.map kV))∧kvs.length<sizeLine∧H'=upd H a (.dT (putK kvs k v))
theorem DGet.k {H:Hp}{a:Addr}{kvs:List (Key×V)}{k:Key}(e:H a=some (.dK kvs)):DGet H a (kV k) (valV kvs k):=.inl ⟨kvs,k,.inl e,rfl,rfl⟩
theorem DGet.t {H:Hp}{a b:Addr}{kvs:List (List Key×V)}{k:List Key}(e:H a=some (.dT kvs))(eb:H b=some (.tup (k.map kV))):DGet H a (.ref b) (valV kvs k):=.inr ⟨kvs,k,b,.inl e,rfl,eb,rfl⟩
theorem DPut.k {H:Hp}{a:Addr}{kvs:List (Key×V)}{k:Key}{v:V}(e:H a=some (.dK kvs))(hl:kvs.length<sizeLine):DPut H a (kV k) v (upd H a (.dK (putK kvs k v))):=.inl ⟨kvs,k,e,rfl,hl,rfl⟩
theorem DPut.t {H:Hp}{a b:Addr}{kvs:List (List Key×V)}{k:List Key}{v:V}(e:H a=some (.dT kvs))(eb:H b=some (.tup (k.map kV)))(hl:kvs.length<sizeLine):
    DPut H a (.ref b) v (upd H a (.dT (putK kvs k v))):=.inr ⟨kvs,k,b,e,rfl,eb,hl,rfl⟩
section
variable {X:Cx}{pins:List (Addr×Obj)}{σ:St}{H:Hp}{s:Shared}{a:Addr}{y v:V}{u r:Value}{o:Option V}{A:Around}{E:Value→Shared→Prop}
theorem Inv.big (I:Inv X pins σ H s):sysModules<s.heap.objs.size:=by
  have h:mainGlobals<s.heap.objs.size:=(I.mod.glob.keeps I.bk).lt
  exact Nat.lt_trans (by decide) h
theorem d_getItem {Q:Value→Shared→Prop}(hu:A.units+1<cLine)(I:Inv X pins σ H s)(g:DGet H a y (some v))(ry:RelV y u)(h:∀ w' s',Inv X pins σ H s'→RelV v w'→Q w' s'):
    wpAny (model X.prog X.w) A (getItem (.ref a) u) Q E s:=by
  rcases g with ⟨kvs,k,e,ey,l⟩ | ⟨kvs,k,b,e,ey,eb,l⟩
  · subst ey
    obtain ⟨z,hd,vs,rel,dd⟩:=dk_rd I.hok e
    obtain ⟨w',hw,rw'⟩:=RelO.some_of (v:=v) (o:=valueAt vs k) (by rw [l];exact rel.val k)
    exact wpAny_getItem_of (kV_is ry) dd.mapOf hw (h w' _ (I.tok _) rw')
  · subst ey
    cases (show u=Value.ref b from ry)
    obtain ⟨z,hd,xs,rel,dd⟩:=dt_rd I.hok e
    obtain ⟨w',hw,rw'⟩:=RelO.some_of (v:=v) (o:=(atKey xs k).map (·.2)) (by rw [l];exact rel.val k)
    obtain ⟨p,hp,hp2⟩:=Option.map_eq_some_iff.mp hw
    refine wpAny_getItem_heap (tupleKind_room_in1 hu) (key_of I.hok eb) dd hp ?_
    rw [hp2]
    exact h w' _ (I.tok _) rw'
theorem d_write {h':Heap}{t':Nat}{ob:HO}(I:Inv X pins σ H s)(mu:Mut (H a))(hs:Heap.SameBut a s.heap h')(he:∃ q,h'.get? a=some q)(new:ObjOk X.prog X.w (upd H a ob) h' a ob):
    Inv X pins σ (upd H a ob) { s with heap:=h',toks:=t' }:=
  I.write (x:=a) (e:=a) mu (.inl rfl) (fun b q hb z=>(hs.2 b hb).trans z) he new
theorem dk_new {P:Program}{w:World}{H':Hp}{h':Heap}{kvs:List (Key×V)}{vs:List (Key×Value)}(z:kvs.length≤sizeLine)(hd:(a==sysModules)=false)(rel:KV kvs vs)(dd:h'.DictOf (mixKind P w) a vs):
    ObjOk P w H' h' a (.dK kvs):=⟨z,hd,vs,rel,dd⟩
theorem d_setItem {H':Hp}{Q:Unit→Shared→Prop}(hu:A.units+1<cLine)(I:Inv X pins σ H s)(g:DPut H a y v H')(ry:RelV y u)(rv:RelV v r)(h:∀ s',Inv X pins σ H' s'→Q () s'):
    wpAny (model X.prog X.w) A (setItem (.ref a) u r) Q E s:=by
  rcases g with ⟨kvs,k,e,ey,l,eH⟩ | ⟨kvs,k,b,e,ey,eb,l,eH⟩
  · subst ey eH
    obtain ⟨z,hd,vs,rel,dd⟩:=dk_of I.hok e
    have hz:vs.length≤sizeLine:=by rw [← rel.length];exact z
    have hl:(putK kvs k v).length≤sizeLine:=by have:=length_putK kvs k v;omega
    refine wpAny_setItem_pairs (hsz:=hz) (kV_is ry) dd fun h' dd' hs=>h _ ?_
    have he:∃ q,h'.get? a=some q:=let ⟨q,_,_,hq,_⟩:=dd';⟨q,hq⟩
    exact d_write I (by rw [e];exact True.intro) hs he (dk_new hl hd (rel.put k rv) dd')
  · subst ey eH
    cases (show u=Value.ref b from ry)
    obtain ⟨z,hd,xs,rel,dd⟩:=dt_of I.hok e
    have hz:xs.length≤sizeLine:=by rw [← Paired.length rel];exact z
    have hl:(putK kvs k v).length≤sizeLine:=by have:=length_putK kvs k v;omega
    refine wpAny_setItem_heap (hsz:=hz) (tupleKind_room_in1 hu) (key_of I.hok eb) dd fun h' dd' hs=>h _ ?_
    obtain ⟨q,es,ep,hq,h2,h3,h4,_,h5⟩:=dd'
    refine d_write I (by rw [e];exact True.intro) hs ⟨q,hq⟩ ⟨hl,hd,_,(rel.put k eb rv).keeps fun c ys ec=>?_,q,es,ep,hq,h2,h3,h4,h5⟩
    rw [upd_ne (ne_of ec e (fun z=>nomatch z))]
    exact ec
end
section
variable {X:Cx}{pins:List (Addr×Obj)}{σ:St}{H:Hp}{s:Shared}{a:Addr}{kvs:List (Key×V)}{k:Key}{u:Value}{A:Around}{E:Value→Shared→Prop}
end
def NoSl (i:Expr):Prop:=∀ ov iv,subscripted i false ov iv=operate [ov,iv] (getItem ov iv)
theorem subD_of {prog:Program}{w:World}{A:Around}{E:Value→Shared→Prop}{s:Shared}{env:Env}{value slice:Expr}{pos:Pos}{T id:String}{Q:Value→Shared→Prop}
    (hl:typeLookup (.type T) "__getitem__"=pure (some (.builtin id))) (hs:NoSl slice)
    (h:wpAny (model prog w) A (eval value env) (fun o s₁=>wpAny (model prog w) A (eval slice env) (fun i s₂=>s₂.TypeIs o T∧wpAny (model prog w) A (getItem o i) Q E s₂) E s₁) E s):
    wpAny (model prog w) A (eval (.Subscript value slice pos) env) Q E s:=by
  refine Subscript_ (wpAny_mono h (fun o s₁ h₁=>wpAny_mono h₁ (fun i s₂ h₂=>?_) fun _ _ x=>x) fun _ _ x=>x)
  obtain ⟨hT,h₂⟩:=h₂
  unfold subscriptTail
  refine wpAny_bind ?_
  rw [getitemInPython_of_ne hT.not_modules]
  refine wpAny_bind (wpAny_specialOf hT hl ?_)
  have fin:wpAny (model prog w) A (subscripted slice false o i) (fun r s₃=>wpAny (model prog w) A (letTemporaryGo value o r >>= fun _=>pure r) Q E s₃) E s₂:=by
    rw [hs o i]
    exact wpAny_operating (wpAny_mono h₂ (fun r s₃ h₃=>wpAny_bind (wpAny_letTemporaryGo (wpAny_pure h₃))) fun _ _ x=>x)
  first
    | exact wpAny_pure (wpAny_bind fin)
    | exact wpAny_bind (wpAny_pure (wpAny_bind fin))
    | exact wpAny_bind fin
theorem dict_typeIs {X:Cx}{pins:List (Addr×Obj)}{σ:St}{H:Hp}{s:Shared}{a:Addr}{y:V}{o:Option V}(I:Inv X pins σ H s)(g:DGet H a y o):s.TypeIs (.ref a) "dict":=by
  rcases g with ⟨kvs,k,e,_,_⟩ | ⟨kvs,k,b,e,_,_,_⟩
  · obtain ⟨_,_,vs,_,dd⟩:=dk_rd I.hok e
    exact dd.typeIs
  · obtain ⟨_,_,xs,_,dd⟩:=dt_rd I.hok e
    exact dd.typeIs
def tDGet (td ty:TE):TE:=fun σ H Q=>td σ H fun x H1=>ty σ H1 fun y H2=>∃ a v,x=.ref a∧DGet H2 a y (some v)∧Q v H2
def tDIn (ty td:TE):TE:=fun σ H Q=>ty σ H fun y H1=>td σ H1 fun x H2=>∃ a o,x=.ref a∧DGet H2 a y o∧Q (.bl o.isSome) H2
def tDNotIn (ty td:TE):TE:=fun σ H Q=>ty σ H fun y H1=>td σ H1 fun x H2=>∃ a o,x=.ref a∧DGet H2 a y o∧Q (.bl (!o.isSome)) H2
def sDPut (td ty tv:TE):TS:=fun D σ H=>tv σ H fun v H1=>td σ H1 fun x H2=>ty σ H2 fun y H3=>∃ a H4,x=.ref a∧DPut H3 a y v H4∧D.nx σ H4
def sDAug (td ty tv:TE)(rd:V→V→Hp→VK→Prop):TS:=fun D σ H=>td σ H fun x H1=>ty σ H1 fun y H2=>∃ a v,x=.ref a∧DGet H2 a y (some v)∧
  tv σ H2 fun y2 H3=>rd v y2 H3 fun z H4=>∃ H5,DPut H4 a y z H5∧D.nx σ H5
def sDDel (td ty:TE):TS:=fun D σ H=>td σ H fun x H1=>ty σ H1 fun y H2=>∃ a kvs k,x=.ref a∧H2 a=some (.dK kvs)∧y=kV k∧(valV kvs k).isSome=true∧D.nx σ (upd H2 a (.dK (dropK kvs k)))
section
variable {X:Cx}{o i e value:Expr}{pos pos' tpos:Pos}{td ty tv:TE}
theorem pe_dget (hu:X.A.units+1<cLine)(ho:PE X o td)(hi:PE X i ty)(hs:NoSl i):PE X (.Subscript o i pos) (tDGet td ty):=by
  intro pins s σ H Q I h
  refine subD_of PySem.F.slot_dict_getitem.lookup hs (thn (ho pins s σ H _ I h) fun u s1 ⟨x,H1,I1,rx,q1⟩=>thn (hi pins s1 σ H1 _ I1 q1) fun iv s2 ⟨y,H2,I2,ry,a,v,ex,g,q2⟩=>?_)
  subst ex
  obtain rfl:u=Value.ref a:=rx
  exact ⟨dict_typeIs I2 g,d_getItem hu I2 g ry fun w' s3 I3 rw'=>⟨v,H2,I3,rw',q2⟩⟩
theorem ps_dput (hu:X.A.units+1<cLine)(ho:PE X o td)(hi:PE X i ty)(hv:PE X value tv)(hs:swapsWith value (some (.Subscript o i pos')) pos.line X.env=pure false):
    PS X (.Assign [.Subscript o i pos'] value pos) (sDPut td ty tv):=by
  intro pins s σ H D I h
  refine wpAny_Assign_Subscript (thn (hv pins s σ H _ I h) fun r s1 ⟨v,H1,I1,rv,q1⟩=>thn (ho pins s1 σ H1 _ I1 q1) fun u s2 ⟨x,H2,I2,rx,q2⟩=>thn (hi pins s2 σ H2 _ I2 q2) fun iv s3 ⟨y,H3,I3,ry,a,H4,ex,g,q3⟩=>?_) hs
  subst ex
  obtain rfl:u=Value.ref a:=rx
  exact d_setItem hu I3 g ry rv fun s4 I4=>⟨σ,H4,I4,q3⟩
end
theorem dt_empty {P:Program}{w:World}{H:Hp}(h:Heap)(hb:sysModules<h.objs.size):ObjOk P w H (h.push { cls:=.type "dict",data:=.dict #[] }) h.objs.size (.dT []):=
  ⟨Nat.zero_le _,beq_eq_false_iff_ne.mpr (Ne.symm (Nat.ne_of_lt hb)),[],.nil,_,#[],0,Heap.get?_push_size _ rfl,⟨rfl,rfl,rfl⟩,rfl,rfl,List.nodup_nil⟩
def tDNewK:TE:=fun _ H Q=>∀ p,H p=none→Q (.ref p) (upd H p (.dK []))
def tDNewT:TE:=fun _ H Q=>∀ p,H p=none→Q (.ref p) (upd H p (.dT []))
section
variable {X:Cx}{pos:Pos}
theorem pe_dnewT:PE X (.Dict [] [] pos) tDNewT:=fun pins s σ H Q I h=>
  wpAny_Dict_empty ⟨.ref s.heap.objs.size,_,I.laid (a:=s.heap.objs.size) (o:=.dT []) (t':=s.toks) (fun _ _ q=>Heap.get?_push_of_some _ q) (Nat.le_refl _) (dt_empty s.heap I.big),rfl,h _ (I.hok.fresh (Nat.le_refl _))⟩
end
end L2
namespace L2
open PySem PySem.Spec PyProof.Rows
section
variable {P:Program}{w:World}{A:Around}{E:Value→Shared→Prop}{s:Shared}{d it:Addr}{o:Obj}{es:Array DictEntry}{ep i:Nat}
structure RawD (h:Heap)(d:Addr)(o:Obj)(es:Array DictEntry)(ep:Nat):Prop where
  at_:h.get? d=some o
  ex:o.ExactDict
  data:o.data=.dict es ep
theorem RawD.ty (x:RawD s.heap d o es ep):s.TypeIs (.ref d) "dict":=⟨o,x.at_,x.ex.1⟩
end
section
variable {X:Cx}{tg:Expr}{pins:List (Addr×Obj)}{σ:St}{H:Hp}{s:Shared}
def Itd (a:Addr)(o:Obj):It:=
  ⟨fun i H=>∃ kvs,H a=some (.frz o (.dT kvs))∧i<kvs.length,
   fun i H x H'=>H'=H∧∀ kvs,H a=some (.frz o (.dT kvs))→∃ ks v b,kvs[i]?=some (ks,v)∧x=.ref b∧H b=some (.tup (ks.map kV)),
   fun i H=>∃ kvs,H a=some (.frz o (.dT kvs))∧kvs.length≤i⟩
def iDT (tl:TE):TI:=fun σ H R=>tl σ H fun x H1=>∃ a kvs,x=.ref a∧H1 a=some (.dT kvs)∧∀ o,R (Itd a o) (upd H1 a (.frz o (.dT kvs)))
end
section
variable {P:Program}{w:World}{A:Around}{E:Value→Shared→Prop}{s:Shared}{d:Addr}{o:Obj}{es:Array DictEntry}{ep:Nat}
end
section
variable {X:Cx}
def rNeE (K:PySem.W.Frag):R2:=fun x y H Q=>∃ a b xs,x=.ref a∧y=.ref b∧SqL K H a xs∧SqL K H b []∧Q (.bl (!xs.isEmpty)) H
end
end L2
namespace StrT
open PySem PySem.W PyProof.Rows
section
variable {N:Nat}{lt:Nat→Nat→Bool}
def Wp {α:Type}(N:Nat)(lt:Nat→Nat→Bool):KasT α→(α→Prop)→Prop
  | .ret a,P=>P a
  | .ask i j k,P=>i<N∧j<N∧Wp N lt (k (lt i j)) P
theorem Wp.mono {α:Type}{P P':α→Prop}(hp:∀ a,P a→P' a):∀ {t:KasT α},Wp N lt t P→Wp N lt t P'
  | .ret a,h=>hp a h
  | .ask _ _ _,h=>⟨h.1,h.2.1,Wp.mono hp h.2.2⟩
theorem Wp.bind {α β:Type}{f:α→KasT β}{P:β→Prop}:∀ {t:KasT α},Wp N lt t (fun a=>Wp N lt (f a) P)→Wp N lt (t.bind f) P
  | .ret _,h=>h
  | .ask _ _ _,h=>⟨h.1,h.2.1,Wp.bind h.2.2⟩
structure Ord (lt:Nat→Nat→Bool):Prop where
  tr:∀ a b c,lt b a=false→lt c b=false→lt c a=false
  as:∀ a b,lt a b=true→lt b a=false
theorem Ord.rf (o:Ord lt)(a:Nat):lt a a=false:=by
  cases h:lt a a with
  | false=>rfl
  | true=>exact (o.as a a h).symm▸h.symm▸h
def gg (p:Array Nat)(i:Nat):Nat:=p.getD i 0
def Up (lt:Nat→Nat→Bool)(p:Array Nat)(k:Nat):Prop:=∀ i j,i≤j→j<k→lt (gg p j) (gg p i)=false
def Dn (lt:Nat→Nat→Bool)(p:Array Nat)(k:Nat):Prop:=∀ i j,i≤j→j<k→lt (gg p i) (gg p j)=false
structure Bs (N:Nat)(p₀ p:Array Nat):Prop where
  sz:p.size=N
  bd:∀ i,gg p i<N
  pm:p.Perm p₀
def Eqs (lt:Nat→Nat→Bool)(p:Array Nat)(n q:Nat):Prop:=q+1≤n∧∀ i j,n-(q+1)≤i→i<n→n-(q+1)≤j→j<n→lt (gg p i) (gg p j)=false
end
end StrT
namespace L2
open PySem PySem.Spec PyProof.Rows
def plt (p q:Int×Int):Bool:=if p.1=q.1 then decide (p.2<q.2) else decide (p.1<q.1)
def PairAt (h:Heap)(v:Value)(p:Int×Int):Prop:=∃ a t u,v=.ref a∧IsTup h a #[.int p.1 t,.int p.2 u]
theorem PairAt.inj {h:Heap}{v:Value}{p q:Int×Int}(x:PairAt h v p)(y:PairAt h v q):p=q:=by
  obtain ⟨a1,t1,u1,rfl,o1,h1,_,n1,d1⟩:=x
  obtain ⟨a2,t2,u2,e2,o2,h2,_,n2,d2⟩:=y
  cases e2
  rw [h1] at h2
  cases h2
  rw [d1] at d2
  injection d2 with e1 _
  obtain ⟨p1,p2⟩:=p
  obtain ⟨q1,q2⟩:=q
  simp at e1
  rw [e1.1.1,e1.2.1]
theorem bt_enumerate:bootBuiltins "enumerate"=some (.type "enumerate"):=by decide +kernel
abbrev Rise (ps:List (Int×Int)):Prop:=ps.Pairwise fun p q=>plt q p=false
section
variable {P:Program}{w:World}{A:Around}{E:Value→Shared→Prop}{s:Shared}
end
def PrV (H:Hp)(v:V)(p:Int×Int):Prop:=∃ b,v=.ref b∧H b=some (.tup [.int p.1,.int p.2])
abbrev Prs (H:Hp)(vs:List V)(ps:List (Int×Int)):Prop:=Paired (PrV H) vs ps
section
variable {X:Cx}{pins:List (Addr×Obj)}{σ:St}{H:Hp}{s:Shared}
def rSorted (K:PySem.W.Frag):List V→Hp→VK→Prop:=fun xs H Q=>∃ a vs ps,xs=[V.ref a]∧SqL K H a vs∧Prs H vs ps∧vs.length<64∧∀ l vs' ps',H l=none→Prs H vs' ps'→ps'.Perm ps→Rise ps'→Q (.ref l) (upd H l (.lst vs'))
def Ite (K:PySem.W.Frag)(a:Addr):It:=
  ⟨fun i H=>∃ xs x,SqL K H a xs∧xs[i]?=some x,fun i H y H'=>∃ x b,(∀ xs,SqL K H a xs→xs[i]?=some x)∧H b=none∧y=.ref b∧H'=upd H b (.tup [.int i,x]),fun i H=>∃ xs,SqL K H a xs∧xs.length≤i⟩
theorem turn_enum {P:Program}{w:World}{K:PySem.W.Frag}{els:List Expr}{x1}{pt:Pos}(a e it:Addr)(hei:e≠it):Turn P w K (.Tuple els x1 pt) (Ite K a) [e,it] e (fun i h=>h.IsListIter it a i∧∃ old,IsEnum h e it (i:Nat) old) where
  mem:=by simp
  obj:=fun i h st b hb=>by
    obtain ⟨⟨o,h1,c,d⟩,old,h2⟩:=st
    rcases List.mem_cons.mp hb with rfl | hb
    · exact ⟨_,h2,fun v z=>by cases z⟩
    · have eb:b=it:=by simpa using hb
      subst eb
      exact ⟨o,h1,fun v z=>by rw [d] at z;cases z⟩
  keep:=fun i h h' st k=>⟨st.1.at fun o q=>k it (by simp) o q,st.2.imp fun old q=>k e (by simp) _ q⟩
  item:=by
    intro X hP hw hK hc i pins s σ H E I hf st hg
    subst hP hw hK
    obtain ⟨xs,x,hq,hx⟩:=hg
    obtain ⟨hit,old,hen⟩:=st
    obtain ⟨its,rv,p,hz⟩:=I.list hq
    obtain ⟨u,hu,ru⟩:=rv.get hx
    refine wpAny_pyNext_enum_item hen hit p.isList (x:=u) (by simpa using hu) hei fun h1 heo hit1 ht1 hz1 hk1=>⟨_,rfl,?_⟩
    refine wpAny_letOwnedTupleGo_enum (s:={ s with heap:=h1,toks:=s.toks+1 }) heo fun h2 he2 hs2=>?_
    replace hs2:Heap.SameBut e h1 h2:=hs2
    obtain ⟨f0,f1,f2,f3,f4,f5⟩:=hf e (by simp)
    obtain ⟨g0,g1,g2,g3,g4,g5⟩:=hf it (by simp)
    have eH:e<s.heap.objs.size:=Heap.lt_size hen
    obtain ⟨oi0,hoi0,_⟩:=id hit
    have iH:it<s.heap.objs.size:=Heap.lt_size hoi0
    have hit2:h2.IsListIter it a (i+1):=hit1.extBut hs2.extBut (Ne.symm hei)
    obtain ⟨oi,hoi,hci,hdi⟩:=id hit2
    have tup2:h2.get? s.heap.objs.size=some { cls:=.type "tuple",data:=.seq #[.int i s.toks,u] }:=(hs2.2 _ (Nat.ne_of_gt eH)).trans ht1
    have he3:IsEnum h2 e it ((i+1:Nat):Int) u:=by
      have e1:((i+1:Nat):Int)=(i:Int)+1:=by push_cast;rfl
      rw [e1];exact he2
    obtain ⟨mid,hmz,hme,hmo⟩:∃ mid:Heap,mid.objs.size=s.heap.objs.size∧mid.get? e=h2.get? e∧∀ b,b≠e→mid.get? b=s.heap.get? b:=
      ⟨s.heap.update e (fun _=>{ cls:=.type "enumerate",dict:=none,data:=.fields #[.none,.bool false,.ref it,rawInt ((i+1:Nat):Int),.none,u],slots:=#[] }),Heap.size_update ..,(Heap.get?_update_self _ hen (Obj.isFreed_of_fields rfl)).trans he3.symm,fun b hb=>Heap.get?_update_ne _ _ _ _ hb⟩
    have hmi:mid.get? it=some oi0:=(hmo it (Ne.symm hei)).trans hoi0
    obtain ⟨mid2,hnz,hne,hno⟩:∃ mid2:Heap,mid2.objs.size=mid.objs.size∧mid2.get? it=h2.get? it∧∀ b,b≠it→mid2.get? b=mid.get? b:=
      ⟨mid.update it (fun _=>oi),Heap.size_update ..,(Heap.get?_update_self _ hmi (Obj.isFreed_of_fields hdi)).trans hoi.symm,fun b hb=>Heap.get?_update_ne _ _ _ _ hb⟩
    have I1:Inv X pins σ H { s with heap:=mid }:=I.turned (t':=s.toks) (fun b o hb q=>(hmo b hb).trans q) f0 f1 f3 f4 f5
    have I2:Inv X pins σ H { s with heap:=mid2 }:=I1.turned (t':=s.toks) (fun b o hb q=>(hno b hb).trans q) g0 g1 g3 g4 g5
    have k2:∀ b o,mid2.get? b=some o→h2.get? b=some o:=fun b o q=>by
      by_cases c1:b=it
      · subst c1;exact hne.symm.trans q
      · rw [hno b c1] at q
        by_cases c2:b=e
        · subst c2;exact hme.symm.trans q
        · rw [hmo b c2] at q
          exact (hs2.2 b c2).trans (hk1 b o c2 c1 q)
    have fz:mid2.objs.size≤s.heap.objs.size:=by rw [hnz,hmz];exact Nat.le_refl _
    have I3:Inv X pins σ (upd H s.heap.objs.size (.tup [.int i,x])) { s with heap:=h2,toks:=s.toks+1 }:=
      I2.laid (t':=s.toks+1) k2 fz (show ObjOk X.prog X.w _ h2 _ (.tup [.int i,x]) from ⟨by show 2≤sizeLine;rw [sizeLine_eq];decide,[.int i s.toks,u],.cons ⟨_,rfl⟩ (.cons ru .nil),⟨_,tup2,rfl,_,rfl⟩⟩)
    refine ⟨.ref s.heap.objs.size,_,I3,rfl,⟨x,s.heap.objs.size,fun ys hy=>by rw [I.list_inj hy hq];exact hx,I.hok.fresh (Nat.le_refl _),rfl,rfl⟩,⟨hit2,u,he3⟩,fun b hb=>?_⟩
    rcases List.mem_cons.mp hb with rfl | hb
    · rw [upd_ne (Nat.ne_of_lt eH)];exact f0
    · have eb:b=it:=by simpa using hb
      subst eb
      rw [upd_ne (Nat.ne_of_lt iH)];exact g0
  done:=by
    intro X hP hw hK hc i pins s σ H E I hf st hg
    subst hP hw hK
    obtain ⟨xs,hq,hx⟩:=hg
    obtain ⟨hit,old,hen⟩:=st
    obtain ⟨its,rv,p,hz⟩:=I.list hq
    obtain ⟨g0,g1,g2,g3,g4,g5⟩:=hf it (by simp)
    have hl:=rv.length
    exact wpAny_pyNext_enum_end (I.ok.hd hc) hen hit p.isList (by simp;omega) fun h' eb=>⟨rfl,I.turned (t':=s.toks) (fun b o hb e=>eb b o hb e) g0 g1 g3 g4 g5⟩
  self:=fun _ _ _ _ _ st h=>by
    obtain ⟨_,old,q⟩:=st
    exact wpAny_pyIter_enum q h
def iEnum (K:PySem.W.Frag)(ta:TA):TI:=fun σ H R=>ta σ H fun vs H1=>∃ a,vs=[V.ref a]∧(∃ xs,SqL K H1 a xs)∧R (Ite K a) H1
theorem pi_enum {a:Expr}{ta:TA}{p pos pt:Pos}{els:List Expr}{x1}(hg:Gl X "enumerate")(hm:X.mg "enumerate"=none)(hv:bootBuiltins "enumerate"=some (.type "enumerate"))(ha:PA X [a] ta)(hs:starEach [a] X.env=[(false,eval a X.env)]:=by rfl):
    PI X (.Tuple els x1 pt) (.Call (.Name "enumerate" p) [a] [] pos) (iEnum X.K ta):=by
  intro pins s σ H R I h
  refine Call_ (ld_blt I hg hm hv (PyProof.Rows.callWith_type1 (thn (ha pos pins s σ H _ I h) fun us s1 ⟨vs,H1,I1,r1,q1⟩=>?_) hs rfl))
  obtain ⟨l,e,⟨xs,hq⟩,q⟩:=q1
  subst e
  obtain ⟨u,rfl,ru⟩:=vals1 r1
  cases ru
  obtain ⟨its,rv,pl,hz⟩:=I1.list hq
  refine call_enumerate_list pl.isList fun h' he hit hz' kp=>wpAny_pyIter_enum (s:={ s1 with heap:=h' }) he ?_
  have I2:Inv X pins σ H1 { s1 with heap:=h' }:=I1.kept (t':=s1.toks) kp
  have ge:∀ b∈[s1.heap.objs.size+1,s1.heap.objs.size],s1.heap.objs.size≤b:=fun b hb=>by
    rcases List.mem_cons.mp hb with rfl | hb
    · exact Nat.le_succ _
    · have eb:b=s1.heap.objs.size:=by simpa using hb
      rw [eb];exact Nat.le_refl _
  exact ⟨s1.heap.objs.size+1,_,_,_,H1,rfl,I2,turn_enum l _ s1.heap.objs.size (Nat.ne_of_gt (Nat.lt_succ_self _)),⟨hit,.none,he⟩,fun b hb=>I1.fpOk (ge b hb) (I1.hok.fresh (ge b hb)),q⟩
theorem for_enum {K:PySem.W.Frag}{a:Addr}{xs:List V}{g:TG}{tb:TS}{D:Ends}{σ:St}{H:Hp}(Pv:Nat→St→Hp→Prop)(h0:Pv 0 σ H)(hl:∀ i σ H,i≤xs.length→Pv i σ H→SqL K H a xs)
    (hs:∀ i x σ H b,xs[i]?=some x→Pv i σ H→H b=none→g (.ref b) σ (upd H b (.tup [.int i,x])) fun σ2 H2=>tb { D with nx:=Pv (i+1),ct:=Pv (i+1),bk:=D.nx } σ2 H2) (hd:∀ σ H,Pv xs.length σ H→D.nx σ H):
    ∃ W:Nat→Nat→St→Hp→Prop,(∃ m,W 0 m σ H)∧∀ i m σ H,W i m σ H→
      ((Ite K a).stop i H∧D.nx σ H)∨((Ite K a).go i H∧∃ N:St→Hp→Prop,(∀ σ' H',N σ' H'→∃ m',m'<m∧W (i+1) m' σ' H')∧∀ x H',(Ite K a).yld i H x H'→g x σ H' fun σ2 H2=>tb { D with nx:=N,ct:=N,bk:=D.nx } σ2 H2):=by
  refine ⟨fun i m σ H=>m=xs.length-i∧i≤xs.length∧Pv i σ H,⟨xs.length,by simp,Nat.zero_le _,h0⟩,?_⟩
  rintro i m σ H ⟨rfl,hi,p⟩
  have q:=hl i σ H hi p
  by_cases hlt:i<xs.length
  · refine .inr ⟨⟨xs,xs[i],q,by simp [hlt]⟩,Pv (i+1),fun σ' H' p'=>⟨xs.length-(i+1),by omega,rfl,hlt,p'⟩,fun x H' y=>?_⟩
    obtain ⟨x0,b,y,hb,rfl,rfl⟩:=y
    exact hs i x0 σ H b (y xs q) p hb
  · have e:i=xs.length:=by omega
    subst e
    exact .inl ⟨⟨xs,q,Nat.le_refl _⟩,hd σ H p⟩
end
section
variable {A:Around}{s:Shared}
end
section
variable {X:Cx}{pins:List (Addr×Obj)}{σ:St}{H:Hp}{s:Shared}
def LsV (K:PySem.W.Frag)(H:Hp)(v:V)(ps:List (Int×Int)):Prop:=∃ a vs,v=.ref a∧SqL K H a vs∧Prs H vs ps
end
end L2
namespace L2
open PySem PySem.Spec PyProof.Rows
structure CompScope2 (X:Cx)(scope:Scope)(cl:List (Str×Addr))(x y:Str)(fv:List Str)(js:List Nat):Prop where
  S:CompScope X scope cl x fv js
  hy:scope.names.lookup y=some .local
  nd:(x::y::fv).Nodup
section
variable {X:Cx}{scope:Scope}{cl:List (Str×Addr)}{x y:Str}{fv:List Str}{js:List Nat}
end
def tComp2 (wi:TI)(g:TG)(js:List Nat)(tt:TT)(te:TE):TE:=fun σ H Q=>wi σ H fun J H1=>∀ D,H1 D=none→∃ W:Nat→Nat→Hp→Prop,(∃ m,W 0 m (upd H1 D (.lst [])))∧∀ i m H,W i m H→
  (J.stop i H∧Q (.ref D) H)∨(J.go i H∧∀ x H' o1 o2,J.yld i H x H'→g x (o1::o2::frv js σ) H' fun σ2 H4=>(∃ v1 v2,σ2=some v1::some v2::frv js σ)∧tt σ2 H4 fun b H2=>
    if b=true then te σ2 H2 fun v H3=>∃ xs,H3 D=some (.lst xs)∧xs.length<sizeLine∧∃ m',m'<m∧W (i+1) m' (upd H3 D (.lst (xs++[v])))
    else ∃ m',m'<m∧W (i+1) m' H2)
section
variable {X:Cx}
def tRev (K:PySem.W.Frag)(te:TE)(tk:TO):TE:=fun σ H Q=>te σ H fun x H1=>tk σ H1 fun k H2=>k=some (-1)∧∃ a xs,x=.ref a∧SqL K H2 a xs∧∀ p,H2 p=none→Q (.ref p) (upd H2 p (.lst xs.reverse))
theorem vals_rev {xs:List V}{us:List Value}(r:Vals xs us):Vals xs.reverse us.reverse:=by
  induction r with
  | nil=>exact .nil
  | cons r _ ih=>
    rw [List.reverse_cons,List.reverse_cons]
    exact Vals.append ih (.cons r .nil)
end
end L2
namespace L2
open PySem PySem.Spec PyProof.Rows
def tPairs:List (TE×TE)→St→Hp→(List (V×V)→Hp→Prop)→Prop
  | [],_,H,Q=>Q [] H
  | (tk,tv)::r,σ,H,Q=>tk σ H fun x H1=>tv σ H1 fun y H2=>tPairs r σ H2 fun ps H3=>Q ((x,y)::ps) H3
abbrev VV:List (V×V)→List (Value×Value)→Prop:=Paired fun p q=>RelV p.1 q.1∧RelV p.2 q.2
def PPs (X:Cx)(pos:Pos)(keys:List (Option Expr))(values:List Expr)(trs:List (TE×TE)):Prop:=
  ∀ (pins:List (Addr×Obj)) (s:Shared) (σ:St) (H:Hp) (Q:List (V×V)→Hp→Prop),Inv X pins σ H s→tPairs trs σ H Q→
    wpAny (model X.prog X.w) X.A (evalPairs (pairTrees keys values X.env pos)) (fun vs s'=>∃ ps H',Inv X pins σ H' s'∧VV ps vs∧Q ps H') X.xe s
def mergeK (kvs more:List (Key×V)):List (Key×V):=more.foldl (fun acc kv=>putK acc kv.1 kv.2) kvs
def tDisp (trs:List (TE×TE)):TE:=fun σ H Q=>∀ p,H p=none→tPairs trs σ (upd H p (.dK [])) fun ps H2=>H2 p=some (.dK [])∧∃ kvs:List (Key×V),ps=kvs.map (fun kv=>(kV kv.1,kv.2))∧kvs.length≤15∧Q (.ref p) (upd H2 p (.dK (mergeK [] kvs)))
structure M1 (X:Cx)(o:Expr)(m:Str)(apos:Pos)(e:Expr)(cpos:Pos):Prop where
  base:attributeBase o m X.env (eval o X.env)=eval o X.env
  few:((backTo cpos (starEach [e] X.env)).all (fun x=>!x.1)&&(backToKw cpos (keywordEach [] X.env)).all (fun x=>x.1.isSome)
    && decide (([e]:List Expr).length+([]:List Keyword).length+(if ([]:List Keyword).isEmpty then 0 else 1)<30))=true
  line:(apos.endLine==cpos.line)=true
  trees:backTo cpos (starEach [e] X.env)=[(false,eval e X.env)]
structure M2 (X:Cx)(o:Expr)(m:Str)(apos:Pos)(e f:Expr)(cpos:Pos):Prop where
  base:attributeBase o m X.env (eval o X.env)=eval o X.env
  few:((backTo cpos (starEach [e,f] X.env)).all (fun x=>!x.1)&&(backToKw cpos (keywordEach [] X.env)).all (fun x=>x.1.isSome)
    && decide (([e,f]:List Expr).length+([]:List Keyword).length+(if ([]:List Keyword).isEmpty then 0 else 1)<30))=true
  line:(apos.endLine==cpos.line)=true
  trees:backTo cpos (starEach [e,f] X.env)=[(false,eval e X.env),(false,eval f X.env)]
def IsD (H:Hp)(a:Addr):Prop:=(∃ kvs,Rd H a (.dK kvs))∨∃ kvs,Rd H a (.dT kvs)
section
variable {X:Cx}{pins:List (Addr×Obj)}{σ:St}{H:Hp}{s:Shared}{a:Addr}{y d:V}{u r:Value}{o:Option V}{A:Around}{E:Value→Shared→Prop}
end
def tDGet1 (td ty:TE):TE:=fun σ H Q=>td σ H fun x H1=>∃ a,x=.ref a∧IsD H1 a∧ty σ H1 fun y H2=>∃ o,DGet H2 a y o∧Q (o.getD .non) H2
def tDGet2 (td ty tx:TE):TE:=fun σ H Q=>td σ H fun x H1=>∃ a,x=.ref a∧IsD H1 a∧ty σ H1 fun y H2=>tx σ H2 fun z H3=>∃ o,DGet H3 a y o∧Q (o.getD z) H3
def tDPop1 (td ty:TE):TE:=fun σ H Q=>td σ H fun x H1=>∃ a,x=.ref a∧IsD H1 a∧ty σ H1 fun y H2=>∃ kvs k v,H2 a=some (.dK kvs)∧y=kV k∧valV kvs k=some v∧Q v (upd H2 a (.dK (dropK kvs k)))
def tDPop2 (td ty tx:TE):TE:=fun σ H Q=>td σ H fun x H1=>∃ a,x=.ref a∧IsD H1 a∧ty σ H1 fun y H2=>tx σ H2 fun z H3=>∃ kvs k,H3 a=some (.dK kvs)∧y=kV k∧
  (∀ v,valV kvs k=some v→Q v (upd H3 a (.dK (dropK kvs k))))∧(valV kvs k=none→Q z H3)
section
variable {X:Cx}{o e f:Expr}{apos cpos:Pos}{td ty tx:TE}
end
end L2
namespace L2
open PySem PySem.Spec PyProof.Rows
def isTx (z:Str):Value→Bool
  | .str y _=>y==z
  | _=>false
section
variable {X:Cx}
end
end L2
namespace L2
open PySem PySem.Spec PyProof.Rows
def EntOk (w:World)(kv:Key×V)(e:DictEntry):Prop:=keyIs kv.1 e.key=true∧e.hash=keyH w kv.1∧RelV kv.2 e.val
def DicO (w:World)(o:Obj)(kvs:List (Key×V)):Prop:=o.ExactDict∧∃ es ep,o.data=.dict es ep∧Paired (EntOk w) kvs es.toList∧(kvs.map (·.1)).Nodup
def KDic (w:World)(K:PySem.W.Frag)(a:Addr)(kvs:List (Key×V)):Prop:=∃ ob,K.lookup a=some ob∧DicO w ob kvs∧(a==sysModules)=false
theorem ent_all {P:Program}{w:World}:∀ {kvs:List (Key×V)} {es:List DictEntry},Paired (EntOk w) kvs es→∃ vs:List (Key×Value),KV kvs vs∧Pairs (mixKind P w) es vs∧vs.map (·.1)=kvs.map (·.1)∧∀ e∈es,∃ k,(mixKind P w).is k e.key=true∧e.hash=(mixKind P w).hash k
  | _,_,.nil=>⟨[],.nil,.nil,rfl,fun _ h=>nomatch h⟩
  | (kv::_),(e::_),.cons r t=>by
    obtain ⟨vs,h1,h2,h3,h4⟩:=ent_all (P:=P) t
    obtain ⟨q1,q2,q3⟩:=r
    refine ⟨(kv.1,e.val)::vs,.cons ⟨rfl,q3⟩ h1,.cons q1 rfl h2,by rw [List.map_cons,List.map_cons,h3],fun x hx=>?_⟩
    rcases List.mem_cons.mp hx with z | z
    · rw [z];exact ⟨kv.1,q1,q2⟩
    · exact h4 x z
section
variable {X:Cx}{pins:List (Addr×Obj)}{σ:St}{H:Hp}{s:Shared}{a:Addr}{kvs:List (Key×V)}
theorem KDic.at (I:Inv X pins σ H s)(d:KDic X.w X.K a kvs):∃ vs,KV kvs vs∧s.heap.DictOf (mixKind X.prog X.w) a vs∧∃ ob,s.heap.get? a=some ob∧ob.dict=none:=by
  obtain ⟨ob,hk,⟨hx,es,ep,hd,hp,hn⟩,_⟩:=d
  obtain ⟨vs,h1,h2,h3,h4⟩:=ent_all (P:=X.prog) hp
  refine ⟨vs,h1,⟨ob,es,ep,I.kIn a ob hk,hx,hd,fun e he=>h4 e (Array.mem_def.mp he),h2,by rw [h3];exact hn⟩,ob,I.kIn a ob hk,hx.2.1⟩
end
def GDic (w:World)(K:PySem.W.Frag)(mg:Str→Option Value)(x:Str)(kvs:List (Key×V)):Prop:=∃ a,mg x=some (.ref a)∧KDic w K a kvs
def tGD (w:World)(K:PySem.W.Frag)(kvs:List (Key×V)):TE:=fun _ H Q=>∀ a,KDic w K a kvs→Q (.ref a) H
def GDit (w:World)(K:PySem.W.Frag)(mg:Str→Option Value)(x:Str)(kts:List (Key×List V)):Prop:=∃ kvs,GDic w K mg x kvs∧Paired (fun (kv:Key×V) (kt:Key×List V)=>kv.1=kt.1∧∃ a,kv.2=.ref a∧∀ H,SqT K H a kt.2) kvs kts
def tGT2 (w:World)(K:PySem.W.Frag)(kts:List (Key×List V)):TE:=fun _ H Q=>∀ a kvs,KDic w K a kvs→Paired (fun (kv:Key×V) (kt:Key×List V)=>kv.1=kt.1∧∃ a,kv.2=.ref a∧∀ H,SqT K H a kt.2) kvs kts→Q (.ref a) H
theorem pe_gdit {X:Cx}{x:Str}{kts:List (Key×List V)}{pos:Pos}(hm:GDit X.w X.K X.mg x kts)(hg:Gl X x:=by rfl)(hd:(x==("__debug__":Str))=false:=by decide):PE X (.Name x pos) (tGT2 X.w X.K kts):=by
  obtain ⟨kvs,⟨a,h,k⟩,p⟩:=hm
  intro pins s σ H Q I q
  exact ld_glob I hg h ⟨.ref a,H,I,rfl,q a kvs k p⟩ hd
section
variable {X:Cx}{o i e f:Expr}{pos apos cpos:Pos}{td ty te tf:TE}
def tKGet (w:World)(K:PySem.W.Frag)(td ty:TE):TE:=fun σ H Q=>td σ H fun x H1=>ty σ H1 fun y H2=>∃ a kvs k v,x=.ref a∧KDic w K a kvs∧y=kV k∧valV kvs k=some v∧Q v H2
def tKGet2 (w:World)(K:PySem.W.Frag)(td ty tx:TE):TE:=fun σ H Q=>td σ H fun x H1=>∃ a kvs,x=.ref a∧KDic w K a kvs∧ty σ H1 fun y H2=>tx σ H2 fun z H3=>∃ k,y=kV k∧Q ((valV kvs k).getD z) H3
theorem pe_kget2 (ho:PE X o td)(he:PE X e te)(hf:PE X f tf)(m:M2 X o "get" apos e f cpos):PE X (.Call (.Attribute o "get" apos) [e,f] [] cpos) (tKGet2 X.w X.K td te tf):=by
  intro pins s σ H Q I h
  refine wpAny_Call_method m.base m.few m.line PySem.F.plainAttrs_dict PySem.F.slot_dict_get PySem.F.type_dict_get (thn (ho pins s σ H _ I h) fun u s1 ⟨x,H1,I1,rx,a,kvs,ex,d,q1⟩=>?_)
  subst ex
  obtain rfl:u=Value.ref a:=rx
  obtain ⟨_,_,dd,ob,hob,hno⟩:=d.at I1
  refine ⟨dd.typeIs,fun b q=>by cases q;exact ⟨ob,hob,hno⟩,?_⟩
  rw [m.trees]
  refine Calls.callWith_builtin rfl (Calls.evalArgs_plain (Calls.spliced_cons (thn (he pins s1 σ H1 _ I1 q1) fun iv s2 ⟨y,H2,I2,ry,q2⟩=>
    Calls.spliced_cons (thn (hf pins s2 σ H2 _ I2 q2) fun fv s3 ⟨z,H3,I3,rz,k,ey,q3⟩=>Calls.spliced_nil ?_))))
  subst ey
  obtain ⟨vs3,rel3,dd3,_⟩:=d.at I3
  refine call_meetsIn PySem.F.slot_dict_get dd3.typeIs PySem.F.entry_dict_get (PySem.F.args_dict_get_3 _ _ _) (meets_dict_get_default (mixKind X.prog X.w) a (kV_is ry) d.choose_spec.2.2 fv) ⟨_,dd3.mapOf,?_⟩
  exact ⟨_,H3,I3.tok _,(rel3.val k).getD rz,q3⟩
def rIns1:V→List V→Hp→VK→Prop:=fun x vs H Q=>∃ l x0 xs y,x=.ref l∧vs=[.int 1,y]∧H l=some (.lst (x0::xs))∧xs.length+2≤sizeLine∧Q .non (upd H l (.lst (x0::y::xs)))
end
end L2
namespace L2
open PySem PySem.Spec PyProof.Rows
section
variable {prog:Program}{w:World}{A:Around}{E:Value→Shared→Prop}{s:Shared}
end
abbrev zT1 (h:Heap)(l1:Addr):Heap:=h.push { cls:=.type "tuple_iterator",data:=.fields #[.ref l1,.int 0 0] }
abbrev zT2 (h:Heap)(l1 l2:Addr):Heap:=(zT1 h l1).push { cls:=.type "list_iterator",data:=.fields #[.ref l2,.int 0 0] }
abbrev zT3 (h:Heap)(l1 l2:Addr):Heap:=(zT2 h l1 l2).push { cls:=.type "tuple",data:=.seq #[.ref h.objs.size,.ref (zT1 h l1).objs.size] }
abbrev zT4 (h:Heap)(l1 l2:Addr):Heap:=(zT3 h l1 l2).push { cls:=.type "tuple",data:=.seq #[.none,.none] }
abbrev zT5 (h:Heap)(l1 l2:Addr):Heap:=(zT4 h l1 l2).push { cls:=.type "zip",data:=.fields #[.none,.bool false,.bool false,.ref (zT2 h l1 l2).objs.size,.ref (zT3 h l1 l2).objs.size] }
section
variable {prog:Program}{w:World}{A:Around}{E:Value→Shared→Prop}{s:Shared}
end
section
variable {X:Cx}{pins:List (Addr×Obj)}{σ:St}{H:Hp}{s:Shared}{h':Heap}
end
def Itz (K:PySem.W.Frag)(t l:Addr):It:=
  ⟨fun i H=>∃ xs ys x y,SqT K H t xs∧SqL K H l ys∧xs[i]?=some x∧ys[i]?=some y,
   fun i H v H'=>∃ x y b,(∀ xs,SqT K H t xs→xs[i]?=some x)∧(∀ ys,SqL K H l ys→ys[i]?=some y)∧H b=none∧v=.ref b∧H'=upd H b (.tup [x,y]),
   fun i H=>∃ xs ys,SqT K H t xs∧SqL K H l ys∧(xs.length≤i∨ys.length≤i)⟩
section
variable {X:Cx}
def iZip (K:PySem.W.Frag)(ta:TA):TI:=fun σ H R=>ta σ H fun vs H1=>∃ t l,vs=[V.ref t,V.ref l]∧(∃ xs,SqT K H1 t xs)∧(∃ ys,SqL K H1 l ys)∧R (Itz K t l) H1
end
section
variable {X:Cx}
end
inductive TrEq (H:Hp):Nat→V→V→Prop where
  | fl {n:Nat} {x:V} (h:flatV x=true):TrEq H n x x
  | rf {n:Nat} {a:Addr}:TrEq H n (.ref a) (.ref a)
  | tp {n:Nat} {a b:Addr} {xs ys:List V} (h1:H a=some (.tup xs)) (h2:H b=some (.tup ys)) (hl:xs.length=ys.length)
      (hh:∀ (j:Nat) (u v:V),xs[j]?=some u→ys[j]?=some v→TrEq H n u v):TrEq H (n+1) (.ref a) (.ref b)
theorem eqV_self {x:V}(h:flatV x=true):eqV x x=true:=by
  cases x <;> first | rfl | exact absurd (show false=true from h) Bool.false_ne_true | simp [eqV]
section
variable {X:Cx}{pins:List (Addr×Obj)}{σ:St}{H:Hp}{s:Shared}
theorem range_all {n:Nat}:(List.range n).all (fun _=>true)=true:=by simp
theorem tr_items (I:Inv X pins σ H s){n:Nat}{A:Around}{xs ys:List V}{us vs:List Value}(r1:Vals xs us)(r2:Vals ys vs)
    (ih:∀ (j:Nat) (u v:V),xs[j]?=some u→ys[j]?=some v→∀ u' v',RelV u u'→RelV v v'→SeqAt.EqAt A s u' v' true):
    ∀ j (h1:j<us.toArray.size) (h2:j<vs.toArray.size),SeqAt.EqAt A s us.toArray[j] vs.toArray[j] ((fun _=>true) j):=by
  intro j h1 h2
  have l1:=r1.length
  have l2:=r2.length
  rw [List.size_toArray] at h1 h2
  have ex:xs[j]?=some (xs[j]'(by omega)):=List.getElem?_eq_getElem _
  have ey:ys[j]?=some (ys[j]'(by omega)):=List.getElem?_eq_getElem _
  obtain ⟨u,hu',ru⟩:=r1.get ex
  obtain ⟨v,hv',rv⟩:=r2.get ey
  have eu:us.toArray[j]'(by simpa using h1)=u:=by
    rw [List.getElem?_eq_getElem h1] at hu'
    simpa using Option.some.inj hu'
  have ev:vs.toArray[j]'(by simpa using h2)=v:=by
    rw [List.getElem?_eq_getElem h2] at hv'
    simpa using Option.some.inj hv'
  rw [eu,ev]
  exact ih j _ _ ex ey u v ru rv
theorem TrEq.at (I:Inv X pins σ H s){n:Nat}{x y:V}(h:TrEq H n x y):∀ {A:Around} {u v:Value},A.units+n<cLine→RelV x u→RelV y v→SeqAt.EqAt A s u v true:=by
  induction h with
  | fl hf=>
    intro A u v _ rx ry
    have:=eqAt_V (A:=A) (s:=s) rx ry hf hf
    rw [eqV_self hf] at this
    exact this
  | rf=>
    intro A u v _ rx ry
    cases rx
    cases ry
    exact SeqAt.EqAt.same _
  | @tp n a b xs ys h1 h2 hl hh ih=>
    intro A u v hu rx ry
    cases rx
    cases ry
    by_cases e:a=b
    · subst e;exact SeqAt.EqAt.same _
    obtain ⟨its,r1,p,_⟩:=I.tuple (SqT.of h1)
    obtain ⟨its2,r2,p2,_⟩:=I.tuple (SqT.of h2)
    have rc:=SeqAt.RcAt.tuples (A:=A) (s:=s) (e:=fun _=>true) (show s.heap.IsTuple a its.toArray from p) (show s.heap.IsTuple b its2.toArray from p2) (by omega)
      (tr_items I (n:=n) r1 r2 fun j u v e1 e2 u' v' ru rv=>ih j u v e1 e2 (A:=A.in1) (show A.units+1+n<cLine by omega) ru rv)
    rw [List.size_toArray,List.size_toArray,← r1.length,← r2.length,range_all,hl] at rc
    exact SeqAt.EqAt.of_refs e (by simpa using rc)
end
end L2
namespace L2
open PySem PySem.Spec PyProof.Rows
section
variable {prog:Program}{w:World}{A:Around}{E:Value→Shared→Prop}{s:Shared}
theorem lri_len:typeLookup (.type "list_reverseiterator") "__len__"=pure none:=by rw [typeLookup_type,builtinLookup_eq_fast];kernel_rfl
theorem lri_hint:typeLookup (.type "list_reverseiterator") "__length_hint__"=pure (some (.builtin "list_reverseiterator.__length_hint__")):=by rw [typeLookup_type,builtinLookup_eq_fast];kernel_rfl
theorem hint_rev {it l:Addr}{i:Int}{Q:Bool→Shared→Prop}(hit:s.heap.IsRevIter it l i)(h:Q false s):wpAny (model prog w) A (Builtin.List.listLengthHint (.ref it)) Q E s:=by
  unfold Builtin.List.listLengthHint
  refine wpAny_bind (wpAny_specialOf hit.typeIs lri_len ?_)
  wp_delta
  refine wpAny_ite_split (fun hab=>absurd hab (by decide +kernel)) (fun _=>?_)
  refine wpAny_ite_split (fun hab=>absurd hab (by decide)) (fun _=>?_)
  refine wpAny_bind (wpAny_specialOf hit.typeIs lri_hint ?_)
  generalize hid:("list_reverseiterator.__length_hint__":String)=id0
  wp_delta
  rw [show splitId id0=some ("list_reverseiterator","__length_hint__") from by subst hid;decide +kernel]
  subst hid
  refine wpAny_bind (wpAny_isInstance (T:="list_reverseiterator") (b:=true) hit.typeIs (by rw [isSubtype_type];kernel_rfl) ?_)
  refine wpAny_ite_split (fun hab=>absurd hab (by decide)) (fun _=>?_)
  refine wpAny_ite_split (fun _=>?_) (fun hab=>absurd (by decide +kernel) hab)
  refine wpAny_ite_split (fun hab=>absurd hab (by decide +kernel)) (fun _=>?_)
  exact wpAny_pure h
end
end L2
namespace L2
open PySem PySem.Spec PyProof.Rows
section
variable {prog:Program}{w:World}{A:Around}{E:Value→Shared→Prop}{s:Shared}
theorem extend_rev {R:Result→Shared→Prop}{it l:Addr}{items:Array Value}(hh:A.handled=none)(hit:s.heap.IsRevIter it l ((items.size:Int)-1))(hl:s.heap.IsList l items)(hne:l≠it)(hn:items.size≤sizeLine)
    (S:Addr) (hSi:S≠it) (hSl:S≠l) (res:Value) (c₀:Nat) (hS:s.heap.get? S=some { cls:=.type "list",data:=.seq #[] c₀ })
    (hR:∀ h' tk acc' c',(∀ b o,b≠S→b≠it→s.heap.get? b=some o→h'.get? b=some o)→h'.get? S=some { cls:=.type "list",dict:=none,data:=.seq acc' c',slots:=#[] }→
      ItemsOf (fun i v=>items[items.size-1-i]?=some v) acc' items.size→R (.ok (.ret res)) { s with heap:=h',toks:=tk }):
    wpAny (model prog w) A.in1 (Builtin.List.listExtendWith (.ref S) (.ref it) res)
      (fun fin s'=>match fin with | .done f=>R (.ok f) s' | .again c'=>c'.quiet=true∧codeAny (model prog w) A c' R s') (fun e s'=>R (.error e) s') s:=by
  have hSf:S∉[it,l]:=fun hm=>by
    rcases List.mem_cons.mp hm with e | hm
    · exact hSi e
    · exact hSl (List.mem_singleton.mp hm)
  have W:=(Walks.listRev (prog:=prog) (w:=w) (A:=A.in1) hh it l hne items).toS
  unfold Builtin.List.listExtendWith
  refine wpAny_bind (wpAny_typeOf (T:="list_reverseiterator") hit.typeIs ?_)
  have h1:Builtin.List.listSameRef (.ref S) (.ref it)=false:=by simp [Builtin.List.listSameRef,hSi]
  have h2:(Value.type "list_reverseiterator"==Value.type "list")=false:=by decide
  have h3:(Value.type "list_reverseiterator"==Value.type "tuple")=false:=by decide
  simp only [h1,h2,h3,Bool.or_false,Bool.false_eq_true,if_false]
  refine wpAny_bind (wpAny_pyIter_revIter hit ?_)
  refine wpAny_bind (wpAny_holding (hint_rev hit ?_))
  rw [if_neg (by decide +kernel)]
  have e0:(items.size:Int)-1-((0:Nat):Int)=(items.size:Int)-1:=by omega
  refine wpAny_pure ⟨plainId_quiet F.plain_extend_loop _,codeAny_extend_loopS W hn S hSf res items.size 0 s #[] c₀ rfl (Nat.zero_le _) ⟨Nat.zero_le _,by rw [e0];exact hit,hl⟩ hS (ItemsOf.nil _) fun s' acc' c' hm hS' hacc=>?_⟩
  rw [Moved.eq_with hm]
  refine hR s'.heap s'.toks acc' c' (fun b o hb hb2 e=>hm.heap b o (fun hmem=>?_) e) hS' hacc
  rcases List.mem_cons.mp hmem with e' | hmem
  · exact hb e'
  · exact hb2 (List.mem_singleton.mp hmem)
theorem list_init_rev {R:Result→Shared→Prop}{it l:Addr}{items:Array Value}(hh:A.handled=none)(hit:s.heap.IsRevIter it l ((items.size:Int)-1))(hl:s.heap.IsList l items)(hne:l≠it)(hn:items.size≤sizeLine)
    (S:Addr) (hSi:S≠it) (hSl:S≠l) (hS:s.heap.get? S=some { cls:=.type "list",data:=.seq #[] })
    (hR:∀ h' tk acc' c',(∀ b o,b≠S→b≠it→s.heap.get? b=some o→h'.get? b=some o)→h'.get? S=some { cls:=.type "list",dict:=none,data:=.seq acc' c',slots:=#[] }→
      ItemsOf (fun i v=>items[items.size-1-i]?=some v) acc' items.size→R (.ok (.ret .none)) { s with heap:=h',toks:=tk }):
    wpAny (model prog w) A.in1 (Builtin.«list.__init__» ⟨[.ref S,.ref it],[]⟩)
      (fun fin s'=>match fin with | .done f=>R (.ok f) s' | .again c'=>c'.quiet=true∧codeAny (model prog w) A c' R s') (fun e s'=>R (.error e) s') s:=by
  show wpAny _ _ (do let old ← Builtin.List.listItems (.ref S);Builtin.List.listUpdate (.ref S) (fun _=>#[]);letGo old.toList.reverse;Builtin.List.listExtendWith (.ref S) (.ref it) .none) _ _ s
  refine wpAny_bind ?_
  unfold Builtin.List.listItems
  refine wpAny_bind (wpAny_seqItems hS rfl (wpAny_pure ?_))
  show wpAny _ _ (updateSeq S (fun _=>#[]) >>= fun _=>letGo (#[]:Array Value).toList.reverse >>= fun _=>Builtin.List.listExtendWith (.ref S) (.ref it) .none) _ _ s
  refine wpAny_bind (wpAny_updateSeq hS rfl ?_)
  have hS₂:=Heap.get?_update_self (Obj.mapSeq (fun _=>(#[]:Array Value))) hS rfl
  have oth:∀ b o,b≠S→s.heap.get? b=some o→(s.heap.update S (Obj.mapSeq (fun _=>(#[]:Array Value)))).get? b=some o:=
    fun b o hb e=>(Heap.get?_update_other _ _ (Ne.symm hb)).trans e
  refine wpAny_bind (wpAny_letGo ?_)
  refine extend_rev hh (hit.at fun o e=>oth _ o (Ne.symm hSi) e) (hl.at fun o e=>oth _ o (Ne.symm hSl) e) hne hn S hSi hSl .none _ hS₂ fun h' tk acc' c' hk hS' hacc=>?_
  exact hR h' tk acc' c' (fun b o hb hb2 e=>hk b o hb hb2 (oth b o hb e)) hS' hacc
theorem call_list_rev {Q:Value→Shared→Prop}{it l:Addr}{items:Array Value}(hh:A.handled=none)(hit:s.heap.IsRevIter it l ((items.size:Int)-1))(hl:s.heap.IsList l items)(hne:l≠it)(hn:items.size≤sizeLine)
    (hQ:∀ h' tk acc' c',(∀ b o,b≠it→s.heap.get? b=some o→h'.get? b=some o)→
      h'.get? s.heap.objs.size=some { cls:=.type "list",dict:=none,data:=.seq acc' c',slots:=#[] }→ItemsOf (fun i v=>items[items.size-1-i]?=some v) acc' items.size→Q (.ref s.heap.objs.size) { s with heap:=h',toks:=tk }):
    wpAny (model prog w) A (call (.type "list") [.ref it]) Q E s:=by
  refine callType_codes (Q₁:=fun obj s₁=>obj=.ref s.heap.objs.size∧s₁={ s with heap:=s.heap.push { cls:=.type "list",data:=.seq #[] } }) F.called_list (F.typeCall_list_1 _) F.entry_list_init
    (code_list_new _ ⟨rfl,rfl⟩) fun obj s₁ h₁=>?_
  obtain ⟨rfl,rfl⟩:=h₁
  have hS:(s.heap.push { cls:=.type "list",data:=.seq #[] }).get? s.heap.objs.size=some { cls:=.type "list",data:=.seq #[] }:=Heap.get?_push_size _ rfl
  have i1:s.heap.objs.size≠it:=by obtain ⟨o,q,_⟩:=hit;exact Nat.ne_of_gt (Heap.lt_size q)
  have i2:s.heap.objs.size≠l:=by obtain ⟨o,q,_⟩:=hl;exact Nat.ne_of_gt (Heap.lt_size q)
  refine ⟨⟨_,hS,rfl⟩,F.args_list_init_2 _ _,list_init_rev (A:=A.in1) hh (hit.at fun o e=>Heap.get?_push_of_some _ e) (hl.at fun o e=>Heap.get?_push_of_some _ e) hne hn _ i1 i2 hS fun h' tk acc' c' hk hS' hacc=>?_⟩
  exact ⟨rfl,hQ h' tk acc' c' (fun b o hb e=>hk b o (Nat.ne_of_lt (Heap.lt_size e)) hb (Heap.get?_push_of_some _ e)) hS' hacc⟩
end
end L2
namespace L2
open PySem PySem.Spec PyProof.Rows
theorem items_rev {its:List Value}{acc:Array Value}(h:ItemsOf (fun i v=>its.toArray[its.toArray.size-1-i]?=some v) acc its.toArray.size):acc=its.reverse.toArray:=by
  obtain ⟨h1,h2⟩:=h
  apply Array.ext'
  rw [List.toList_toArray]
  apply List.ext_getElem?
  intro j
  have hz:acc.toList.length=its.length:=by rw [Array.length_toList,h1,List.size_toArray]
  by_cases c:j<its.length
  · have hj:acc[j]?=some (acc[j]'(by rw [h1,List.size_toArray];exact c)):=Array.getElem?_eq_getElem _
    have e:=h2 j _ hj
    rw [List.getElem?_reverse c,Array.getElem?_toList,hj,← e]
    simp
  · rw [List.getElem?_eq_none (by omega),List.getElem?_eq_none (by rw [List.length_reverse];omega)]
section
variable {X:Cx}
def tLRev (K:PySem.W.Frag)(te:TE):TE:=fun σ H Q=>te σ H fun x H1=>∃ a xs,x=.ref a∧SqL K H1 a xs∧∀ l,H1 l=none→Q (.ref l) (upd H1 l (.lst xs.reverse))
theorem bt_reversed:bootBuiltins "reversed"=some (.type "reversed"):=by decide +kernel
theorem pe_listrev {e:Expr}{te:TE}{p p2 pos pos2:Pos}(hc:X.calm=true)(hg:Gl X "list")(hm:X.mg "list"=none)(hv:bootBuiltins "list"=some (.type "list"))(hg2:Gl X "reversed")(hm2:X.mg "reversed"=none)(he:PE X e te)
    (hs:starEach [e] X.env=(false,eval e X.env)::starEach [] X.env:=by rfl):
    PE X (.Call (.Name "list" p) [.Call (.Name "reversed" p2) [e] [] pos2] [] pos) (tLRev X.K te):=by
  intro pins s σ H Q I h
  refine wpAny_Call_Name_kw (ld_blt I hg hm hv ?_)
  refine PyProof.Rows.callWith_type1 ?_ rfl rfl
  show wpAny _ _ (spliced ((false,eval (.Call (.Name "reversed" p2) [e] [] pos2) X.env)::backTo pos (starEach [] X.env))) _ _ s
  refine Calls.spliced_cons ?_
  refine wpAny_Call_Name_kw (ld_blt I hg2 hm2 bt_reversed ?_)
  refine PyProof.Rows.callWith_type1 ?_ hs rfl
  rw [hs]
  show wpAny _ _ (spliced ((false,eval e X.env)::backTo pos2 (starEach [] X.env))) _ _ s
  refine Calls.spliced_cons (thn (he pins s σ H _ I h) fun u s1 ⟨x,H1,I1,r1,q1⟩=>Calls.spliced_nil ?_)
  obtain ⟨a,xs,rfl,hq,q⟩:=q1
  cases r1
  obtain ⟨its,rv,pl,hz⟩:=I1.list hq
  have hlen:=rv.length
  have hl:=pl.isList
  refine call_reversed_list hl (Calls.spliced_nil ?_)
  have la:a<s1.heap.objs.size:=by obtain ⟨o,z,_⟩:=hl;exact Heap.lt_size z
  refine call_list_rev (items:=its.toArray) (I.ok.hd hc) ⟨_,Heap.get?_push_size _ rfl,rfl,rfl⟩ (hl.at fun o z=>Heap.get?_push_of_some _ z) (Nat.ne_of_lt la) (by rw [List.size_toArray];omega) fun h' tk acc' c' hk hS' hacc=>?_
  have e:=items_rev hacc
  subst e
  have hp:s1.heap.objs.size≤(s1.heap.push (revObj a ((its.toArray.size:Int)-1))).objs.size:=by rw [Heap.size_push];exact Nat.le_succ _
  refine ⟨.ref _,_,I1.laid (t':=tk) (o:=.lst xs.reverse) (fun b o z=>hk b o (Nat.ne_of_lt (Heap.lt_size z)) (Heap.get?_push_of_some _ z)) hp ?_,rfl,q _ (I1.hok.fresh hp)⟩
  exact ⟨by rw [List.length_reverse];exact hz,its.reverse,c',vals_rev rv,hS'⟩
end
end L2
namespace L2
open PySem PySem.Spec PyProof.Rows
theorem pa_consZ {X:Cx}{es:List Expr}{te:TE}{t:TA}{pos:Pos}{a0:Arguments}{a1:Expr}{a2:Scope}(ha:PE X (Expr.Lambda a0 a1 a2 pos) te)(hr:PA X es t):PA X ((Expr.Lambda a0 a1 a2 pos)::es) (tCons te t):=pa_cons ha hr rfl
def BM (mg:Str→Option Value)(base:Heap):Prop:=
  ∃ bm o,mg "__builtins__"=some (.ref bm)∧(bm≠builtinsNs∧bm≠mainGlobals)∧base.get? bm=some o∧o.cls=.type "module"∧o.dict=some builtinsNs∧o.data=.plain
theorem BM.keep {mg:Str→Option Value}{h h':Heap}(B:BM mg h)(k:∀ b o,h.get? b=some o→h'.get? b=some o):BM mg h':=by
  obtain ⟨bm,o,a,n,e,r⟩:=B
  exact ⟨bm,o,a,n,k _ _ e,r⟩
def CodeK (H:Hp)(q:Str)(c:Addr):Prop:=∃ o vs t,H c=some (.frz o (.own 0))∧o.data=.fields vs∧vs[1]?=some (.str q t)
def TabAt (H:Hp)(P:Addr)(q:Str):Prop:=∃ ps,H P=some (.tbl ps)∧TriplesOk ps.toList∧∀ pos cv,codeAmong pos ps.toList=some cv→∃ c,cv=.ref c∧CodeK H q c
theorem CodeK.keep {H H':Hp}{q:Str}{c:Addr}(x:CodeK H q c)(h:∀ b o,H b=some (.frz o (.own 0))→H' b=some (.frz o (.own 0))):CodeK H' q c:=by
  obtain ⟨o,vs,t,e,r⟩:=x
  exact ⟨o,vs,t,h _ _ e,r⟩
theorem TabAt.sm {H H':Hp}{P:Addr}{q:Str}(x:TabAt H P q)(h:Same H H'):TabAt H' P q:=by
  obtain ⟨ps,e,t,k⟩:=x
  refine ⟨ps,h _ _ e,t,fun pos cv z=>?_⟩
  obtain ⟨c,e1,e2⟩:=k pos cv z
  exact ⟨c,e1,e2.keep fun b o=>h b _⟩
theorem TabAt.nil {H:Hp}{P:Addr}{q:Str}(h:H P=some (.tbl #[])):TabAt H P q:=⟨#[],h,trivial,fun _ _ z=>by cases z⟩
theorem triples_snoc {a b:Int}{ta tb:Tok}{c:Value}:∀ l:List Value,TriplesOk l→TriplesOk (l++[.int a ta,.int b tb,c]):=fun l=>by
  fun_induction TriplesOk l with
  | case1=>intro _;exact trivial
  | case2 a t b u x rest ih=>intro h;exact ih h
  | case3=>intro h;exact h.elim
theorem among_snoc {p:Pos}{a b:Int}{ta tb:Tok}{c cv:Value}:∀ l:List Value,TriplesOk l→codeAmong p (l++[.int a ta,.int b tb,c])=some cv→codeAmong p l=some cv∨cv=c:=fun l=>by
  fun_induction TriplesOk l with
  | case1=>
    intro _ h
    simp only [List.nil_append,codeAmong] at h
    split at h
    · cases h;exact .inr rfl
    · cases h
  | case2 a t b u x rest ih=>
    intro ht h
    simp only [List.cons_append,codeAmong] at h ⊢
    split at h
    · rename_i hc;rw [if_pos hc];exact .inl h
    · rename_i hc;rw [if_neg hc];exact ih ht h
  | case3=>intro h;exact h.elim
def LamAt (H:Hp)(q:Str)(f:Addr)(params:Arguments)(body:Expr)(scope:Scope)(cl:List (Str×Addr))(pm:Value):Prop:=
  ∃ c ctv,H f=some (.frz (PySem.W.kla_obj "<lambda>" q params body scope cl pm c ctv) (.own 0))∧CodeK H q c
def tLam (P:Addr)(q:Str)(params:Arguments)(body:Expr)(scope:Scope)(cl:List (Str×Addr))(pm:Value):TE:=fun _ H Q=>TabAt H P q∧
  ∀ f H',H f=none→(∀ b o,b≠P→H b=some o→H' b=some o)→TabAt H' P q→LamAt H' q f params body scope cl pm→Q (.ref f) H'
section
variable {X:Cx}{pins:List (Addr×Obj)}{σ:St}{H:Hp}{s:Shared}
theorem lam_miss {P f c:Addr}{h1:Heap}{o oc:Obj}{ps:Array Value}{i j:Int}{ta tb:Tok}{tk:Nat}(I:Inv X pins σ H s)(hP:H P=some (.tbl ps))
    (hx:Heap.ExtBut P s.heap h1) (hge:s.heap.objs.size≤c) (hlt:c<h1.objs.size) (hf:f=h1.objs.size) (hc:h1.get? c=some oc) (htb:h1.get? P=some (PySem.W.tabObj (ps++#[.int i ta,.int j tb,.ref c])))
    (hof:o.isFreed=false):
    Inv X pins σ (upd (upd (upd H P (.tbl (ps++#[.int i ta,.int j tb,.ref c]))) c (.frz oc (.own 0))) f (.frz o (.own 0))) { s with heap:=h1.push o,toks:=tk }:=by
  subst hf
  have Plt:P<s.heap.objs.size:=I.hok.lt hP
  have hcP:c≠P:=fun z=>by rw [z] at hge;exact absurd Plt (Nat.not_lt.mpr hge)
  have hfP:h1.objs.size≠P:=fun z=>by rw [← z] at Plt;exact absurd (Nat.lt_trans Plt (Nat.lt_of_le_of_lt hge hlt)) (Nat.lt_irrefl _)
  have hfc:h1.objs.size≠c:=(Nat.ne_of_lt hlt).symm
  have other:∀ b,b<s.heap.objs.size→b≠P→(upd (upd (upd H P (.tbl (ps++#[.int i ta,.int j tb,.ref c]))) c (.frz oc (.own 0))) h1.objs.size (.frz o (.own 0))) b=H b:=fun b hb hne=>by
    rw [upd_ne (Nat.ne_of_lt (Nat.lt_trans (Nat.lt_of_lt_of_le hb hge) hlt)),upd_ne (Nat.ne_of_lt (Nat.lt_of_lt_of_le hb hge)),upd_ne hne]
  have keep:∀ b u,b≠P→s.heap.get? b=some u→(h1.push o).get? b=some u:=fun b u hb e=>Heap.get?_push_of_some _ (hx b u hb e)
  have atP:(h1.push o).get? P=some (PySem.W.tabObj (ps++#[.int i ta,.int j tb,.ref c])):=Heap.get?_push_of_some _ htb
  have hPv:(upd (upd (upd H P (.tbl (ps++#[.int i ta,.int j tb,.ref c]))) c (.frz oc (.own 0))) h1.objs.size (.frz o (.own 0))) P=some (.tbl (ps++#[.int i ta,.int j tb,.ref c])):=by
    rw [upd_ne hfP.symm,upd_ne hcP.symm,upd_same]
  have nP:∀ b,H b=none→b≠P:=fun b n z=>by rw [z,hP] at n;cases n
  refine I.un (t':=tk) ⟨fun b u e n _ _=>keep b u (nP b n) e,fun b u e n _ _=>⟨u.slots,keep b u (nP b n) e⟩,fun b u e n _=>?_,fun b u e _=>?_,fun b xs e=>?_,fun b u xs e=>?_,fun b qs e=>?_⟩ fun b u e=>?_
  · rw [other b (Heap.lt_size e) (nP b n)];exact n
  · by_cases hb:b=P
    · subst hb;exact ⟨_,atP⟩
    · exact ⟨u,keep b u hb e⟩
  · rw [other b (I.hok.lt e) fun z=>by rw [z,hP] at e;cases e];exact e
  · rw [other b (I.hok.lt e) fun z=>by rw [z,hP] at e;cases e];exact e
  · by_cases hb:b=P
    · subst hb
      rw [hP] at e;cases e
      exact ⟨_,hPv⟩
    · exact ⟨#[],by rw [other b (I.hok.lt e) hb,e];simp⟩
  · by_cases hbf:b=h1.objs.size
    · subst hbf
      rw [upd_same] at e;cases e
      exact ⟨Heap.get?_push_size _ hof,_,Heap.get?_push_size _ hof⟩
    · by_cases hbc:b=c
      · subst hbc
        rw [upd_ne hbf,upd_same] at e;cases e
        exact ⟨Heap.get?_push_of_some _ hc,_,Heap.get?_push_of_some _ hc⟩
      · by_cases hbP:b=P
        · subst hbP
          rw [hPv] at e;cases e
          exact atP
        · rw [upd_ne hbf,upd_ne hbc,upd_ne hbP] at e
          refine (I.hok b u e).stay (fun d v hd q=>keep d v ?_ q) (fun d z=>?_) fun d xs z=>?_
          · rcases hd with z | z
            · rw [z];exact hbP
            · intro y;rw [y,hP] at z;cases z
          · rw [other d (I.hok.lt z) fun y=>by rw [y,hP] at z;cases z];exact z
          · rw [other d (I.hok.lt z) fun y=>by rw [y,hP] at z;cases z];exact z
theorem pe_lam {params:Arguments}{body:Expr}{scope:Scope}{pos:Pos}{c P:Addr}{clos:List (Str×Addr)}(hdef:defaultsOf params X.env=([],[]))(hcl:closureFor scope X.env=pure clos)(hcode:X.env.code=.ref c)
    (C:PySem.W.CodeHd X.base c P) (B:BM X.mg X.base):PE X (.Lambda params body scope pos) (tLam P (X.env.qual++"<lambda>") params body scope clos ((X.mg "__name__").getD .none)):=by
  intro pins s σ H Q I h
  obtain ⟨⟨ps,hP,ht,hall⟩,hq⟩:=h
  obtain ⟨bm,ob,b1,⟨b2,b3⟩,b4,b5,b6,b7⟩:=B
  have hPh:s.heap.get? P=some (PySem.W.tabObj ps):=I.hok P _ hP
  have hgs:=I.mod.glob.keeps I.bk
  have hgP:mainGlobals≠P:=fun q=>by
    obtain ⟨o,es,ep,e,hd,_⟩:=hgs
    rw [q,hPh] at e;cases e;cases hd
  have hbP:bm≠P:=fun q=>by
    have e:=I.bk _ _ b4
    rw [q,hPh] at e;cases e;cases b5
  have hb:s.heap.BuiltinsAt X.mg P:=⟨bm,ob,b1,b2,b3,hbP,I.bk _ _ b4,b5,b6,b7⟩
  refine PySem.W.kla_eval hdef ?_
  cases hf:codeAmong pos ps.toList with
  | none=>
    refine PySem.W.kla_makeFunction (mg:=X.mg) hcl I.ok.glob hgs hcode (C.keeps I.bk) hPh ht hf hgP hb fun c' ctv h' tk hx hge hlt hrec htb=>?_
    obtain ⟨c₂,oc,vs,t,e2,hoc,hd,hv⟩:=hrec
    cases e2
    have Plt:P<s.heap.objs.size:=I.hok.lt hP
    have ltf:s.heap.objs.size<h'.objs.size:=Nat.lt_of_le_of_lt hge hlt
    have fnew:H h'.objs.size=none:=I.hok.fresh (Nat.le_of_lt ltf)
    have cnew:H c'=none:=I.hok.fresh hge
    have hcP:c'≠P:=fun z=>by rw [z] at hge;exact absurd Plt (Nat.not_lt.mpr hge)
    have hfP:h'.objs.size≠P:=fun z=>by rw [← z] at Plt;exact absurd (Nat.lt_trans Plt ltf) (Nat.lt_irrefl _)
    have I2:=lam_miss (tk:=tk) (o:=PySem.W.kla_obj "<lambda>" (X.env.qual++"<lambda>") params body scope clos ((X.mg "__name__").getD .none) c' ctv) I hP hx hge hlt rfl hoc htb rfl
    have hfc:c'≠h'.objs.size:=Nat.ne_of_lt hlt
    refine ⟨.ref h'.objs.size,_,I2,rfl,hq _ _ fnew (fun b o hb e=>?_) ⟨ps++#[rawInt pos.line,rawInt pos.col,.ref c'],?_,?_,fun p cv z=>?_⟩ ⟨c',ctv,upd_same,oc,vs,t,?_,hd,hv⟩⟩
    · rw [upd_ne (ne_of_none e fnew),upd_ne (ne_of_none e cnew),upd_ne hb];exact e
    · rw [upd_ne hfP.symm,upd_ne hcP.symm,upd_same];rfl
    · rw [Array.toList_append];exact triples_snoc _ ht
    · rw [Array.toList_append] at z
      rcases among_snoc _ ht z with z | z
      · obtain ⟨d,e1,o,vs',t',e3,r⟩:=hall p cv z
        have ndP:d≠P:=fun y=>by rw [y,hP] at e3;cases e3
        exact ⟨d,e1,o,vs',t',by rw [upd_ne (ne_of_none e3 fnew),upd_ne (ne_of_none e3 cnew),upd_ne ndP];exact e3,r⟩
      · exact ⟨c',z,oc,vs,t,by rw [upd_ne hfc,upd_same],hd,hv⟩
    · rw [upd_ne hfc,upd_same]
  | some cv=>
    obtain ⟨c',rfl,o,vs,t,ec,r⟩:=hall pos cv hf
    refine PySem.W.kla_makeFunctionHit (mg:=X.mg) hcl I.ok.glob hgs hcode (C.keeps I.bk) hPh ht hf hb fun ctv h' tk hk hsz=>?_
    have fnew:H h'.objs.size=none:=I.hok.fresh hsz
    have k2:∀ b u,s.heap.get? b=some u→(h'.push (PySem.W.kla_obj "<lambda>" (X.env.qual++"<lambda>") params body scope clos ((X.mg "__name__").getD .none) c' ctv)).get? b=some u:=fun b u e=>Heap.get?_push_of_some _ (hk b u e)
    have sm:Same H (upd H h'.objs.size (.frz (PySem.W.kla_obj "<lambda>" (X.env.qual++"<lambda>") params body scope clos ((X.mg "__name__").getD .none) c' ctv) (.own 0))):=fun b u e=>by rw [upd_ne (ne_of_none e fnew)];exact e
    have I2:=I.laid (t':=tk) (a:=h'.objs.size) (o:=.frz (PySem.W.kla_obj "<lambda>" (X.env.qual++"<lambda>") params body scope clos ((X.mg "__name__").getD .none) c' ctv) (.own 0)) k2 hsz ⟨Heap.get?_push_size _ rfl,_,Heap.get?_push_size _ rfl⟩
    exact ⟨.ref h'.objs.size,_,I2,rfl,hq _ _ fnew (fun b o _ e=>sm b o e) (TabAt.sm ⟨ps,hP,ht,hall⟩ sm) ⟨c',ctv,upd_same,o,vs,t,sm _ _ ec,r⟩⟩
end
def ownQ (q:Str)(o:Obj):Bool:=match o.data with
  | .func fd=>fd.qualname==q
  | .fields vs=>(match (vs[1]?:Option Value) with
    | some (.str z _)=>z==q
    | _=>false)
  | _=>false
def kn (q:Str):Option HO→Option Obj
  | some (.frz o (.own 0))=>if ownQ q o=true then some o else none
  | _=>none
section
variable {q:Str}
theorem kn_some {x:Option HO}{o:Obj}(h:kn q x=some o):x=some (.frz o (.own 0)):=by
  unfold kn at h
  split at h
  · split at h
    · cases h;rfl
    · cases h
  · cases h
theorem kn_at {H:Hp}{b:Addr}{o:Obj}(h:H b=some (.frz o (.own 0)))(w:ownQ q o=true):kn q (H b)=some o:=by rw [h];unfold kn;exact if_pos w
theorem kn_not {H:Hp}{b:Addr}{o:Obj}(h:H b=some (.frz o (.own 0)))(w:ownQ q o=false):kn q (H b)=none:=by rw [h];unfold kn;exact if_neg (by rw [w];exact Bool.false_ne_true)
theorem own_code {o:Obj}{vs:Array Value}{t:Tok}{z:Str}(d:o.data=.fields vs)(h:vs[1]?=some (.str z t)):ownQ q o=(z==q):=by
  unfold ownQ
  rw [d]
  dsimp only
  rw [h]
def del (q:Str)(H:Hp):Hp:=fun b=>if (kn q (H b)).isSome=true then none else H b
def put (q:Str)(H H':Hp):Hp:=fun b=>match kn q (H b) with
  | some o=>some (.frz o (.own 0))
  | none=>H' b
theorem del_in {H:Hp}{b:Addr}{o:Obj}(h:kn q (H b)=some o):del q H b=none:=if_pos (by rw [h];rfl)
theorem del_out {H:Hp}{b:Addr}(h:kn q (H b)=none):del q H b=H b:=if_neg (by rw [h];exact Bool.false_ne_true)
theorem del_of {H:Hp}{b:Addr}{o:HO}(h:H b=some o)(n:kn q (some o)=none):del q H b=some o:=by rw [del_out (by rw [h];exact n),h]
theorem del_none {H:Hp}{b:Addr}(h:H b=none):del q H b=none:=by
  unfold del
  split
  · rfl
  · exact h
theorem del_some {H:Hp}{b:Addr}{o:HO}(h:del q H b=some o):H b=some o∧kn q (H b)=none:=by
  unfold del at h
  split at h
  · cases h
  · rename_i n
    refine ⟨h,?_⟩
    cases w:kn q (H b) with
    | none=>rfl
    | some u=>exact absurd (by rw [w];rfl) n
theorem put_in {H H':Hp}{b:Addr}{o:Obj}(h:kn q (H b)=some o):put q H H' b=some (.frz o (.own 0)):=by
  unfold put
  rw [h]
theorem put_out {H H':Hp}{b:Addr}(h:kn q (H b)=none):put q H H' b=H' b:=by
  unfold put
  rw [h]
end
structure Wider (X:Cx)(σ:St)(q:Str)(H:Hp)(base':Heap):Prop where
  sub:∀ b o,X.base.get? b=some o→base'.get? b=some o
  sz:X.base.objs.size≤base'.objs.size
  mod:Mod X.K X.mg base'
  old:Mod X.K X.mg X.base
  new:∀ b o,kn q (H b)=some o→base'.get? b=some o
  cel:∀ x c,X.env.cells.lookup x=some c→∃ v,base'.IsCell c v
  val:∀ (i:Nat) (x:Str) (v:V) (c:Addr),X.N[i]?=some x→σ[i]?=some (some v)→X.env.scope.names.lookup x=some .cell→X.env.cells.lookup x=some c→∃ u,RelV v u∧base'.IsCell c (some u)
  inj:∀ x y c,X.env.cells.lookup x=some c→X.env.cells.lookup y=some c→x=y
theorem Wider.kin {X:Cx}{σ:St}{q:Str}{H:Hp}{base':Heap}(W:Wider X σ q H base'):X.K.In base':=W.mod.kin
theorem Wider.ns {X:Cx}{σ:St}{q:Str}{H:Hp}{base':Heap}(W:Wider X σ q H base'):base'.Ns mainGlobals X.mg:=W.mod.glob
theorem funs_sub {h base base':Heap}(sub:∀ b o,base.get? b=some o→base'.get? b=some o):∀ {l:List Env},h.FunFrames base' l→h.FunFrames base l
  | [],_=>trivial
  | _::_,⟨a,⟨L,o,f,n,e,d⟩,r⟩=>⟨a,⟨L,o,f,(by
      cases q:base.get? L with
      | none=>rfl
      | some u=>rw [sub L u q] at n;cases n),e,d⟩,funs_sub sub r⟩
section
variable {P:Program}{w:World}{K:PySem.W.Frag}{mg:Str→Option Value}{base base':Heap}{k:Nat}{f:Addr}{fd:FuncData}{ps:List Str}{sp:Sp}
theorem FnOk.wide (F:FnOk P w K mg base CX0 k f fd ps sp)(M:Mod K mg base)(sub:∀ b o,base.get? b=some o→base'.get? b=some o)(sz:base.objs.size≤base'.objs.size):FnOk P w K mg base' CX0 k f fd ps sp:=
  ⟨F.len,fun A outer s H args us vs Q E hr e hb hv hs=>F.run A outer s H args us vs Q E hr ⟨e.frames,M,fun b o z=>e.bs b o (sub b o z),Nat.le_trans sz e.bsz,funs_sub sub e.funs,e.frf,e.hok,e.bare⟩ hb hv hs⟩
def FV (P:Program)(w:World)(K:PySem.W.Frag)(mg:Str→Option Value)(base:Heap)(k:Nat)(f:Addr)(sp:Sp):Prop:=
  ∃ fd ps oc od sl,base.get? f=some ⟨oc,od,.func fd,sl⟩∧(∀ (s:Shared) (us:List Value),K.In s.heap→us.length=ps.length→BindsTo s fd ⟨us,[]⟩ (ps.zip us))∧FnOk P w K mg base CX0 k f fd ps sp
theorem FV.wide (G:FV P w K mg base k f sp)(M:Mod K mg base)(sub:∀ b o,base.get? b=some o→base'.get? b=some o)(sz:base.objs.size≤base'.objs.size):FV P w K mg base' k f sp:=by
  obtain ⟨fd,ps,oc,od,sl,e,b,F⟩:=G
  exact ⟨fd,ps,oc,od,sl,sub _ _ e,b,F.wide M sub sz⟩
theorem FV.imp {sp':Sp}(G:FV P w K mg base k f sp)(h:∀ vs H Q E,sp' vs H Q E→sp vs H Q E):FV P w K mg base k f sp':=by
  obtain ⟨fd,ps,oc,od,sl,e,b,F⟩:=G
  exact ⟨fd,ps,oc,od,sl,e,b,F.imp h⟩
theorem FV.mono {j:Nat}(G:FV P w K mg base j f sp)(h:j≤k):FV P w K mg base k f sp:=by
  obtain ⟨fd,ps,oc,od,sl,e,b,F⟩:=G
  exact ⟨fd,ps,oc,od,sl,e,b,F.mono h⟩
theorem FV.of {x qual:Str}{st:Stmt}(F:FnOk P w K mg base CX0 k f fd ps sp)(u:Fun K x qual st f fd)(hb:Binds K fd ps [])(KX:K.In base):FV P w K mg base k f sp:=by
  obtain ⟨oc,od,kV,doc,pm,an,cdv,ct,osl,e1,e2,e3⟩:=u.ex
  refine ⟨fd,ps,oc,od,osl,KX _ _ e2,fun s us ks hl=>?_,F⟩
  have:=hb s us ks (by simpa using hl)
  simpa using this
end
theorem Wider.fv {X:Cx}{σ:St}{q:Str}{H:Hp}{base':Heap}{k:Nat}{f:Addr}{sp:Sp}(W:Wider X σ q H base')(G:FV X.prog X.w X.K X.mg X.base k f sp):FV X.prog X.w X.K X.mg base' k f sp:=G.wide W.old W.sub W.sz
section
variable {X:Cx}
def tCallW (X:Cx)(k:Nat)(tf:TE)(t:TA):TE:=fun σ H Q=>tf σ H fun x H1=>∃ f sp,x=.ref f∧FV X.prog X.w X.K X.mg X.base k f sp∧t σ H1 fun vs H2=>sp vs H2 Q E0
theorem keeps_fn {M:Model}{f:Addr}{fd:FuncData}{oc:Value}{od:Option Addr}{sl:Array (Option Value)}(h:Heap)(e:h.get? f=some ⟨oc,od,.func fd,sl⟩):
    ∃ k,(k=Keeper.frame∨k=Keeper.machine∨k=Keeper.boundFrame)∧PySem.W.Looks M h (keeperOf (.ref f)) k:=
  ⟨.frame,.inl rfl,(PySem.W.Looks.ld (part:=none) e).andThen .now⟩
theorem pe_callW {k:Nat}{fe e:Expr}{es:List Expr}{tf:TE}{t:TA}{pos:Pos}(hf:PE X fe tf)(hr:Room k X.A)(ha:PA X (e::es) t)
    (hc:eval (.Call fe (e::es) [] pos) X.env=(do callWith pos (← eval fe X.env) [] (backTo pos (starEach (e::es) X.env)) (backToKw pos (keywordEach [] X.env))):=by rfl)
    (he:starEach (e::es) X.env=(false,eval e X.env)::starEach es X.env:=by rfl) (hpl:(backTo pos (starEach es X.env)).any (·.1)=false:=by rfl):PE X (.Call fe (e::es) [] pos) (tCallW X k tf t):=by
  intro pins s σ H Q I h
  refine Call_ (thn (hf pins s σ H _ I h) fun v s1 ⟨x,H1,I1,rx,f,sp,ex,G,q⟩=>?_) hc
  subst ex
  cases rx
  obtain ⟨fd,ps,oc,od,sl,eo,hb,F⟩:=G
  have hA:=ha pos pins s1 σ H1 _ I1 q
  rw [he] at hA ⊢
  refine PySem.W.callWith_of (P:=fun h=>h.get? f=some ⟨oc,od,.func fd,sl⟩) (by show ((false||(backTo pos (starEach es X.env)).any (·.1))||false)=false;rw [hpl];rfl) keeps_fn
    (PySem.Calls.evalArgs_plain (thn hA fun us s2 ⟨vs,H2,I2,r,q2⟩=>⟨I2.bk _ _ eo,?_⟩))
  have hl:us.length=ps.length:=by rw [← r.length];exact F.len _ _ _ _ q2
  refine wpAny_call (codeAny_mono (F.run X.A X.stack s2 H2 ⟨us,[]⟩ us vs Q E0 hr I2.env0 (hb s2 us I2.kIn hl) r q2) fun r s' hq=>?_)
  cases r with
  | error e=>exact False.elim hq
  | ok fl=>
    cases fl with
    | ret u=>exact I2.after hq
    | next=>exact False.elim hq
    | brk=>exact False.elim hq
    | cont=>exact False.elim hq
end
theorem funs_none {h base base':Heap}:∀ {l:List Env},h.FunFrames base l→(∀ b∈frs l,base'.get? b=none)→h.FunFrames base' l
  | [],_,_=>trivial
  | _::_,⟨a,⟨L,o,f,n,e,d⟩,r⟩,hn=>⟨a,⟨L,o,f,hn L (by unfold frs;rw [List.filterMap_cons,f];exact List.mem_cons_self),e,d⟩,funs_none r fun b hb=>hn b (by unfold frs;rw [List.filterMap_cons,f];exact List.mem_cons_of_mem _ hb)⟩
theorem del_hok {q:Str}{P:Program}{w:World}{H:Hp}{h:Heap}(x:HOk P w H h):HOk P w (del q H) h:=fun b o e=>by
  obtain ⟨e1,_⟩:=del_some e
  exact (x b o e1).stay (fun _ _ _ e=>e) (fun c e=>del_of e rfl) fun c xs e=>del_of e rfl
section
variable {X:Cx}{pins:List (Addr×Obj)}{σ:St}{H:Hp}{s:Shared}{q:Str}
def wid (X:Cx)(q:Str)(H:Hp)(s:Shared):Heap:=PySem.W.hideAll (hidT s.heap (del q H)) (frs X.stack)
theorem wid_in {b:Addr}{o:Obj}(e:s.heap.get? b=some o)(n:del q H b=none)(hb:b∉frs X.stack):(wid X q H s).get? b=some o:=PySem.W.hideAll_get _ (hidT_get e n) hb
theorem wid_of {b:Addr}{o:Obj}(e:(wid X q H s).get? b=some o):s.heap.get? b=some o∧del q H b=none:=of_hidT (PySem.W.of_hideAll _ e)
theorem wid_size:(wid X q H s).objs.size=s.heap.objs.size:=(PySem.W.hideAll_size _ _).trans (hidT_size _ _)
theorem Inv.wider (I:Inv X pins σ H s)(hfn:∀ x,X.fn x=true):Wider X σ q H (wid X q H s):=by
  have nst:∀ b,b≠X.env.locals→b∉X.fs→b∉frs X.stack:=fun b h1 h2 z=>(List.mem_cons.mp (I.stkSub b z)).elim h1 h2
  have sub:∀ b o,X.base.get? b=some o→(wid X q H s).get? b=some o:=fun b o e=>by
    obtain ⟨e1,n⟩:=I.bs b o e
    refine wid_in e1 (del_none n) (nst b (fun z=>?_) (I.ok.nofr e))
    have h1:=Heap.lt_size e
    rw [z] at h1
    exact absurd (Nat.lt_of_lt_of_le h1 (Nat.le_trans I.ok.bsz I.ok.above)) (Nat.lt_irrefl _)
  have cst:∀ x c,X.env.cells.lookup x=some c→c∉frs X.stack:=fun x c e=>nst c (I.cne x c e) fun z=>by
    obtain ⟨_,o,ho,_⟩:=I.ok.funs.mem z
    exact absurd (Nat.lt_of_lt_of_le (Heap.lt_size ho) (I.ok.cab x c (hfn x) e)) (Nat.lt_irrefl _)
  have cin:∀ x c v,X.env.cells.lookup x=some c→s.heap.IsCell c v→(wid X q H s).IsCell c v:=fun x c v e ⟨o,ho,hd⟩=>⟨o,wid_in ho (del_none (I.freeC x c e)) (cst x c e),hd⟩
  refine ⟨sub,?_,⟨I.ok.mod.kin.keeps sub,I.ok.mod.glob.keeps sub,?_,I.ok.mod.nolimit.keeps sub⟩,I.ok.mod,fun b o e=>?_,fun x c e=>?_,fun i x v c e1 e2 e3 e4=>?_,I.ok.inj⟩
  · rw [wid_size];exact Nat.le_trans I.ok.bsz I.sz
  · obtain ⟨mb,h1,h2⟩:=I.ok.mod.blt
    exact ⟨mb,h1.keeps sub,h2⟩
  · have e1:=kn_some e
    refine wid_in (I.hok _ _ e1).1 (del_in e) fun z=>?_
    rw [I.stkFree b z] at e1;cases e1
  · obtain ⟨v,hv⟩:=I.cell x c e
    exact ⟨v,cin x c v e hv⟩
  · obtain ⟨m,hn,hl⟩:=I.loc
    obtain ⟨u,r,l⟩:=hl i x v e1 e2 (.inr (.inl e3))
    refine ⟨u,r,?_⟩
    rcases l with ⟨k,_⟩ | ⟨_,c',ec,z⟩
    · have k':X.env.scope.names.lookup x=some .local:=k
      rw [e3] at k';cases k'
    · rw [e4] at ec;cases ec
      exact cin x c _ e4 z
theorem Inv.envL (I:Inv X pins σ H s)(hfn:∀ x,X.fn x=true):Env0 X.prog X.w X.K X.mg (wid X q H s) X.A X.stack s (del q H):=
  ⟨I.ok.frames,(I.wider (q:=q) hfn).mod,fun _ _ e=>wid_of e,Nat.le_of_eq wid_size,funs_none I.stack fun _ hb=>PySem.W.hideAll_none _ hb,fun b hb=>del_none (I.stkFree b hb),del_hok I.hok,I.bare⟩
theorem Inv.afterL {Q:VK}{u:Value}{s':Shared}(I:Inv X pins σ H s)(h:CE X.stack X.prog X.w (del q H) s (fun v H2=>(∀ b o,kn q (H b)=some o→H2 b=none)→Q v (put q H H2)) u s'):EP X pins σ Q u s':=by
  obtain ⟨v,H',os,bare,un,hok,r,qq⟩:=h
  have nkn:∀ b o,H b=some o→kn q (some o)=none→kn q (H b)=none:=fun b o e n=>by rw [e];exact n
  have kfree:∀ b o,kn q (H b)=some o→s.heap.get? b=some o∧H' b=none∧s'.heap.get? b=some o:=fun b o e=>by
    have e1:=kn_some e
    have e2:=(I.hok _ _ e1).1
    refine ⟨e2,un.free b o e2 (del_in e) (by simp),un.keep b o e2 (del_in e) (fun z=>?_) (by simp)⟩
    rw [I.stkFree b z] at e1;cases e1
  refine I.after ⟨v,put q H H',os,bare,⟨fun b o e n=>un.keep b o e (del_none n),fun b o e n=>un.slot b o e (del_none n),fun b o e n hx=>?_,un.there,fun b xs e=>?_,fun b o w e=>?_,fun b ps e=>?_⟩,fun b o e=>?_,r,qq fun b o e=>(kfree b o e).2.1⟩
  · rw [put_out (by rw [n];rfl)];exact un.free b o e (del_none n) hx
  · rw [put_out (nkn b _ e rfl)];exact un.tups b xs (del_of e rfl)
  · cases z:kn q (H b) with
    | none=>rw [put_out z];exact un.frzs b o w (by rw [del_out z];exact e)
    | some u=>
      rw [put_in z]
      rw [kn_some z] at e
      exact e
  · rw [put_out (nkn b _ e rfl)];exact un.tbls b ps (del_of e rfl)
  · cases z:kn q (H b) with
    | none=>
      rw [put_out z] at e
      have np:∀ c u,H' c=some u→kn q (H c)=none:=fun c u ec=>by
        cases y:kn q (H c) with
        | none=>rfl
        | some w=>rw [(kfree c w y).2.1] at ec;cases ec
      exact (hok b o e).stay (fun _ _ _ e=>e) (fun c e=>by rw [put_out (np c _ e)];exact e) fun c xs e=>by rw [put_out (np c _ e)];exact e
    | some u=>
      rw [put_in z] at e;cases e
      exact ⟨(kfree b u z).2.2,_,(kfree b u z).2.2⟩
def tCallL (X:Cx)(k:Nat)(f:Addr)(fd:FuncData)(ps:List Str)(t:TA):TE:=fun σ H Q=>t σ H fun vs H1=>∃ (q:Str) (sp:Sp),(∀ base',Wider X σ q H1 base'→FnOk X.prog X.w X.K X.mg base' CX0 k f fd ps sp)∧sp vs (del q H1) (fun v H2=>(∀ b o,kn q (H1 b)=some o→H2 b=none)→Q v (put q H1 H2)) E0
theorem pe_callL {k:Nat}{f:Addr}{fd:FuncData}{ps:List Str}{x:Str}{p pos:Pos}{e:Expr}{es:List Expr}{t:TA}(hr:Room k X.A)(hg:Gl X x)(hm:X.mg x=some (.ref f))(hk:PySem.W.keepIn X.K (.ref f)=true)(hb:Binds X.K fd ps [])
    (ha:PA X (e::es) t) (hfn:∀ y,X.fn y=true:=by intro _;rfl) (hdb:(x==("__debug__":Str))=false:=by decide) (he:starEach (e::es) X.env=(false,eval e X.env)::starEach es X.env:=by rfl) (hpl:(backTo pos (starEach es X.env)).any (·.1)=false:=by rfl):
    PE X (.Call (.Name x p) (e::es) [] pos) (tCallL X k f fd ps t):=by
  intro pins s σ H Q I h
  refine wpAny_Call_Name_kw (ld_glob I hg hm ?_ hdb)
  refine PySem.W.callWith_K (h₀:=X.base) I.ok.mod.kin hk (thn (ha pos pins s σ H _ I h) fun us s1 ⟨vs,H1,I1,r,qq,sp,F,q⟩=>⟨I1.kIn,?_⟩) he hpl
  have W:=I1.wider (q:=qq) hfn
  have hl:us.length=ps.length:=by rw [← r.length];exact (F _ W).len _ _ _ _ q
  have hB:=hb s1 us I1.kIn (by simpa using hl)
  rw [List.append_nil] at hB
  refine wpAny_call (codeAny_mono ((F _ W).run X.A X.stack s1 (del qq H1) ⟨us,[]⟩ us vs _ E0 hr (I1.envL (q:=qq) hfn) hB r q) fun r s' hq=>?_)
  cases r with
  | error e=>exact False.elim hq
  | ok fl=>
    cases fl with
    | ret u=>exact I1.afterL (q:=qq) hq
    | next=>exact False.elim hq
    | brk=>exact False.elim hq
    | cont=>exact False.elim hq
end
def cxLam (P:Program)(w:World)(K:PySem.W.Frag)(mg:Str→Option Value)(base:Heap)(N:List Str)(q:Str)(scope:Scope)(f:Addr)(cd:Value)(cl:List (Str×Addr))(A:Around)(outer:List Env)(s:Shared)(H:Hp):Cx where
  prog:=P
  w:=w
  K:=K
  mg:=mg
  base:=base
  A:=A.deeper (PySem.W.envX q scope s.heap.objs.size f cd cl)
  N:=N
  s₀:=s
  H₀:=H
  env:=PySem.W.envX q scope s.heap.objs.size f cd cl
  outer:=outer
  stack:=PySem.W.envX q scope s.heap.objs.size f cd cl::outer
  ex:=[]
  calm:=true
  fn:=fun _=>false
  pn:=[]
  xe:=fun _ _=>False
structure LamScope (X:Cx)(scope:Scope)(cl:List (Str×Addr))(ps fv:List Str)(js:List Nat):Prop where
  kind:scope.kind=.function
  co:scope.isCoroutine=false
  gen:scope.isGenerator=false
  nc:∀ y∈scope.names,y.2≠.cell
  par:∀ y∈ps,scope.names.lookup y=some .local
  fr:∀ y∈scope.names,y.2=.free→y.1∈fv
  nd:(ps++fv).Nodup
  vis:∀ y∈fv,scope.names.lookup y=some .free∧X.env.scope.names.lookup y=some .cell∧(cl.lookup y).isSome=true
  cls:∀ p∈cl,X.env.cells.lookup p.1=some p.2
  sl:Paired (fun y j=>X.N[j]?=some y) fv js
theorem zip_fst_sub:∀ (ps:List Str) (us:List Value),List.Sublist ((ps.zip us).map (·.1)) ps
  | [],_=>.slnil
  | _::_,[]=>List.nil_sublist _
  | p::ps,u::us=>.cons₂ p (zip_fst_sub ps us)
theorem rev_zip_get {x:Str}{u:Value}:∀ {ps:List Str} {us:List Value} {i:Nat},ps.Nodup→ps[i]?=some x→us[i]?=some u→(ps.zip us).reverse.lookup x=some u:=fun {ps us i} nd h1 h2=>by
  have hm:(x,u)∈ps.zip us:=by
    refine List.mem_of_getElem? (i:=i) ?_
    rw [List.getElem?_zip_eq_some]
    exact ⟨h1,h2⟩
  have nd2:((ps.zip us).reverse.map (·.1)).Nodup:=by
    rw [List.map_reverse]
    refine List.nodup_iff_pairwise_ne.mpr (List.pairwise_reverse.mpr (List.Pairwise.imp (fun h=>Ne.symm h) (List.nodup_iff_pairwise_ne.mp ?_)))
    exact List.Nodup.sublist (zip_fst_sub ps us) nd
  have go:∀ l:List (Str×Value),(l.map (·.1)).Nodup→(x,u)∈l→l.lookup x=some u:=by
    intro l
    induction l with
    | nil=>intro _ h;cases h
    | cons p r ih=>
      intro hn h
      obtain ⟨y,v⟩:=p
      rw [List.map_cons,List.nodup_cons] at hn
      rcases List.mem_cons.mp h with e | e
      · cases e;simp [List.lookup_cons]
      · have ne:(x==y)=false:=by
          cases q:x==y with
          | false=>rfl
          | true=>exact absurd (eq_of_beq q▸List.mem_map_of_mem (f:=(·.1)) e) hn.1
        simp only [List.lookup_cons,ne]
        exact ih hn.2 e
  exact go _ nd2 (List.mem_reverse.mpr hm)
theorem Wider.lam {X:Cx}{σ:St}{Hk:Hp}{base':Heap}{k:Nat}{f c:Addr}{q:Str}{params:Arguments}{body:Expr}{scope:Scope}{cl:List (Str×Addr)}{pm ctv:Value}{ps fv:List Str}{js:List Nat}{sp:Sp}(W:Wider X σ q Hk base')
    (hf:Hk f=some (.frz (PySem.W.kla_obj "<lambda>" q params body scope cl pm c ctv) (.own 0))) (hc:CodeK Hk q c) (S:LamScope X scope cl ps fv js)
    (hbind:∀ us:List Value,us.length=ps.length→bindArgs (PySem.W.kla_fn "<lambda>" q params body scope cl pm (.ref c) ctv) ⟨us,[]⟩=pure (ps.zip us)) (len:∀ vs H Q E,sp vs H Q E→vs.length=ps.length)
    (hbody:∀ (A:Around) (outer:List Env) (s:Shared) (H:Hp) (vs:List V) (Q:VK) (E:XK),Room k (A.deeper (PySem.W.envX q scope s.heap.objs.size f (.ref c) cl))→sp vs H Q E→
      ∃ te,PE (cxLam X.prog X.w X.K X.mg base' (ps++fv) q scope f (.ref c) cl A outer s H) body te∧te (vs.map some++frv js σ) H Q):FV X.prog X.w X.K X.mg base' (k+1) f sp:=by
  obtain ⟨oc,vc,tc,ec,dc,qc⟩:=hc
  have bf:=W.new f _ (kn_at hf (show (q==q)=true from beq_self_eq_true q))
  have bc:=W.new c _ (kn_at ec ((own_code dc qc).trans (beq_self_eq_true q)))
  refine ⟨_,ps,_,_,_,bf,fun s us _ hl=>.of_eq (hbind us hl),len,fun A outer s H args us vs Q E hr e0 hb r hsp=>?_⟩
  have hl:=len _ _ _ _ hsp
  have lim:s.heap.NoLimit:=e0.mod.nolimit.keeps fun b o e=>(e0.bs b o e).1
  have hps:us.length=ps.length:=by rw [← r.length];exact hl
  refine PySem.W.kla_callFunE hr.depth (e0.bs _ _ bf).1 rfl S.co S.gen rfl ⟨c,oc,vc,tc,rfl,(e0.bs _ _ bc).1,dc,qc⟩ (hb _ _ _ _ ?_)
  refine wpAny_newFunctionEnv S.nc (fun y hy=>S.par y.1 (List.of_mem_zip hy).1) (fun h₁ hns hsb=>⟨lim.fresh _ hsb,?_⟩) S.kind
  have hk₁:∀ b o,s.heap.get? b=some o→h₁.get? b=some o:=fun b o e=>hsb.extBut b o (Nat.ne_of_lt (Heap.lt_size e)) (Heap.get?_push_of_some _ e)
  obtain ⟨te,hte,hq⟩:=hbody A outer s H vs Q E (hr.deeper _) hsp
  have cellOf:∀ y cc,cl.lookup y=some cc→X.env.cells.lookup y=some cc:=fun y cc e=>S.cls (y,cc) (PySem.mem_of_lookup e)
  have noA:∀ b:Addr,b∉(cxLam X.prog X.w X.K X.mg base' (ps++fv) q scope f (.ref c) cl A outer s H).ex:=fun b z=>absurd (show b∈([]:List Addr) from z) (by simp)
  have I:Inv (cxLam X.prog X.w X.K X.mg base' (ps++fv) q scope f (.ref c) cl A outer s H) [] (vs.map some++frv js σ) H { s with heap:=h₁,toks:=s.toks+(ps.zip us).length }:=by
    refine ⟨⟨e0.mod,S.kind,rfl,rfl,Nat.le_refl _,fun y z d h1 h2=>W.inj y z d (cellOf y d h1) (cellOf z d h2),fun y hy=>?_,fun y d h=>absurd (show false=true from h) Bool.false_ne_true,fun _=>hr.hd,Around.frames_deeper e0.frames,.inr ⟨rfl,rfl⟩,fun b z=>absurd z (noA b),e0.bs,e0.bsz,
      fun b _ _=>noA b,fun b z=>absurd z (noA b),e0.funs,e0.frf⟩,rfl,e0.bare,Un.kept hk₁,⟨_,hns,fun i y v h1 h2 h3=>?_⟩,fun y d h=>?_,e0.hok.fresh (Nat.le_refl _),fun y d h=>?_,fun p hp=>absurd (show p∈([]:List (Addr×Obj)) from hp) (by simp),e0.hok.kept hk₁,?_⟩
    · have hy':scope.names.lookup y=some .cell∨scope.names.lookup y=some .free:=hy
      rcases hy' with z | z
      · exact absurd rfl (S.nc _ (PySem.mem_of_lookup z))
      · exact Option.isSome_iff_exists.mp (S.vis y (S.fr _ (PySem.mem_of_lookup z) rfl)).2.2
    · have h1':(ps++fv)[i]?=some y:=h1
      by_cases hi:i<ps.length
      · rw [List.getElem?_append_left hi] at h1'
        rw [List.getElem?_append_left (by rw [List.length_map,hl];exact hi),List.getElem?_map] at h2
        have h2':vs[i]?=some v:=by
          cases z:vs[i]? with
          | none=>rw [z] at h2;cases h2
          | some a=>rw [z] at h2;cases h2;rfl
        obtain ⟨u,hu,rv⟩:=r.get h2'
        have nd:ps.Nodup:=(List.nodup_append.mp S.nd).1
        exact ⟨u,rv,.inl ⟨S.par y (List.mem_of_getElem? h1'),rev_zip_get nd h1' hu⟩⟩
      · have hi':ps.length≤i:=Nat.not_lt.mp hi
        rw [List.getElem?_append_right hi'] at h1'
        rw [List.getElem?_append_right (by rw [List.length_map,hl];exact hi'),List.length_map,hl] at h2
        obtain ⟨j,hj,hN⟩:=paired_get S.sl h1'
        have hv:σ[j]?=some (some v):=by
          unfold frv at h2
          rw [List.getElem?_map,hj] at h2
          have z':(σ[j]?).getD none=some v:=Option.some.inj h2
          cases z:σ[j]? with
          | none=>rw [z] at z';cases z'
          | some o=>rw [z] at z';exact congrArg some z'
        obtain ⟨hfree,hcell,hsome⟩:=S.vis y (List.mem_of_getElem? h1')
        obtain ⟨d,hd⟩:=Option.isSome_iff_exists.mp hsome
        obtain ⟨u,ru,o,ho,hdt⟩:=W.val j y v d hN hv hcell (cellOf y d hd)
        exact ⟨u,ru,.inr ⟨.inr hfree,d,hd,o,hk₁ _ _ (e0.bs _ _ ho).1,hdt⟩⟩
    · obtain ⟨v,o,ho,hd⟩:=W.cel y d (cellOf y d h)
      exact ⟨v,o,hk₁ _ _ (e0.bs _ _ ho).1,hd⟩
    · obtain ⟨v,o,ho,hd⟩:=W.cel y d (cellOf y d h)
      exact (e0.bs _ _ ho).2
    · show (vs.map some++frv js σ).length=(ps++fv).length
      have:fv.length=js.length:=Paired.length S.sl
      simp [frv,this,hl]
  refine PySem.W.kla_codeExpr (wpAny_mono (hte [] _ _ H Q I hq) (fun v s' hs=>?_) fun e s' hs=>False.elim hs)
  obtain ⟨x,H',J,rv,qv⟩:=hs
  exact ⟨x,H',J.os,J.bare,J.base,J.hok,rv,qv⟩
end L2
namespace L2
open PySem PySem.Spec PyProof.Rows
def Itst (m:Int)(n:Nat):It:=⟨fun i _=>i<n,fun i H x H'=>H'=H∧x=.int (i*m),fun i _=>n≤i⟩
theorem turn_step {P:Program}{w:World}{K:PySem.W.Frag}{tg:Expr}(it:Addr)(m:Int)(n:Nat):Turn P w K tg (Itst m n) [it] it (fun i h=>IsRangeIter h it (0+(i:Nat)*m) ((n:Int)-(i:Nat)) m) where
  mem:=by simp
  obj:=fun i h st b hb=>by
    obtain rfl:b=it:=by simpa using hb
    exact ⟨_,st,fun v z=>by
      have z':Data.fields _=Data.cell v:=z
      cases z'⟩
  keep:=fun i h h' st k=>k it (by simp) _ st
  item:=by
    intro X hP hw hK hc i pins s σ H E I hf st hg
    subst hP hw hK
    obtain ⟨f0,f1,f2,f3,f4,f5⟩:=hf it (by simp)
    have W:=Walks.range (prog:=X.prog) (w:=X.w) (I.ok.hd hc) it 0 m n
    refine W.item i s _ _ hg st fun v h' tk hv st' kk=>?_
    obtain ⟨t,rfl⟩:=hv
    have I1:Inv X pins σ H { s with heap:=h',toks:=tk }:=I.turned (fun b o hb e=>kk b o (by simpa using hb) e) f0 f1 f3 f4 f5
    refine ⟨_,rfl,go_of (s:={ s with heap:=h',toks:=tk }) (n:="range_iterator") st' rfl rfl (by decide) ⟨.int (i*m),H,I1,⟨t,?_⟩,⟨rfl,rfl⟩,st',fun b hb=>(hf b hb).1⟩⟩
    rw [Int.zero_add]
  done:=by
    intro X hP hw hK hc i pins s σ H E I hf st hg
    subst hP hw hK
    obtain ⟨f0,f1,f2,f3,f4,f5⟩:=hf it (by simp)
    exact wpAny_pyNext_range_end (I.ok.hd hc) st (by have:n≤i:=hg;omega) fun h' eb=>⟨rfl,I.turned (t':=s.toks) (fun b o hb e=>eb b o hb e) f0 f1 f3 f4 f5⟩
  self:=fun _ _ _ _ _ st h=>wpAny_pyIter_rangeiter st h
def stepN (j m:Int):Nat:=(if 0<j then (j-1) / m+1 else 0).toNat
theorem size_step {j m:Int}(hm:1≤m):Builtin.Range.rangeSize 0 j m=((stepN j m:Nat):Int):=by
  unfold Builtin.Range.rangeSize stepN
  rw [if_pos (show m>0 by omega)]
  by_cases h:0<j
  · have h2:0≤(j-1) / m:=Int.ediv_nonneg (by omega) (by omega)
    rw [if_pos h,if_pos h,Int.sub_zero]
    omega
  · rw [if_neg h,if_neg h];rfl
theorem step_le {j m:Int}(h0:0≤j)(hm:1≤m):((stepN j m:Nat):Int)≤j:=by
  unfold stepN
  by_cases h:0<j
  · have h2:0≤(j-1) / m:=Int.ediv_nonneg (by omega) (by omega)
    have h3:(j-1) / m≤j-1:=Int.ediv_le_self _ (by omega)
    rw [if_pos h]
    omega
  · rw [if_neg h];simpa using h0
theorem small_step {j m:Int}(h0:0≤j)(h1:j≤1000000)(hm:1≤m)(hm2:m≤1000000):Builtin.Range.small 0 j m=true:=by
  have hs:=step_le h0 hm
  have h2:(0:Int)≤((stepN j m:Nat):Int):=Int.natCast_nonneg _
  unfold Builtin.Range.small
  rw [size_step hm,if_pos (show m>0 by omega)]
  generalize ((stepN j m:Nat):Int)=z at hs h2
  simp only [Builtin.Range.rangeFitsLong,Bool.and_eq_true,Bool.or_eq_true,decide_eq_true_eq,beq_iff_eq]
  omega
section
variable {X:Cx}{tg:Expr}
def iRng3 (ta:TA):TI:=fun σ H R=>ta σ H fun vs H1=>∃ j m:Int,vs=[.int 0,.int j,.int m]∧(0≤j∧j≤1000000∧1≤m∧m≤1000000)∧R (Itst m (stepN j m)) H1
theorem pi_range3 {a b c:Expr}{ta:TA}{p pos:Pos}(hg:Gl X "range")(hm:X.mg "range"=none)(ha:PA X [a,b,c] ta)
    (hs:starEach [a,b,c] X.env=[(false,eval a X.env),(false,eval b X.env),(false,eval c X.env)]:=by rfl) (hs2:starEach [b,c] X.env=[(false,eval b X.env),(false,eval c X.env)]:=by rfl):
    PI X tg (.Call (.Name "range" p) [a,b,c] [] pos) (iRng3 ta):=by
  intro pins s σ H R I h
  refine Call_ (ld_blt I hg hm boot_range (PyProof.Rows.callWith_type1 (thn (ha pos pins s σ H _ I h) fun us s1 ⟨vs,H1,I1,r1,q1⟩=>?_) (by rw [hs,hs2]) (by rw [hs2];rfl)))
  obtain ⟨j,m,e,⟨q1,q2,q3,q4⟩,q⟩:=q1
  subst e
  cases r1 with
  | cons r rr=>
    cases rr with
    | cons r' rr=>
      cases rr with
      | cons r2 rr=>
        cases rr
        obtain ⟨t,rfl⟩:=r
        obtain ⟨t',rfl⟩:=r'
        obtain ⟨t2,rfl⟩:=r2
        refine call_range_3 (by omega) ?_ (Or.inl (PyProof.noPylong_small (by omega)))
        refine wpAny_pyIter_range (IsRange.new ..) (small_step q1 q2 q3 q4) ?_
        have I2:Inv X pins σ H1 { s1 with heap:=s1.heap.push { cls:=.type "range",data:=.fields #[.int 0 t,.int j t',.int m t2] },toks:=s1.toks }:=I1.kept fun b o e=>Heap.get?_push_of_some _ e
        refine ⟨(s1.heap.push { cls:=.type "range",data:=.fields #[.int 0 t,.int j t',.int m t2] }).objs.size,[(s1.heap.push { cls:=.type "range",data:=.fields #[.int 0 t,.int j t',.int m t2] }).objs.size],_,_,H1,rfl,
          I2.kept (t':=s1.toks) fun b o e=>Heap.get?_push_of_some _ e,turn_step _ m (stepN j m),?_,fun b hb=>?_,q⟩
        · show IsRangeIter _ _ (0+((0:Nat):Int)*m) (((stepN j m:Nat):Int)-((0:Nat):Int)) m
          have e1:0+((0:Nat):Int)*m=0:=by simp
          have e2:((stepN j m:Nat):Int)-((0:Nat):Int)=Builtin.Range.rangeSize 0 j m:=by rw [size_step q3];simp
          rw [e1,e2]
          exact Heap.get?_push_size _ rfl
        · obtain rfl:b=(s1.heap.push { cls:=.type "range",data:=.fields #[.int 0 t,.int j t',.int m t2] }).objs.size:=by simpa using hb
          exact I2.fpOk (Nat.le_refl _) (I2.hok.fresh (Nat.le_refl _))
end
section
variable {P:Program}{w:World}{K:PySem.W.Frag}{mg:Str→Option Value}{base:Heap}
theorem Fun.okC {x qual:Str}{st:Stmt}{f:Addr}{fd:FuncData}{N ps:List Str}{k:Nat}{sp:Sp}(F:Fun K x qual st f fd)(S:FnScope N ps (defScope st))(len:∀ vs H Q E,sp vs H Q E→vs.length=ps.length)
    (hbody:∀ (cdv:Value) (A:Around) (outer:List Env) (s:Shared) (H:Hp) (vs:List V) (Q:VK) (E:XK),fd.code=cdv→Room k (A.deeper (envOfC qual (defScope st) s.heap.objs.size f cdv))→sp vs H Q E→
      ∃ t,PSs (cxOf CX0 P w K mg base N qual (defScope st) f cdv A outer s H E).nox (defBody st) t∧t { nx:=fun _ H'=>Q .non H',rt:=Q } (start N vs) H):FnOk P w K mg base CX0 (k+1) f fd ps sp:=by
  obtain ⟨oc,od,kV,doc,pm,an,cdv,ct,osl,rfl,lk,hcd⟩:=F.ex
  refine fn_of lk hcd S len fun A outer s H vs Q E hr hsp=>?_
  obtain ⟨t,h,q⟩:=hbody cdv A outer s H vs Q E rfl hr hsp
  exact ⟨t,h.nox,q⟩
theorem code_in {x qual:Str}{st:Stmt}{f c T:Addr}{fd:FuncData}(F:Fun K x qual st f fd)(hn:PySem.W.nsIn K mainGlobals x=some (some (.ref f)))(ht:PySem.W.tabIn K x=some (c,T)):fd.code=.ref c:=by
  obtain ⟨oc,od,kV,doc,pm,an,cdv,ct,osl,rfl,lk,hcd⟩:=F.ex
  unfold PySem.W.tabIn at ht
  rw [hn] at ht
  dsimp only at ht
  rw [lk] at ht
  dsimp only at ht
  split at ht
  · rename_i c' e
    split at ht
    · split at ht
      · cases ht
        rfl
      · cases ht
    · cases ht
  · cases ht
end
end L2
namespace L2
open PySem PySem.Spec PyProof.Rows
theorem rec_of {p:Program}{x:Str}(h:(recsOf p).any (fun e=>e.name==x)=true):∃ d,(recsOf p).find? (fun e=>e.name==x)=some d:=by
  obtain ⟨d,hd,e⟩:=List.any_eq_true.mp h
  cases q:(recsOf p).find? (fun e=>e.name==x) with
  | some u=>exact ⟨u,rfl⟩
  | none=>exact absurd e (by simpa using List.find?_eq_none.mp q d hd)
end L2
namespace L2
open PySem PySem.Spec PyProof.Rows
section
variable {X:Cx}{scope:Scope}{cl:List (Str×Addr)}{C:Addr}{N:List Str}{s₀:Shared}{H₀:Hp}{ex:List Addr}{pn:List (Addr×Obj)}
theorem slc_list:SlR (cxComp X scope cl C N s₀ H₀ ex pn) (rSlL X.K):=sl_list
theorem call_tuple_ofc:CallR (cxComp X scope cl C N s₀ H₀ ex pn) (.type "tuple") (fun xs H Q=>∃ p ys,xs=[.ref p]∧((SqL X.K H p ys∧∀ l,H l=none→Q (.ref l) (upd H l (.tup ys)))∨(SqT X.K H p ys∧Q (.ref p) H))):=call_tuple_of
theorem pe_callWc {k:Nat}{fe e:Expr}{es:List Expr}{tf:TE}{t:TA}{pos:Pos}(hf:PE (cxComp X scope cl C N s₀ H₀ ex pn) fe tf)(hr:Room k X.A)(ha:PA (cxComp X scope cl C N s₀ H₀ ex pn) (e::es) t)
    (hc:eval (.Call fe (e::es) [] pos) (cxComp X scope cl C N s₀ H₀ ex pn).env=(do callWith pos (← eval fe (cxComp X scope cl C N s₀ H₀ ex pn).env) [] (backTo pos (starEach (e::es) (cxComp X scope cl C N s₀ H₀ ex pn).env)) (backToKw pos (keywordEach [] (cxComp X scope cl C N s₀ H₀ ex pn).env))):=by rfl)
    (he:starEach (e::es) (cxComp X scope cl C N s₀ H₀ ex pn).env=(false,eval e (cxComp X scope cl C N s₀ H₀ ex pn).env)::starEach es (cxComp X scope cl C N s₀ H₀ ex pn).env:=by rfl) (hpl:(backTo pos (starEach es (cxComp X scope cl C N s₀ H₀ ex pn).env)).any (·.1)=false:=by rfl):
    PE (cxComp X scope cl C N s₀ H₀ ex pn) (.Call fe (e::es) [] pos) (tCallW X k tf t):=pe_callW (X:=cxComp X scope cl C N s₀ H₀ ex pn) hf hr ha hc he hpl
end
end L2
namespace L2
open PySem PySem.Spec PyProof.Rows
theorem law_callT {P:Program}{w:World}{K:PySem.W.Frag}{mg mb:Str→Option Value}{CX:CXT}{k:Nat}{fa a:Addr}{fd:FuncData}{x:Str}{sp:Sp}{s₁:Shared}{vs:List Value}{ns:List Int}{tabs:List (Addr×Addr)}
    (KX:K.In s₁.heap) (hns:s₁.heap.Ns mainGlobals mg) (hb:s₁.heap.Ns builtinsNs mb) (hbb:∀ x:Str,x≠"__name__"→mb x=bootBuiltins x) (hlim:s₁.heap.NoLimit) (hg:s₁.gens=#[])
    (ha:s₁.heap.get? a=some { cls:=.type "list",data:=.seq vs.toArray }) (hi:IntsAre vs ns) (hl:ns.length≤sizeLine) (hr:Room k callerA)
    (hBM:BM mg s₁.heap) (F:∀ base:Heap,K.In base→base.Ns mainGlobals mg→(∀ q∈tabs,PySem.W.CodeHd base q.1 q.2)→BM mg base→FnOk P w K mg base CX k fa fd [x] sp) (hbind:∀ (s:Shared) (u:Value),BindsTo s fd ⟨[u],[]⟩ [(x,u)])
    (hT:PySem.W.TabsAt tabs s₁.heap) (hKT:PySem.W.noTabs K=true)
    (hsp:∀ H:Hp,(∀ q∈tabs,H q.2=some (.tbl #[]))→SqL K H a (ns.map V.int)→sp [.ref a] H (fun v _=>v=.bl true) fun _ _ _=>False)
    (hCX:∀ H e s',CX [] H s₁ (fun _ _ _=>False) e s'→False):
    codeAny (model P w) callerA (.call (.ref fa) ⟨[.ref a],[]⟩) (fun r s'=>r=.ok (.ret (.bool true))∧OldK s₁.heap s'.heap∧s'.os=s₁.os∧AllBare s'.gens) s₁:=by
  have rv:=vals_ints hi
  have lenV:=hi.length
  have noKT:∀ b,b∈tabs.map (·.2)→K.lookup b=none:=fun b hb=>by
    obtain ⟨q,hq,rfl⟩:=List.mem_map.mp hb
    cases e:K.lookup q.2 with
    | none=>rfl
    | some o=>
      have h1:=KX _ _ e
      rw [(hT q hq).2] at h1
      cases h1
      have h2:=List.all_eq_true.mp hKT _ (PySem.W.mem_of_lookupK e)
      cases h2
  have core:∀ H:Hp,(∀ q∈tabs,H q.2=some (.tbl #[]))→(∀ b,b∉tabs.map (·.2)→H b=none∨∃ o xs,H b=some (.frz o (.lst xs)))→SqL K H a (ns.map V.int)→HOk P w H s₁.heap→(∀ b,H b≠none→b=a∨b∈tabs.map (·.2))→(H a≠none→K.lookup a=none)→
      codeAny (model P w) callerA (.call (.ref fa) ⟨[.ref a],[]⟩) (fun r s'=>r=.ok (.ret (.bool true))∧OldK s₁.heap s'.heap∧s'.os=s₁.os∧AllBare s'.gens) s₁:=by
    intro H hTb hO hS hok hA hK
    have base_of:∀ {b:Addr} {o:Obj},s₁.heap.get? b=some o→H b=none→(hidT s₁.heap H).get? b=some o:=fun e n=>hidT_get e n
    have noA:∀ {b:Addr} {o:Obj} {es:Array DictEntry} {ep:Nat},s₁.heap.get? b=some o→o.data=.dict es ep→H b=none:=fun {b o es ep} e d=>by
      cases q:H b with
      | none=>rfl
      | some u=>
        rcases hA b (by rw [q];simp) with e' | e'
        · subst e'
          rw [ha] at e;cases e
          have d':Data.seq vs.toArray _=Data.dict es ep:=d
          cases d'
        · obtain ⟨r,hr',rfl⟩:=List.mem_map.mp e'
          rw [(hT r hr').2] at e
          cases e
          cases d
    have nsK:∀ {b:Addr} {m:Str→Option Value},s₁.heap.Ns b m→(hidT s₁.heap H).Ns b m:=fun {b m} ⟨o,es,ep,e,d,r⟩=>⟨o,es,ep,base_of e (noA e d),d,r⟩
    have hKb:K.In (hidT s₁.heap H):=fun b o e=>base_of (KX b o e) (by
      cases q:H b with
      | none=>rfl
      | some u=>
        rcases hA b (by rw [q];simp) with e' | e'
        · subst e'
          rw [hK (by rw [q];simp)] at e;cases e
        · rw [noKT b e'] at e;cases e)
    have hM:Mod K mg (hidT s₁.heap H):=⟨hKb,nsK hns,⟨mb,nsK hb,hbb⟩,let ⟨mc,h1,h2⟩:=hlim;⟨mc,nsK h1,h2⟩⟩
    have e0:Env0 P w K mg (hidT s₁.heap H) callerA [] s₁ H:=⟨rfl,hM,fun b o e=>of_hidT e,Nat.le_of_eq (hidT_size _ _),trivial,fun b hb=>absurd (show b∈([]:List Addr) from hb) (by simp),hok,.of_eq hg⟩
    have noB:∀ {b:Addr} {o:Obj} {n:String},s₁.heap.get? b=some o→o.cls=.type n→n≠"list"→H b=none:=fun {b o n} e d dn=>by
      cases q:H b with
      | none=>rfl
      | some u=>
        rcases hA b (by rw [q];simp) with e' | e'
        · subst e'
          rw [ha] at e;cases e
          have d':Value.type "list"=Value.type n:=d
          cases d'
          exact absurd rfl dn
        · obtain ⟨r,hr',rfl⟩:=List.mem_map.mp e'
          rw [(hT r hr').2] at e
          cases e
          cases d
    have hCd:∀ q∈tabs,PySem.W.CodeHd (hidT s₁.heap H) q.1 q.2:=fun q hq=>by
      obtain ⟨o,vs,file,tf,flags,tg,inF,text,tt,e,ec,r⟩:=(hT q hq).1
      exact ⟨o,vs,file,tf,flags,tg,inF,text,tt,base_of e (noB e ec (by decide)),ec,r⟩
    have hBd:BM mg (hidT s₁.heap H):=by
      obtain ⟨bm,o,b1,b2,b3,b4,b5⟩:=hBM
      exact ⟨bm,o,b1,b2,base_of b3 (noB b3 b4 (by decide)),b4,b5⟩
    refine codeAny_mono ((F _ hKb (nsK hns) hCd hBd).run callerA [] s₁ H ⟨[.ref a],[]⟩ [.ref a] [.ref a] _ _ hr e0 (hbind s₁ (.ref a)) (.cons rfl .nil) (hsp H hTb hS)) fun r s' h=>?_
    cases r with
    | error e=>exact (hCX H e s' h).elim
    | ok fl=>
      cases fl with
      | next=>exact False.elim h
      | brk=>exact False.elim h
      | cont=>exact False.elim h
      | ret u=>
        obtain ⟨v,H',os,bare,un,hok',r',q⟩:=h
        have q':v=.bl true:=q
        subst q'
        obtain rfl:u=Value.bool true:=r'
        refine ⟨rfl,⟨fun b o e=>?_,fun b o e=>un.there b o e (by simp)⟩,os,bare⟩
        by_cases hb:b∈tabs.map (·.2)
        · obtain ⟨q,hq,rfl⟩:=List.mem_map.mp hb
          obtain ⟨more,e2⟩:=un.tbls _ _ (hTb q hq)
          have e3:s'.heap.get? q.2=some { cls:=.none,data:=.fields (#[]++more) }:=hok' _ _ e2
          rw [(hT q hq).2] at e
          cases e
          obtain ⟨oc,vc,file,tf,flags,tg,inF,text,tt,g1,g2,g3,g4,_⟩:=(hT q hq).1
          exact .inr (.inl ⟨⟨_,_,_,g1,g2,g3,g4⟩,rfl,_,_,rfl,e3⟩)
        · refine .inl ?_
          rcases hO b hb with q | ⟨ob,xs,z⟩
          · exact un.keep b o e q (fun z=>absurd (show b∈([]:List Addr) from z) (by simp)) (by simp)
          · obtain ⟨e1,_⟩:=hok b _ z
            obtain ⟨e2,_⟩:=hok' b _ (un.frzs b ob _ z)
            rw [e] at e1;cases e1
            exact e2
  have nTa:a∉tabs.map (·.2):=fun hm=>by
    obtain ⟨q,hq,e⟩:=List.mem_map.mp hm
    have h1:=(hT q hq).2
    rw [e,ha] at h1
    cases h1
  have tok:∀ q∈tabs,s₁.heap.get? q.2=some { cls:=.none,data:=.fields #[] }:=fun q hq=>(hT q hq).2
  cases hk:K.lookup a with
  | some o=>
    have e:=KX a o hk
    rw [ha] at e
    cases e
    refine core (fun b=>if b∈tabs.map (·.2) then some (.tbl #[]) else none) (fun q hq=>if_pos (List.mem_map_of_mem hq)) (fun b hb=>.inl (if_neg hb)) (.inr ⟨_,vs.toArray,_,hk,rfl,rfl,rfl,by rw [List.size_toArray,lenV];exact hl,by simpa using rv⟩) (fun b u z=>?_) (fun b z=>?_) (fun z=>absurd (if_neg nTa) z)
    · by_cases hb:b∈tabs.map (·.2)
      · have z':=(if_pos hb).symm.trans z
        cases z'
        obtain ⟨q,hq,rfl⟩:=List.mem_map.mp hb
        exact tok q hq
      · have z':=(if_neg hb).symm.trans z
        cases z'
    · by_cases hb:b∈tabs.map (·.2)
      · exact .inr hb
      · exact absurd (if_neg hb) z
  | none=>
    refine core (fun b=>if b∈tabs.map (·.2) then some (.tbl #[]) else if b=a then some (.frz { cls:=.type "list",data:=.seq vs.toArray } (.lst (ns.map V.int))) else none) (fun q hq=>if_pos (List.mem_map_of_mem hq)) (fun b hb=>?_) (.inl (.inr ⟨{ cls:=.type "list",data:=.seq vs.toArray },(if_neg nTa).trans (if_pos rfl)⟩)) (fun b u z=>?_) (fun b z=>?_) (fun _=>hk)
    · by_cases hba:b=a
      · exact .inr ⟨_,_,(if_neg hb).trans (if_pos hba)⟩
      · exact .inl ((if_neg hb).trans (if_neg hba))
    · by_cases hb:b∈tabs.map (·.2)
      · have z':=(if_pos hb).symm.trans z
        cases z'
        obtain ⟨q,hq,rfl⟩:=List.mem_map.mp hb
        exact tok q hq
      · by_cases hba:b=a
        · have z':=((if_neg hb).trans (if_pos hba)).symm.trans z
          cases z'
          subst hba
          exact ⟨ha,by rw [List.length_map];exact hl,vs,_,rv,ha⟩
        · have z':=((if_neg hb).trans (if_neg hba)).symm.trans z
          cases z'
    · by_cases hb:b∈tabs.map (·.2)
      · exact .inr hb
      · by_cases hba:b=a
        · exact .inl hba
        · exact absurd ((if_neg hb).trans (if_neg hba)) z
theorem bm_of {p:Program}{loose:List Str}{mean:ExcName→Option Value}{mg mb:Str→Option Value}{h:Heap}(T:Top p loose mean mg mb h):BM mg h:=by
  obtain ⟨bm,ob,b1,b2,b3,b4,b5,b6⟩:=T.bmain
  refine ⟨bm,ob,b1,⟨b2,fun q=>?_⟩,b3,b4,b5,b6⟩
  obtain ⟨o,es,ep,e,hd,_⟩:=T.g
  rw [q,e] at b3
  cases b3
  rw [hd] at b6
  cases b6
theorem walk_ofT {l:PySem.W.OpenLaw}{n k:Nat}{q:Program}{loose:List Str}{XP:(Str→Option Value)→Heap→Prop}{YP:World→Heap→Prop}{d:DefRec}{K:Params→PySem.W.Frag}{x:Str}
    (hn:l.most=some n) (hn2:n≤sizeLine) (hdf:d.params.defaults=[]) (hr:Room k callerA) (hY:∀ (w:World) (h:Heap),YP w h→(K w.params).In h) (hKT:∀ w:World,PySem.W.noTabs (K w.params)=true)
    (F:∀ (w:World) (mean:ExcName→Option Value) (mg mb:Str→Option Value) (fa:Addr) (h:Heap),(K w.params).In h→Top q (PySem.W.looseW q loose) mean mg mb h→mg d.name=some (.ref fa)→
      ∃ (fd:FuncData) (tabs:List (Addr×Addr)) (sp:Sp),(∀ (s:Shared) (u:Value),BindsTo s fd ⟨[u],[]⟩ [(x,u)])∧PySem.W.TabsAt tabs h∧
        (∀ (H:Hp) (a:Addr) (ns:List Int),ns.length≤n→(∀ q∈tabs,H q.2=some (.tbl #[]))→SqL (K w.params) H a (ns.map V.int)→sp [.ref a] H (fun v _=>v=.bl true) E0)∧
        ∀ base:Heap,(K w.params).In base→base.Ns mainGlobals mg→(∀ q∈tabs,PySem.W.CodeHd base q.1 q.2)→BM mg base→FnOk l.prog w (K w.params) mg base CX0 k fa fd [x] sp):
    PySem.W.WalkO q loose XP YP l.row.toRowW d [] (fun f vs=>PySem.call f vs):=by
  refine Att.attach_call hn hdf fun w s₀ s₁ mg mb fa o pm cd doc a vs ns G Y ho hd hcd hmg hobj hints hlen hg=>?_
  have KX:=hY w _ Y
  obtain ⟨fd,tabs,sp,hb,hT,hS,hF⟩:=F w _ mg mb fa _ KX G.T hmg
  exact law_callT KX G.T.g G.T.b G.T.builtins G.T.nolimit hg hobj hints (Nat.le_trans hlen hn2) hr (bm_of G.T) hF hb hT (hKT w) (fun H hO hS'=>hS H a ns hlen hO hS') fun H e s' h=>h.elim
end L2
namespace L2
open PySem PySem.Spec PyProof.Rows
def Itzl (K:PySem.W.Frag)(t l:Addr):It:=
  ⟨fun i H=>∃ xs ys x y,SqL K H t xs∧SqL K H l ys∧xs[i]?=some x∧ys[i]?=some y,
   fun i H v H'=>∃ x y b,(∀ xs,SqL K H t xs→xs[i]?=some x)∧(∀ ys,SqL K H l ys→ys[i]?=some y)∧H b=none∧v=.ref b∧H'=upd H b (.tup [x,y]),
   fun i H=>∃ xs ys,SqL K H t xs∧SqL K H l ys∧(xs.length≤i∨ys.length≤i)⟩
section
variable {X:Cx}
def iZipl (K:PySem.W.Frag)(ta:TA):TI:=fun σ H R=>ta σ H fun vs H1=>∃ t l,vs=[V.ref t,V.ref l]∧(∃ xs,SqL K H1 t xs)∧(∃ ys,SqL K H1 l ys)∧R (Itzl K t l) H1
end
end L2
namespace L2
open PySem PySem.Spec PyProof.Rows
section
variable {X:Cx}
theorem tup_mul1 (l:Addr)(u:Value)(n:Nat)(t:Tok)(dd:Option Addr)(sl:Array (Option Value)):
    Meets (Builtin.«tuple.__mul__» ⟨[.ref l,.int 1 t],[]⟩) (fun _ R s=>s.heap.get? l=some ⟨.type "tuple",dd,.seq #[u] n,sl⟩∧R (.ok (.ret (.ref l))) s):=
  .of_wp fun prog w A R s h=>by
    obtain ⟨hp,g,d,tk,os⟩:=s
    obtain ⟨hl,h⟩:=h
    wp_walk
    exact ⟨_,rfl,h⟩
theorem fold_one {α:Type}(u:α):∀ (k:Nat) (acc:Array α),(List.replicate k #[u]).foldl (·++·) acc=acc++(List.replicate k u).toArray
  | 0,acc=>by simp
  | k+1,acc=>by
    rw [List.replicate_succ,List.foldl_cons,fold_one u k]
    apply Array.ext'
    simp [List.replicate_succ]
theorem tup_muln (k:Nat)(hk:2≤k)(hk2:k≤1000)(l:Addr)(u:Value)(n:Nat)(t:Tok)(dd:Option Addr)(sl:Array (Option Value)):
    Meets (Builtin.«tuple.__mul__» ⟨[.ref l,.int (k:Int) t],[]⟩) (fun _ R s=>s.heap.get? l=some ⟨.type "tuple",dd,.seq #[u] n,sl⟩∧R (.ok (.ret (.ref s.heap.objs.size))) { s with heap:=s.heap.push { cls:=.type "tuple",data:=.seq (List.replicate k u).toArray } }):=
  .of_wp fun prog w A R s h=>by
    obtain ⟨hp,g,d,tk,os⟩:=s
    obtain ⟨hl,h⟩:=h
    have h1:¬ (decide ((k:Int) < -(2 ^ 63))||decide ((k:Int)≥2 ^ 63))=true:=by simp;omega
    have h2:¬ ((#[u]:Array Value).isEmpty||(k:Int)==1)=true:=by simp;omega
    have h3:¬ (decide ((k:Int)≤0)||(#[u]:Array Value).isEmpty)=true:=by simp;omega
    have h4:¬ (((#[u]:Array Value).size:Int)*(k:Int)>(2 ^ 63-1) / 8):=by simp;omega
    have h5:¬ Builtin.Tuple.tupleTooMany (((#[u]:Array Value).size:Int)*(k:Int))=true:=by
      unfold Builtin.Tuple.tupleTooMany
      rw [decide_eq_true_eq]
      have:(1000:Nat)≤sizeLine:=by decide
      simp
      omega
    wp_walk
    rw [if_neg h1]
    wp_walk
    rw [if_neg h2]
    wp_walk
    rw [if_neg h3]
    wp_walk
    rw [if_neg h4]
    wp_walk
    rw [if_neg h5]
    have ef:List.foldl (fun (x1 x2:Array Value)=>x1++x2) #[] (List.replicate ((k:Int)).toNat #[u])=(List.replicate k u).toArray:=by
      rw [Int.toNat_natCast,fold_one];simp
    have hs:¬ ((List.replicate k u).toArray.size>sizeLine):=by
      have:(1000:Nat)≤sizeLine:=by decide
      simp
      omega
    rw [ef]
    wp_walk
    rw [if_neg hs]
    wp_walk
    exact ⟨_,rfl,h⟩
def rRepT:R2:=fun x y H Q=>∃ t v n,x=.ref t∧y=.int ((n:Nat):Int)∧H t=some (.tup [v])∧1≤n∧n≤1000∧∀ p H',H' p=some (.tup (List.replicate n v))→Same H H'→Q (.ref p) H'
theorem op_repT:OpR X (binaryOp .Mult) rRepT:=by
  intro pins s σ H x y v u Q I rx ry h
  obtain ⟨t,v0,k,rfl,rfl,ht,h1,h2,q⟩:=h
  cases rx
  obtain ⟨t',rfl⟩:=ry
  obtain ⟨z,its,r,o,e,c,n,d⟩:=I.hok t _ ht
  obtain ⟨oc,od,oda,osl⟩:=o
  dsimp only at c d
  subst c d
  cases r with | cons r0 rr=>cases rr with | nil=>
  rename_i u0
  by_cases hk:k=1
  · subst hk
    refine wpAny_binaryOp_repeat_ref (T:="tuple") (U:="int") (by decide) ⟨_,e,rfl⟩ (fun s'=>typeIs_int s' 1 t') nofill_tup F.fills_int_mul F.slot_int_rmul repeat_tup F.slot_int_index.lookup
      (call_meets F.slot_int_rmul (typeIs_int s 1 t') F.entry_int_rmul (F.args_int_rmul_2 _ _) (rmul_tup 1 t' t _ n od osl)
        ⟨e,rfl,⟨_,e,rfl⟩,call_meets F.slot_tuple_mul ⟨_,e,rfl⟩ F.entry_tuple_mul (F.args_tuple_mul_2 _ _) (tup_mul1 t u0 n t' od osl) ⟨e,?_⟩⟩)
    exact ⟨.ref t,H,I,rfl,q t H ht (Same.refl _)⟩
  · refine wpAny_binaryOp_repeat_ref (T:="tuple") (U:="int") (by decide) ⟨_,e,rfl⟩ (fun s'=>typeIs_int s' k t') nofill_tup F.fills_int_mul F.slot_int_rmul repeat_tup F.slot_int_index.lookup
      (call_meets F.slot_int_rmul (typeIs_int s k t') F.entry_int_rmul (F.args_int_rmul_2 _ _) (rmul_tup k t' t _ n od osl)
        ⟨e,rfl,⟨_,e,rfl⟩,call_meets F.slot_tuple_mul ⟨_,e,rfl⟩ F.entry_tuple_mul (F.args_tuple_mul_2 _ _) (tup_muln k (by omega) h2 t u0 n t' od osl) ⟨e,?_⟩⟩)
    have rp:∀ j:Nat,Vals (List.replicate j v0) (List.replicate j u0):=fun j=>by
      induction j with
      | zero=>exact .nil
      | succ j ih=>exact .cons r0 ih
    exact ⟨.ref s.heap.objs.size,_,I.laid (t':=s.toks) (o:=.tup (List.replicate k v0)) (fun b ob q=>Heap.get?_push_of_some _ q) (Nat.le_refl _) ⟨by rw [List.length_replicate];exact Nat.le_trans h2 (by decide),_,rp k,IsTup.new _ _⟩,rfl,q _ _ upd_same (fun b o e=>by rw [upd_ne (ne_of_none e (I.hok.fresh (Nat.le_refl _)))];exact e)⟩
def rExtT:V→List V→Hp→VK→Prop:=fun x vs H Q=>∃ l b xs zs,x=.ref l∧vs=[.ref b]∧H l=some (.lst xs)∧H b=some (.tup zs)∧xs.length+zs.length≤sizeLine∧Q .non (upd H l (.lst (xs++zs)))
end
end L2
namespace L2
open PySem PySem.Spec PyProof.Rows
structure CompScopeK (X:Cx)(scope:Scope)(cl:List (Str×Addr))(x:Str)(fv:List Str)(js:List Nat):Prop where
  kind:scope.kind=.function
  nc:∀ y∈scope.names,y.2=.cell→y.1=x
  nm:∀ y∈scope.names,y.2=.local→scope.names.lookup y.1=some .local
  hx:scope.names.lookup x=some .cell
  fr:∀ y∈scope.names,y.2=.free→y.1∈fv
  nd:(x::fv).Nodup
  vis:∀ y∈fv,scope.names.lookup y=some .free∧X.env.scope.names.lookup y=some .cell∧(cl.lookup y).isSome=true
  cls:∀ p∈cl,X.env.cells.lookup p.1=some p.2
  sl:Paired (fun y j=>X.N[j]?=some y) fv js
  cf:∀ n l,cellsFrom n scope.names l=(x,n)::l
  pc:∀ h:Heap,pushCells h scope.names=h.push { cls:=.type "cell",data:=.cell none }
section
variable {M:Model}{A:Around}{E:Value→Shared→Prop}{s:Shared}
end
section
variable {X:Cx}{scope:Scope}{cl:List (Str×Addr)}{x:Str}{fv:List Str}{js:List Nat}
theorem CompScopeK.cell_of (S:CompScopeK X scope cl x fv js){y:Str}{c:Addr}(h:cl.lookup y=some c):X.env.cells.lookup y=some c:=S.cls (y,c) (PySem.mem_of_lookup h)
theorem CompScopeK.ne (S:CompScopeK X scope cl x fv js){y:Str}(h:y∈fv):y≠x:=fun e=>(List.nodup_cons.mp S.nd).1 (e▸h)
theorem CompScopeK.own (S:CompScopeK X scope cl x fv js){C:Addr}{cl':List (Str×Addr)}{y:Str}{k:NameKind}(h:(compEnvC scope cl' C X.env).kindOf y=some k)(hk:k=.cell∨k=.free):y=x∨y∈fv:=by
  have h':(scope.names.map fun (n,k)=>if (k==NameKind.free&&X.env.scope.kind==.function&&X.env.kindOf n==some .cell) then (n,NameKind.cell) else (n,k)).lookup y=some k:=h
  rcases lookup_relabel_back h' with q | ⟨q,_⟩
  · rcases hk with rfl | rfl
    · exact .inl (S.nc _ (PySem.mem_of_lookup q) rfl)
    · exact .inr (S.fr _ (PySem.mem_of_lookup q) rfl)
  · exact .inr (S.fr _ (PySem.mem_of_lookup q) rfl)
end
end L2
namespace L2
open PySem PySem.Spec PyProof.Rows
section
variable {X:Cx}{tg:Expr}{pins:List (Addr×Obj)}{σ:St}{H:Hp}{s:Shared}
def Itk (a:Addr)(o:Obj):It:=
  ⟨fun i H=>∃ kvs,H a=some (.frz o (.dK kvs))∧i<kvs.length,
   fun i H x H'=>H'=H∧∀ kvs,H a=some (.frz o (.dK kvs))→∃ k v,kvs[i]?=some (k,v)∧x=kV k,
   fun i H=>∃ kvs,H a=some (.frz o (.dK kvs))∧kvs.length≤i⟩
def iDK (tl:TE):TI:=fun σ H R=>tl σ H fun x H1=>∃ a kvs,x=.ref a∧H1 a=some (.dK kvs)∧∀ o,R (Itk a o) (upd H1 a (.frz o (.dK kvs)))
end
def itO (H:Hp):V→Itm
  | .ref q=>match H q with
    | some (.tup xs)=>.tp xs
    | _=>.fl (.ref q)
  | v=>.fl v
theorem itO_of {H:Hp}{v:V}{i:Itm}(h:ItAt H v i):itO H v=i:=by
  cases i with
  | fl y=>
    obtain ⟨rfl,f⟩:=h
    cases v <;> first | rfl | exact absurd (show false=true from f) Bool.false_ne_true
  | tp xs=>
    obtain ⟨q,rfl,hq,_⟩:=h
    show (match H q with | some (.tup xs)=>Itm.tp xs | _=>.fl (.ref q))=_
    rw [hq]
theorem its_of {H:Hp}:∀ {xs:List V} {is:List Itm},Paired (ItAt H) xs is→xs.map (itO H)=is
  | _,_,.nil=>rfl
  | _,_,.cons h t=>by rw [List.map_cons,itO_of h,its_of t]
theorem eqV_refl {a:V}(f:flatV a=true):eqV a a=true:=by
  cases a <;> first | rfl | exact absurd (show false=true from f) Bool.false_ne_true | simp [eqV]
theorem eqVs_refl:∀ {l:List V},l.all flatV=true→eqVs l l=true
  | [],_=>rfl
  | a::r,f=>by
    rw [List.all_cons,Bool.and_eq_true] at f
    show (eqV a a&&eqVs r r)=true
    rw [eqV_refl f.1,eqVs_refl f.2];rfl
theorem eqI_refl {H:Hp}:∀ {xs:List V} {is:List Itm},Paired (ItAt H) xs is→eqL eqItm is is=true
  | _,_,.nil=>rfl
  | _,_,@Paired.cons _ _ _ v i vs is h t=>by
    show (eqItm i i&&eqL eqItm is is)=true
    rw [eqI_refl t]
    cases i with
    | fl y=>rw [show eqItm (.fl y) (.fl y)=eqV y y from rfl,eqV_refl h.2];rfl
    | tp ys=>obtain ⟨_,_,_,f⟩:=h;rw [show eqItm (.tp ys) (.tp ys)=eqVs ys ys from rfl,eqVs_refl f];rfl
def eqTV (H:Hp)(is:List Itm):V→Bool
  | .ref q=>match H q with
    | some (.tup ys)=>eqL eqItm (ys.map (itO H)) is
    | _=>false
  | _=>false
def eqTU (H:Hp)(is:List Itm):Value→Bool
  | .ref q=>match H q with
    | some (.tup ys)=>eqL eqItm (ys.map (itO H)) is
    | _=>false
  | _=>false
theorem eqTV_of {H:Hp}{is js:List Itm}{q:Addr}{ys:List V}(h:H q=some (.tup ys))(p:Paired (ItAt H) ys js):eqTV H is (.ref q)=eqL eqItm js is:=by
  show (match H q with | some (.tup ys)=>eqL eqItm (ys.map (itO H)) is | _=>false)=_
  rw [h,← its_of p]
section
variable {X:Cx}{pins:List (Addr×Obj)}{σ:St}{H:Hp}{s:Shared}
theorem eqAt_itemA (A':Around)(I:Inv X pins σ H s)(hu1:A'.units<cLine){x y:V}{u v:Value}{i j:Itm}(rx:RelV x u)(ry:RelV y v)(hx:ItAt H x i)(hy:ItAt H y j):SeqAt.EqAt A' s u v (eqItm i j):=by
  cases i with
  | fl a=>
    obtain ⟨rfl,fa⟩:=hx
    cases j with
    | fl b=>
      obtain ⟨rfl,fb⟩:=hy
      exact eqAt_V rx ry fa fb
    | tp ys=>
      obtain ⟨q,rfl,hq,_⟩:=hy
      cases ry
      obtain ⟨its,_,p,_⟩:=I.tuple (SqT.of hq)
      cases x with
      | non=>cases rx;exact SeqAt.EqAt.none_tuple p hu1
      | bl b=>cases rx;exact SeqAt.EqAt.bool_tuple b p hu1
      | int b=>obtain ⟨t,rfl⟩:=rx;exact SeqAt.EqAt.int_tuple b t p hu1
      | str b=>obtain ⟨t,rfl⟩:=rx;exact SeqAt.EqAt.str_tuple b t p hu1
      | _=>exact absurd (show false=true from fa) Bool.false_ne_true
  | tp xs=>
    obtain ⟨q,rfl,hq,fx⟩:=hx
    cases rx
    obtain ⟨its,r1,p,_⟩:=I.tuple (SqT.of hq)
    cases j with
    | fl b=>
      obtain ⟨rfl,fb⟩:=hy
      cases y with
      | non=>cases ry;exact SeqAt.EqAt.tuple_none p hu1
      | bl b=>cases ry;exact SeqAt.EqAt.tuple_bool b p hu1
      | int b=>obtain ⟨t,rfl⟩:=ry;exact SeqAt.EqAt.tuple_int b t p hu1
      | str b=>obtain ⟨t,rfl⟩:=ry;exact SeqAt.EqAt.tuple_str b t p hu1
      | _=>exact absurd (show false=true from fb) Bool.false_ne_true
    | tp ys=>
      obtain ⟨q2,rfl,hq2,fy⟩:=hy
      cases ry
      obtain ⟨its2,r2,p2,_⟩:=I.tuple (SqT.of hq2)
      by_cases e:q=q2
      · subst e
        rw [hq] at hq2
        cases hq2
        have hs:eqVs xs xs=true:=by
          have:∀ l:List V,l.all flatV=true→eqVs l l=true:=by
            intro l
            induction l with
            | nil=>intro _;rfl
            | cons a r ih=>
              intro f
              rw [List.all_cons,Bool.and_eq_true] at f
              have ea:eqV a a=true:=by
                cases a <;> first | rfl | exact absurd (show false=true from f.1) Bool.false_ne_true | simp [eqV]
              show (eqV a a&&eqVs r r)=true
              rw [ea,ih f.2];rfl
          exact this xs fx
        show SeqAt.EqAt _ _ _ _ (eqVs xs xs)
        rw [hs]
        exact SeqAt.EqAt.same _
      · have rc:=SeqAt.RcAt.tuples (A:=A') (s:=s) (e:=eqAtI xs ys) (show s.heap.IsTuple q its.toArray from p) (show s.heap.IsTuple q2 its2.toArray from p2) hu1 (tup_eqAt (pins:=pins) (σ:=σ) (H:=H) r1 r2 fx fy)
        rw [List.size_toArray,List.size_toArray,← r1.length,← r2.length,eqVs_range] at rc
        exact SeqAt.EqAt.of_refs e rc
theorem items_eqA (A':Around)(I:Inv X pins σ H s)(hu:A'.units<cLine){xs ys:List V}{is js:List Itm}{us vs:List Value}(r1:Vals xs us)(r2:Vals ys vs)(hx:Paired (ItAt H) xs is)(hy:Paired (ItAt H) ys js):
    ∀ j (h1:j<us.toArray.size) (h2:j<vs.toArray.size),SeqAt.EqAt A' s us.toArray[j] vs.toArray[j] (eqLat eqItm is js j):=by
  intro j h1 h2
  have l1:=r1.length
  have l2:=r2.length
  rw [List.size_toArray] at h1 h2
  have ex:xs[j]?=some (xs[j]'(by omega)):=List.getElem?_eq_getElem _
  have ey:ys[j]?=some (ys[j]'(by omega)):=List.getElem?_eq_getElem _
  obtain ⟨u,hu',ru⟩:=r1.get ex
  obtain ⟨v,hv',rv⟩:=r2.get ey
  obtain ⟨i,hi,ai⟩:=paired_at hx ex
  obtain ⟨k,hk,ak⟩:=paired_at hy ey
  have eu:us.toArray[j]'(by simpa using h1)=u:=by
    rw [List.getElem?_eq_getElem h1] at hu'
    simpa using Option.some.inj hu'
  have ev:vs.toArray[j]'(by simpa using h2)=v:=by
    rw [List.getElem?_eq_getElem h2] at hv'
    simpa using Option.some.inj hv'
  rw [eu,ev]
  have e:eqLat eqItm is js j=eqItm i k:=by unfold eqLat;rw [hi,hk]
  rw [e]
  exact eqAt_itemA A' I hu ru rv ai ak
theorem tup_eq1 (A':Around)(I:Inv X pins σ H s)(hu:A'.units+1<cLine){a b:Addr}{xs ys:List V}{is js:List Itm}(ha:H a=some (.tup xs))(hb:H b=some (.tup ys))(hx:Paired (ItAt H) xs is)(hy:Paired (ItAt H) ys js):SeqAt.EqAt A' s (.ref a) (.ref b) (eqL eqItm is js):=by
  obtain ⟨its,r1,p1,_⟩:=I.tuple (SqT.of ha)
  obtain ⟨its2,r2,p2,_⟩:=I.tuple (SqT.of hb)
  by_cases e:a=b
  · subst e
    rw [ha] at hb
    cases hb
    rw [← its_of hx,← its_of hy,its_of hx,eqI_refl hx]
    exact SeqAt.EqAt.same _
  · have rc:=SeqAt.RcAt.tuples (A:=A') (s:=s) (e:=eqLat eqItm is js) (show s.heap.IsTuple a its.toArray from p1) (show s.heap.IsTuple b its2.toArray from p2) (Nat.lt_of_succ_lt hu) (items_eqA A'.in1 I hu r1 r2 hx hy)
    rw [List.size_toArray,List.size_toArray,← r1.length,← r2.length,Paired.length hx,Paired.length hy,eqL_range] at rc
    exact SeqAt.EqAt.of_refs e rc
def TpsAt (H:Hp)(us:List V):Prop:=∀ u∈us,∃ q ys js,u=.ref q∧H q=some (.tup ys)∧Paired (ItAt H) ys js
def rInT (neg:Bool):R2:=fun x y H Q=>∃ a p us xs is,x=.ref a∧y=.ref p∧H p=some (.lst us)∧H a=some (.tup xs)∧Paired (ItAt H) xs is∧TpsAt H us∧Q (.bl (if neg then !us.any (eqTV H is) else us.any (eqTV H is))) H
theorem any_eqT {is:List Itm}:∀ {us:List V} {ws:List Value},Vals us ws→TpsAt H us→ws.any (eqTU H is)=us.any (eqTV H is)
  | _,_,.nil,_=>rfl
  | _,_,.cons r t,h=>by
    obtain ⟨q,ys,js,rfl,_,_⟩:=h _ List.mem_cons_self
    cases r
    rw [List.any_cons,List.any_cons,any_eqT t fun u hu=>h u (List.mem_cons_of_mem _ hu)]
    rfl
theorem mem_eqT (I:Inv X pins σ H s)(hu:X.A.units+2<cLine){a:Addr}{xs:List V}{is:List Itm}(ha:H a=some (.tup xs))(hx:Paired (ItAt H) xs is){us:List V}{ws:List Value}(r:Vals us ws)(h:TpsAt H us):∀ w∈ws,SeqAt.EqAt X.A.in1 s w (.ref a) (eqTU H is w):=fun w hw=>by
  obtain ⟨u,hu',ru⟩:=vals_mem r w hw
  obtain ⟨q,ys,js,rfl,hq,py⟩:=h u hu'
  cases ru
  rw [show eqTU H is (.ref q)=eqTV H is (.ref q) from rfl,eqTV_of hq py]
  exact tup_eq1 X.A.in1 I hu hq ha py hx
end
theorem op_inT {X:Cx}(hu:X.A.units+2<cLine):OpR X (compareOp .In) (rInT false):=by
  intro pins s σ H x y v u Q I rx ry h
  obtain ⟨a,p,us,xs,is,rfl,rfl,hp,ha,hx,ht,q⟩:=h
  cases rx
  cases ry
  obtain ⟨its,r,pl,hz⟩:=I.list (SqL.of hp)
  refine SeqAt.in_listAt (eqTU H is) pl.isList (fun w hw=>mem_eqT I hu ha hx r ht w (by simpa using hw)) ⟨.bl _,H,I,rfl,?_⟩
  rw [show its.toArray.any (eqTU H is)=its.any (eqTU H is) by simp,any_eqT r ht]
  exact q
theorem op_ninT {X:Cx}(hu:X.A.units+2<cLine):OpR X (compareOp .NotIn) (rInT true):=by
  intro pins s σ H x y v u Q I rx ry h
  obtain ⟨a,p,us,xs,is,rfl,rfl,hp,ha,hx,ht,q⟩:=h
  cases rx
  cases ry
  obtain ⟨its,r,pl,hz⟩:=I.list (SqL.of hp)
  refine SeqAt.notIn_listAt (eqTU H is) pl.isList (fun w hw=>mem_eqT I hu ha hx r ht w (by simpa using hw)) ⟨.bl _,H,I,rfl,?_⟩
  rw [show its.toArray.any (eqTU H is)=its.any (eqTU H is) by simp,any_eqT r ht]
  exact q
end L2
namespace Mx
def dv (t b:Int):Int:=if b<0 then -(Nat.gcd t.natAbs b.natAbs:Int) else (Nat.gcd t.natAbs b.natAbs:Int)
def lowT (t b:Int):Int:=t.fdiv (dv t b)
def lowB (t b:Int):Int:=b.fdiv (dv t b)
theorem gcd_pos {t b:Int}(h:b≠0):0<Nat.gcd t.natAbs b.natAbs:=Nat.gcd_pos_of_pos_right _ (by omega)
theorem dv_ne {t b:Int}(h:b≠0):dv t b≠0:=by
  have:=gcd_pos (t:=t) h
  unfold dv;split <;> omega
theorem dv_dvd_t (t b:Int):dv t b ∣ t:=by
  have h:((Nat.gcd t.natAbs b.natAbs:Nat):Int) ∣ t:=Int.natAbs_dvd_natAbs.mp (by simpa using Nat.gcd_dvd_left t.natAbs b.natAbs)
  unfold dv;split
  · exact Int.neg_dvd.mpr h
  · exact h
theorem dv_dvd_b (t b:Int):dv t b ∣ b:=by
  have h:((Nat.gcd t.natAbs b.natAbs:Nat):Int) ∣ b:=Int.natAbs_dvd_natAbs.mp (by simpa using Nat.gcd_dvd_right t.natAbs b.natAbs)
  unfold dv;split
  · exact Int.neg_dvd.mpr h
  · exact h
theorem fdiv_mul {t d:Int}(h:d ∣ t):t.fdiv d*d=t:=by
  obtain ⟨c,rfl⟩:=h
  by_cases hd:d=0
  · subst hd;simp
  · rw [Int.mul_comm d c,Int.mul_fdiv_cancel _ hd]
theorem low_t (t b:Int):lowT t b*dv t b=t:=fdiv_mul (dv_dvd_t t b)
theorem low_b (t b:Int):lowB t b*dv t b=b:=fdiv_mul (dv_dvd_b t b)
theorem natAbs_dv (t b:Int):(dv t b).natAbs=Nat.gcd t.natAbs b.natAbs:=by
  unfold dv;split <;> omega
theorem lowB_pos {t b:Int}(h:b≠0):0<lowB t b:=by
  have e:=low_b t b
  have g:=gcd_pos (t:=t) h
  have hd:dv t b=if b<0 then -(Nat.gcd t.natAbs b.natAbs:Int) else (Nat.gcd t.natAbs b.natAbs:Int):=rfl
  rcases Int.lt_trichotomy (lowB t b) 0 with q | q | q
  · exfalso
    split at hd
    · have:0<lowB t b*dv t b:=Int.mul_pos_of_neg_of_neg q (by omega)
      omega
    · have:lowB t b*dv t b<0:=Int.mul_neg_of_neg_of_pos q (by omega)
      omega
  · rw [q] at e;omega
  · exact q
theorem low_cop {t b:Int}(h:b≠0):Nat.gcd (lowT t b).natAbs (lowB t b).natAbs=1:=by
  have g:=gcd_pos (t:=t) h
  have e1:t.natAbs=(lowT t b).natAbs*Nat.gcd t.natAbs b.natAbs:=by rw [← natAbs_dv,← Int.natAbs_mul,low_t]
  have e2:b.natAbs=(lowB t b).natAbs*Nat.gcd t.natAbs b.natAbs:=by rw [← natAbs_dv,← Int.natAbs_mul,low_b]
  have e3:Nat.gcd t.natAbs b.natAbs=Nat.gcd (lowT t b).natAbs (lowB t b).natAbs*Nat.gcd t.natAbs b.natAbs:=by
    have q:=Nat.gcd_mul_right (lowT t b).natAbs (Nat.gcd t.natAbs b.natAbs) (lowB t b).natAbs
    rw [← e1,← e2] at q
    exact q
  have:1*Nat.gcd t.natAbs b.natAbs=Nat.gcd (lowT t b).natAbs (lowB t b).natAbs*Nat.gcd t.natAbs b.natAbs:=by omega
  exact (Nat.eq_of_mul_eq_mul_right g this).symm
structure Low (x y:Int):Prop where
  pos:0<y
  cop:Nat.gcd x.natAbs y.natAbs=1
theorem low_low {t b:Int}(h:b≠0):Low (lowT t b) (lowB t b):=⟨lowB_pos h,low_cop h⟩
theorem Low.dv {x y:Int}(h:Low x y):Mx.dv x y=1:=by
  have h1:=h.pos;have h2:=h.cop
  unfold Mx.dv;rw [if_neg (by omega),h2];rfl
theorem Low.t {x y:Int}(h:Low x y):lowT x y=x:=by have e:=low_t x y;rw [h.dv] at e;omega
theorem Low.b {x y:Int}(h:Low x y):lowB x y=y:=by have e:=low_b x y;rw [h.dv] at e;omega
theorem low_size_t (t b:Int)(h:b≠0):(lowT t b).natAbs≤t.natAbs:=by
  have e:t.natAbs=(lowT t b).natAbs*(dv t b).natAbs:=by rw [← Int.natAbs_mul,low_t]
  have:0<(dv t b).natAbs:=by have:=dv_ne (t:=t) h;omega
  rw [e];exact Nat.le_mul_of_pos_right _ this
theorem low_size_b (t b:Int)(h:b≠0):(lowB t b).natAbs≤b.natAbs:=by
  have e:b.natAbs=(lowB t b).natAbs*(dv t b).natAbs:=by rw [← Int.natAbs_mul,low_b]
  have:0<(dv t b).natAbs:=by have:=dv_ne (t:=t) h;omega
  conv=>rhs;rw [e]
  exact Nat.le_mul_of_pos_right _ this
theorem gcd_turn {m n:Nat}:Nat.gcd n (m%n)=Nat.gcd m n:=by
  rw [Nat.gcd_comm m n,Nat.gcd_rec n m,Nat.gcd_comm]
end Mx
namespace Mx
section
variable {a b c d e f:Int}
theorem pos2 {x y:Int}(h:0<x)(g:0<y):0<x*y:=Int.mul_pos h g
end
end Mx
namespace Fs
open PySem L2 Mx
structure Df (K:PySem.W.Frag)(mg:Str→Option Value)(x:Str)(st:Stmt)(ps:List Str)(f:Addr)(fd:FuncData):Prop where
  fn:Fun K x x st f fd
  gl:mg x=some (.ref f)
  b:Binds K fd ps []
theorem pe_cl {X:Cx}{k:Nat}{f:Addr}{fd:FuncData}{ps:List Str}{sp:Sp}{x:Str}{st:Stmt}{e:Expr}{es:List Expr}{t:TA}{p pos:Pos}(D:Df X.K X.mg x st ps f fd)(F:FnOk X.prog X.w X.K X.mg X.base CX0 k f fd ps sp)(hr:Room k X.A)
    (ha:PA X (e::es) t) (hg:Gl X x:=by rfl) (hdb:(x==("__debug__":Str))=false:=by decide) (he:starEach (e::es) X.env=(false,eval e X.env)::starEach es X.env:=by rfl) (hpl:(backTo pos (starEach es X.env)).any (·.1)=false:=by rfl):
    PE X (.Call (.Name x p) (e::es) [] pos) (tCall sp [] E0 t):=pe_call F hr hg D.gl D.fn.kp D.b .nil pass0 ha hdb he hpl
theorem boot_abs:bootBuiltins "abs"=some (.builtin "abs"):=by decide +kernel
def KeepX (p:Addr)(H H':Hp):Prop:=∀ b o,b≠p→H b=some o→H' b=some o
theorem KeepX.refl (p:Addr)(H:Hp):KeepX p H H:=fun _ _ _ e=>e
theorem KeepX.trans {p:Addr}{H H1 H2:Hp}(a:KeepX p H H1)(b:KeepX p H1 H2):KeepX p H H2:=fun c o hc e=>b c o hc (a c o hc e)
theorem KeepX.upd {p:Addr}{H:Hp}{o:HO}:KeepX p H (upd H p o):=fun b u hb e=>by rw [upd_ne hb];exact e
theorem Same.keep {p:Addr}{H H':Hp}(h:Same H H'):KeepX p H H':=fun b o _ e=>h b o e
theorem Same.new {H:Hp}{p:Addr}{o:HO}(h:H p=none):Same H (upd H p o):=fun b u e=>by rw [upd_ne (ne_of_none e h)];exact e
def PenAt (H:Hp)(p:Addr)(k:Nat):Prop:=∃ a b c:Int,H p=some (.lst [.int a,.int b,.int c])∧0≤c∧c≤k
theorem PenAt.same {H H':Hp}{p:Addr}{k:Nat}(h:PenAt H p k)(s:Same H H'):PenAt H' p k:=let ⟨a,b,c,e,r⟩:=h;⟨a,b,c,s _ _ e,r⟩
theorem PenAt.mono {H:Hp}{p:Addr}{k m:Nat}(h:PenAt H p k)(s:k≤m):PenAt H p m:=let ⟨a,b,c,e,r,q⟩:=h;⟨a,b,c,e,r,by omega⟩
def lastN:St→Nat
  | [_,_,_,some (V.int n)]=>n.toNat
  | [_,_,_,some (V.int n),_]=>n.toNat
  | _=>0
theorem abs_if (i:Int):(if i<0 then -i else i)=(i.natAbs:Int):=by split <;> omega
theorem sz64 {x:Int}(h1:-18446744073709551616<x)(h2:x<18446744073709551616):Sz 64 x:=by unfold Sz;omega
theorem sz4000 {x:Int}(h1:-18446744073709551616<x)(h2:x<18446744073709551616):Sz 4000 x:=(sz64 h1 h2).mono (by decide)
theorem sz_dv {t b:Int}{n:Nat}(hb:b≠0)(h:Sz n b):Sz n (dv t b):=by
  unfold Sz at *
  rw [natAbs_dv]
  exact Nat.lt_of_le_of_lt (Nat.gcd_le_right _ (by omega)) h
theorem two_le:2≤sizeLine:=by decide
theorem three_le:3≤sizeLine:=by decide
structure NumAt (H:Hp)(p:Addr)(x y:Int)(n:Nat):Prop where
  ob:H p=some (.tup [.int x,.int y])
  low:Low x y
  sx:Sz n x
  sy:Sz n y
theorem NumAt.same {H H':Hp}{p:Addr}{x y:Int}{n:Nat}(h:NumAt H p x y n)(s:Same H H'):NumAt H' p x y n:=⟨s _ _ h.ob,h.low,h.sx,h.sy⟩
theorem NumAt.mono {H:Hp}{p:Addr}{x y:Int}{n m:Nat}(h:NumAt H p x y n)(s:n≤m):NumAt H p x y m:=⟨h.ob,h.low,h.sx.mono s,h.sy.mono s⟩
theorem NumAt.keep {H H':Hp}{p q:Addr}{x y:Int}{n:Nat}(h:NumAt H p x y n)(s:KeepX q H H')(hq:p≠q):NumAt H' p x y n:=⟨s _ _ hq h.ob,h.low,h.sx,h.sy⟩
def spGd:Sp:=fun vs H Q _=>∃ a b:Int,vs=[.int a,.int b]∧Q (.int (Nat.gcd a.natAbs b.natAbs:Nat)) H
def spLow:Sp:=fun vs H Q _=>∃ t b:Int,vs=[.int t,.int b]∧b≠0∧Sz 4000 b∧∀ p,H p=none→Q (.ref p) (upd H p (.tup [.int (lowT t b),.int (lowB t b)]))
def spTake:Sp:=fun vs H Q _=>∃ (p:Addr) (m:Int) (k:Nat),vs=[.ref p,.int m]∧0<m∧Sz 4000 m∧PenAt H p k∧k≤100000∧∀ (r:Int) (H':Hp),0≤r→r<m→PenAt H' p (k+1)→KeepX p H H'→Q (.int r) H'
def spPen (K:PySem.W.Frag):Sp:=fun vs H Q _=>∃ (a:Addr) (ns:List Int) (k:Int),vs=[.ref a,.int k]∧SqL K H a (ns.map V.int)∧0≤k∧k≤1000∧∀ (p:Addr) (H':Hp),H p=none→PenAt H' p 0→Same H H'→Q (.ref p) H'
def sp2 (f g:Int→Int→Int→Int→Int)(e:Nat→Nat→Nat)(C:Int→Int→Int→Int→Prop):Sp:=fun vs H Q _=>∃ (p q:Addr) (a b c d:Int) (m n:Nat),vs=[.ref p,.ref q]∧NumAt H p a b m∧NumAt H q c d n∧m+n≤3000∧C a b c d∧
  ∀ (r:Addr) (H':Hp),Same H H'→NumAt H' r (lowT (f a b c d) (g a b c d)) (lowB (f a b c d) (g a b c d)) (e m n)→Q (.ref r) H'
abbrev eMN (m n:Nat):Nat:=m+n+1
abbrev spSum:Sp:=sp2 (fun a b c d=>a*d+c*b) (fun _ b _ d=>b*d) eMN (fun _ _ _ _=>True)
abbrev spDif:Sp:=sp2 (fun a b c d=>a*d-c*b) (fun _ b _ d=>b*d) eMN (fun _ _ _ _=>True)
abbrev spPro:Sp:=sp2 (fun a _ c _=>a*c) (fun _ b _ d=>b*d) eMN (fun _ _ _ _=>True)
abbrev spQuo:Sp:=sp2 (fun a _ _ d=>a*d) (fun _ b c _=>b*c) eMN (fun _ _ c _=>c≠0)
def spLess:Sp:=fun vs H Q _=>∃ (p q:Addr) (a b c d:Int) (m n:Nat),vs=[.ref p,.ref q]∧NumAt H p a b m∧NumAt H q c d n∧m+n≤3000∧Q (.bl (decide (a*d<c*b))) H
def spRight (K:PySem.W.Frag)(C:Addr):Sp:=fun vs H Q _=>∃ a:Addr,vs=[.ref a]∧H a=some (excO a (.ref C))∧∀ H',Same H H'→Q (.bl true) H'
def spWhole:Sp:=fun vs H Q _=>∃ i:Int,vs=[.int i]∧Q (.bl true) H
def spIsNum:Sp:=fun vs H Q _=>∃ (p:Addr) (x y:Int) (n:Nat),vs=[.ref p]∧NumAt H p x y n∧n≤4000∧∀ H',Same H H'→Q (.bl true) H'
def spFar:Sp:=fun vs H Q _=>∃ (p:Addr) (k:Nat),vs=[.ref p]∧PenAt H p k∧k≤90000∧∀ (r:Int) (H':Hp),Sz 250 r→PenAt H' p (k+5)→KeepX p H H'→Q (.int r) H'
def spLaw (K:PySem.W.Frag):Sp:=fun vs H Q _=>∃ (a:Addr) (ns:List Int),vs=[.ref a]∧SqL K H a (ns.map V.int)∧ns.length≤63∧∀ H',Q (.bl true) H'
theorem rtv {Q:VK}{v w:V}{H:Hp}(e:v=w)(q:Q w H):Q v H:=by rw [e];exact q
theorem boot_isinstance:bootBuiltins "isinstance"=some (.builtin "isinstance"):=by decide +kernel
theorem boot_int:bootBuiltins "int"=some (.type "int"):=by decide +kernel
theorem boot_bool:bootBuiltins "bool"=some (.type "bool"):=by decide +kernel
theorem boot_str:bootBuiltins "str"=some (.type "str"):=by decide +kernel
theorem boot_list:bootBuiltins "list"=some (.type "list"):=by decide +kernel
theorem boot_tuple:bootBuiltins "tuple"=some (.type "tuple"):=by decide +kernel
theorem pe_typ {X:Cx}{x:Str}{T:String}{pos:Pos}(hm:X.mg x=none)(hv:bootBuiltins x=some (.type T))(hg:Gl X x:=by rfl)(hn:x≠"__name__":=by decide)(hd:(x==("__debug__":Str))=false:=by decide):PE X (.Name x pos) (tC (.ty T)):=pe_bltn hg hm hv rfl hn hd
theorem szlit {n:Nat}{x:Int}(h:decide (x.natAbs<2 ^ n)=true):Sz n x:=(of_decide_eq_true h:x.natAbs<2 ^ n)
theorem kit_tt (K:PySem.W.Frag)(t:Value):PySem.W.kitOne K t t=some true:=by unfold PySem.W.kitOne;simp
def GStr (mg:Str→Option Value)(x z:Str):Prop:=∃ u,mg x=some u∧RelV (.str z) u
def GInt (mg:Str→Option Value)(x:Str)(i:Int):Prop:=∃ u,mg x=some u∧RelV (.int i) u
def rInS:R2:=fun x y H Q=>∃ i j,x=.str i∧y=.str j∧Q (.bl (!(Builtin.Str.occurrences j i 0 j.length 1).isEmpty)) H
theorem sl_lt {n:Nat}(h:n≤1000):n<sizeLine:=small1000 h
structure Nm (z:Str):Prop where
  lo:1≤z.length
  hi:z.length≤6
  az:∀ c∈z.cps.toList,97≤c∧c≤122
def colL (c:Int):Str:=⟨#[64+c.toNat]⟩
def num (r:Int):Str:=Str.ofString (toString r)
def cellTx (z:Str)(r c:Int):Str:=((z++Str.ofString "!")++colL c)++num r
structure Dg (z:Str)(n:Int):Prop where
  lo:1≤z.length
  hi:z.length≤640
  fig:∀ c∈z.cps.toList,c∈(Str.ofString "0123456789").cps.toList
  rd:PySem.intText? z=some n
  c0:∃ c,z.cps.toList[0]?=some c∧(c≠48∨z=Str.ofString "0")
structure PlAt (H:Hp)(p:Addr)(z:Str)(r c:Int):Prop where
  ob:H p=some (.tup [.str z,.int r,.int c])
  nm:Nm z
  r0:1≤r
  r1:r≤16
  c0:1≤c
  c1:c≤8
theorem PlAt.same {H H':Hp}{p:Addr}{z:Str}{r c:Int}(h:PlAt H p z r c)(s:Same H H'):PlAt H' p z r c:=⟨s _ _ h.ob,h.nm,h.r0,h.r1,h.c0,h.c1⟩
structure BkAt (H:Hp)(p:Addr)(z:Str)(r c r2 c2:Int):Prop where
  ob:H p=some (.tup [.str z,.int r,.int c,.int r2,.int c2])
  nm:Nm z
  r0:1≤r
  r1:r≤r2
  r16:r2≤16
  c0:1≤c
  c1:c≤c2
  c8:c2≤8
theorem BkAt.same {H H':Hp}{p:Addr}{z:Str}{r c r2 c2:Int}(h:BkAt H p z r c r2 c2)(s:Same H H'):BkAt H' p z r c r2 c2:=⟨s _ _ h.ob,h.nm,h.r0,h.r1,h.r16,h.c0,h.c1,h.c8⟩
def CsAt (H:Hp)(l:Addr)(z:Str)(r c:Int)(w n:Nat):Prop:=∃ vs:List V,H l=some (.lst vs)∧vs.length=n∧∀ (k:Nat) (v:V),vs[k]?=some v→∃ a:Addr,v=.ref a∧H a=some (.tup [.str z,.int (r+((k / w:Nat):Int)),.int (c+((k%w:Nat):Int))])
theorem CsAt.same {H H':Hp}{l:Addr}{z:Str}{r c:Int}{w n:Nat}(h:CsAt H l z r c w n)(s:Same H H'):CsAt H' l z r c w n:=by
  obtain ⟨vs,a,b,d⟩:=h
  exact ⟨vs,s _ _ a,b,fun k v e=>let ⟨p,q,u⟩:=d k v e;⟨p,q,s _ _ u⟩⟩
def spRdW:Sp:=fun vs H Q _=>∃ (z:Str) (m n:Int),vs=[.str z,.int m]∧Dg z n∧(z.length:Int)≤m∧∀ H',Same H H'→Q (.int n) H'
def spShN:Sp:=fun vs H Q _=>∃ z:Str,vs=[.str z]∧Nm z∧∀ H',Same H H'→Q (.bl true) H'
def spWith:Sp:=fun vs H Q _=>∃ i l:Int,vs=[.int i,.int l]∧1≤i∧i≤l∧Q (.bl true) H
def spIsC:Sp:=fun vs H Q _=>∃ (p:Addr) (z:Str) (r c:Int),vs=[.ref p]∧PlAt H p z r c∧∀ H',Same H H'→Q (.bl true) H'
def spIsB:Sp:=fun vs H Q _=>∃ (p:Addr) (z:Str) (r c r2 c2:Int),vs=[.ref p]∧BkAt H p z r c r2 c2∧∀ H',Same H H'→Q (.bl true) H'
def spCT:Sp:=fun vs H Q _=>∃ (p:Addr) (z:Str) (r c:Int),vs=[.ref p]∧PlAt H p z r c∧Q (.str (cellTx z r c)) H
def spRC:Sp:=fun vs H Q _=>∃ (z:Str) (r c:Int),vs=[.str (cellTx z r c)]∧Nm z∧1≤r∧r≤16∧1≤c∧c≤8∧∀ (p:Addr) (H':Hp),Same H H'→PlAt H' p z r c→Q (.ref p) H'
def spCs:Sp:=fun vs H Q _=>∃ (p:Addr) (z:Str) (r c r2 c2:Int),vs=[.ref p]∧BkAt H p z r c r2 c2∧∀ (l:Addr) (H':Hp),H l=none→Same H H'→CsAt H' l z r c (c2-c+1).toNat ((r2-r+1).toNat*(c2-c+1).toNat)→Q (.ref l) H'
def spSheet:Sp:=fun vs H Q _=>∃ (p:Addr) (k:Nat),vs=[.ref p]∧PenAt H p k∧k≤90000∧∀ (z:Str) (H':Hp),Nm z→PenAt H' p (k+8)→KeepX p H H'→Q (.str z) H'
def spPlace:Sp:=fun vs H Q _=>∃ (p:Addr) (k:Nat),vs=[.ref p]∧PenAt H p k∧k≤80000∧∀ (q:Addr) (z:Str) (r c:Int) (H':Hp),PlAt H' q z r c→PenAt H' p (k+10)→KeepX p H H'→Q (.ref q) H'
def spBlock:Sp:=fun vs H Q _=>∃ (p:Addr) (k:Nat),vs=[.ref p]∧PenAt H p k∧k≤70000∧∀ (q:Addr) (z:Str) (r c r2 c2:Int) (H':Hp),BkAt H' q z r c r2 c2→PenAt H' p (k+12)→KeepX p H H'→Q (.ref q) H'
def spIsP:Sp:=fun vs H Q _=>∃ (p q:Addr) (z:Str) (r c:Int),vs=[.ref p,.ref q]∧H p=some (.tup [.str z,.int r,.int c])∧H q=some (.tup [.str z,.int r,.int c])∧Q (.bl true) H
def spBkR:Sp:=fun vs H Q _=>∃ (p:Addr) (z:Str) (r c r2 c2:Int),vs=[.ref p]∧BkAt H p z r c r2 c2∧∀ H',Same H H'→Q (.bl true) H'
theorem CsAt.push {H:Hp}{l q:Addr}{z:Str}{r c r' c':Int}{w n:Nat}{vs:List V}(h1:H l=some (.lst vs))(h2:vs.length=n)
    (h3:∀ (k:Nat) (v:V),vs[k]?=some v→∃ a:Addr,v=.ref a∧H a=some (.tup [.str z,.int (r+((k / w:Nat):Int)),.int (c+((k%w:Nat):Int))]))
    (hq:H q=none) (er:r'=r+((n / w:Nat):Int)) (ec:c'=c+((n%w:Nat):Int)):CsAt (upd (upd H q (.tup [.str z,.int r',.int c'])) l (.lst (vs++[.ref q]))) l z r c w (n+1):=by
  have nql:q≠l:=fun e=>by subst e;rw [hq] at h1;cases h1
  refine ⟨_,upd_same,by rw [List.length_append,h2];rfl,fun k v e=>?_⟩
  by_cases hk:k<n
  · rw [List.getElem?_append_left (by omega)] at e
    obtain ⟨a,ea,ha⟩:=h3 k v e
    have n1:a≠l:=ne_of ha h1 (by intro z;cases z)
    have n2:a≠q:=ne_of_none ha hq
    exact ⟨a,ea,by rw [upd_ne n1,upd_ne n2];exact ha⟩
  · rw [List.getElem?_append_right (by omega)] at e
    have hk2:k-vs.length=0:=by
      obtain ⟨hlt,_⟩:=List.getElem?_eq_some_iff.mp e
      simp at hlt
      omega
    rw [hk2] at e
    have e':V.ref q=v:=by simpa using e
    have hkn:k=n:=by omega
    subst hkn
    exact ⟨q,e'.symm,by rw [upd_ne nql,upd_same,er,ec]⟩
theorem Same.step {H H3:Hp}{l q:Addr}{o o':HO}(s:Same H H3)(hl:H l=none)(hq:H3 q=none):Same H (upd (upd H3 q o) l o'):=fun b u e=>by
  rw [upd_ne (ne_of_none e hl),upd_ne (ne_of_none (s _ _ e) hq)]
  exact s _ _ e
theorem nm_lit {z:Str}(h:(decide (1≤z.length)&&decide (z.length≤6)&&z.cps.toList.all fun c=>decide (97≤c)&&decide (c≤122))=true):Nm z:=by
  simp only [Bool.and_eq_true,decide_eq_true_eq,List.all_eq_true] at h
  exact ⟨h.1.1,h.1.2,fun c hc=>h.2 c hc⟩
inductive Vl where
  | none | num (t b:Int) | txt (z:Str) | tru (b:Bool) | flt (w z:Str) (r c:Int)
  deriving DecidableEq
def faults:List Str:=[Str.ofString "kind",Str.ofString "nought",Str.ofString "gone",Str.ofString "name",Str.ofString "shape",Str.ofString "blocked",Str.ofString "miss",Str.ofString "ring",Str.ofString "great"]
def VlOk:Vl→Prop
  | .num t b=>Low t b∧t.natAbs<10 ^ 30∧b.natAbs<10 ^ 30
  | .txt z=>z.length≤20∧∀ c∈z.cps.toList,c∈(Str.ofString "abcdefghijklmnopqrstuvwxyz0123456789 ").cps.toList
  | .flt w z r c=>w∈faults∧Nm z∧1≤r∧r≤16∧1≤c∧c≤8
  | _=>True
def ntext (t b:Int):Str:=if b=1 then num t else num t++Str.ofString "/"++num b
def vtext:Vl→Str
  | .none=>Str.ofString ""
  | .num t b=>ntext t b
  | .txt z=>Str.ofString "'"++z
  | .tru b=>if b=true then Str.ofString "yes" else Str.ofString "no"
  | .flt w z r c=>((Str.ofString "!"++w)++Str.ofString " ")++cellTx z r c
def GTup (K:PySem.W.Frag)(mg:Str→Option Value)(x:Str)(xs:List V):Prop:=∃ (a:Addr) (o:Obj),mg x=some (.ref a)∧K.lookup a=some o∧o.cls=.type "tuple"∧∃ its n,o.data=.seq its n∧its.size≤sizeLine∧Vals xs its.toList
def tGT (K:PySem.W.Frag)(xs:List V):TE:=fun _ H Q=>∀ a,(∀ H',SqT K H' a xs)→Q (.ref a) H
theorem pe_gtup {X:Cx}{x:Str}{xs:List V}{pos:Pos}(hm:GTup X.K X.mg x xs)(hg:Gl X x:=by rfl)(hd:(x==("__debug__":Str))=false:=by decide):PE X (.Name x pos) (tGT X.K xs):=by
  obtain ⟨a,o,h,hl,hc,its,n,h1,h2,h3⟩:=hm
  intro pins s σ H Q I q
  exact ld_glob I hg h ⟨.ref a,H,I,rfl,q a fun H'=>.inr ⟨o,its,n,hl,hc,h1,h2,h3⟩⟩ hd
def VlAt (H:Hp)(p:Addr):Vl→Prop
  | .none=>H p=some (.tup [.str (Str.ofString "none")])
  | .num t b=>H p=some (.tup [.str (Str.ofString "number"),.int t,.int b])
  | .txt z=>H p=some (.tup [.str (Str.ofString "text"),.str z])
  | .tru b=>H p=some (.tup [.str (Str.ofString "truth"),.bl b])
  | .flt w z r c=>∃ q,H p=some (.tup [.str (Str.ofString "fault"),.str w,.ref q])∧H q=some (.tup [.str z,.int r,.int c])
theorem VlAt.same {H H':Hp}{p:Addr}{v:Vl}(h:VlAt H p v)(s:Same H H'):VlAt H' p v:=by
  cases v with
  | none=>exact s _ _ h
  | num t b=>exact s _ _ h
  | txt z=>exact s _ _ h
  | tru b=>exact s _ _ h
  | flt w z r c=>obtain ⟨q,a,b⟩:=h;exact ⟨q,s _ _ a,s _ _ b⟩
def spIsN:Sp:=fun vs H Q _=>∃ t b:Int,vs=[.int t,.int b]∧Low t b∧Q (.bl true) H
def spFew:Sp:=fun vs H Q _=>∃ i:Int,vs=[.int i]∧i.natAbs<10 ^ 30∧Q (.bl true) H
def spShort:Sp:=fun vs H Q _=>∃ t b:Int,vs=[.int t,.int b]∧Low t b∧t.natAbs<10 ^ 30∧b.natAbs<10 ^ 30∧Q (.bl true) H
def spIsT:Sp:=fun vs H Q _=>∃ z:Str,vs=[.str z]∧VlOk (.txt z)∧∀ H',Same H H'→Q (.bl true) H'
def spFW:Sp:=fun vs H Q _=>∃ w:Str,vs=[.str w]∧w∈faults∧Q (.bl true) H
def spIsV:Sp:=fun vs H Q _=>∃ (p:Addr) (v:Vl),vs=[.ref p]∧VlOk v∧VlAt H p v∧∀ H',Same H H'→Q (.bl true) H'
def spNT:Sp:=fun vs H Q _=>∃ t b:Int,vs=[.int t,.int b]∧t.natAbs<10 ^ 30∧b.natAbs<10 ^ 30∧Q (.str (ntext t b)) H
def spVT:Sp:=fun vs H Q _=>∃ (p:Addr) (v:Vl),vs=[.ref p]∧VlOk v∧VlAt H p v∧∀ H',Same H H'→Q (.str (vtext v)) H'
def spNM:Sp:=fun vs H Q _=>∃ t b:Int,vs=[.str (ntext t b)]∧Low t b∧t.natAbs<10 ^ 30∧b.natAbs<10 ^ 30∧∀ (p:Addr) (H':Hp),Same H H'→VlAt H' p (.num t b)→Q (.ref p) H'
def spFM:Sp:=fun vs H Q _=>∃ (w z:Str) (r c:Int),vs=[.str ((w++Str.ofString " ")++cellTx z r c)]∧VlOk (.flt w z r c)∧∀ (p:Addr) (H':Hp),Same H H'→VlAt H' p (.flt w z r c)→Q (.ref p) H'
def spTM:Sp:=fun vs H Q _=>∃ v:Vl,vs=[.str (vtext v)]∧VlOk v∧∀ (p:Addr) (H':Hp),Same H H'→VlAt H' p v→Q (.ref p) H'
def spFar5:Sp:=fun vs H Q _=>∃ (p:Addr) (k:Nat),vs=[.ref p]∧PenAt H p k∧k≤90000∧∀ (r:Int) (H':Hp),r.natAbs<10 ^ 30-3→PenAt H' p (k+5)→KeepX p H H'→Q (.int r) H'
def spNum5:Sp:=fun vs H Q _=>∃ (p:Addr) (k:Nat),vs=[.ref p]∧PenAt H p k∧k≤80000∧∀ (q:Addr) (x y:Int) (H':Hp),H' q=some (.tup [.int x,.int y])→Low x y→x.natAbs<10 ^ 30→y.natAbs<10 ^ 30→PenAt H' p (k+12)→KeepX p H H'→Q (.ref q) H'
def spVal:Sp:=fun vs H Q _=>∃ (p:Addr) (k:Nat),vs=[.ref p]∧PenAt H p k∧k≤60000∧∀ (q:Addr) (v:Vl) (H':Hp),VlOk v→VlAt H' q v→PenAt H' p (k+40)→KeepX p H H'→Q (.ref q) H'
def spSame:Sp:=fun vs H Q _=>∃ (p q:Addr) (v:Vl),vs=[.ref p,.ref q]∧VlAt H p v∧VlAt H q v∧∀ H',Same H H'→Q (.bl true) H'
theorem VlAt.keep {H H':Hp}{p q:Addr}{v:Vl}{xs:List V}(h:VlAt H q v)(hp:H p=some (.lst xs))(s:KeepX p H H'):VlAt H' q v:=by
  have ne:∀ {b:Addr} {ys:List V},H b=some (.tup ys)→b≠p:=fun e=>ne_of e hp (by intro z;cases z)
  cases v with
  | none=>exact s _ _ (ne h) h
  | num t b=>exact s _ _ (ne h) h
  | txt z=>exact s _ _ (ne h) h
  | tru b=>exact s _ _ (ne h) h
  | flt w z r c=>obtain ⟨u,a,b⟩:=h;exact ⟨u,s _ _ (ne a) a,s _ _ (ne b) b⟩
def rNeV:R2:=fun x y H Q=>∃ a b v,x=.ref a∧y=.ref b∧VlAt H a v∧VlAt H b v∧Q (.bl false) H
theorem kid1 {α:Type}{us:List α}(h:us.length=1):∃ a,us=[a]:=match us,h with | [a],_=>⟨a,rfl⟩
theorem kid2 {α:Type}{us:List α}(h:us.length=2):∃ a b,us=[a,b]:=match us,h with | [a,b],_=>⟨a,b,rfl⟩
abbrev kS (z:String):Key:=.inr (Str.ofString z)
def penK (a:Addr)(t r m u:Int):List (Key×V):=[(kS "cells",.ref a),(kS "at",.int t),(kS "rest",.int r),(kS "mode",.int m),(kS "used",.int u)]
section
variable {H:Hp}{p a:Addr}{t r m u:Int}
end
theorem SqL.kx {K:PySem.W.Frag}{H H':Hp}{a p:Addr}{xs:List V}{kvs:List (Key×V)}(h:SqL K H a xs)(hp:H p=some (.dK kvs))(s:KeepX p H H'):SqL K H' a xs:=by
  rcases h with (h | ⟨o,h⟩) | h
  · exact .inl (.inl (s _ _ (ne_of h hp (by intro z;cases z)) h))
  · exact .inl (.inr ⟨o,s _ _ (ne_of h hp (by intro z;cases z)) h⟩)
  · exact .inr h
def PenD (K:PySem.W.Frag)(S:Addr×List Int)(H:Hp)(p:Addr)(k:Nat):Prop:=∃ t r m u:Int,H p=some (.dK (penK S.1 t r m u))∧SqL K H S.1 (S.2.map V.int)∧0≤t∧0≤u∧u≤k∧(m=0∨(m=1∧0<S.2.length))∧S.2.length≤63
section
variable {K:PySem.W.Frag}{S:Addr×List Int}{H H':Hp}{p D:Addr}{k n:Nat}
theorem PenD.same (h:PenD K S H p k)(s:Same H H'):PenD K S H' p k:=let ⟨t,r,m,u,e,q,z⟩:=h;⟨t,r,m,u,s _ _ e,s.seq q,z⟩
theorem PenD.mono (h:PenD K S H p k)(s:k≤n):PenD K S H p n:=let ⟨t,r,m,u,e,q,x,y,v,w⟩:=h;⟨t,r,m,u,e,q,x,y,by omega,w⟩
theorem PenD.ob (h:PenD K S H p k):∃ kvs,H p=some (.dK kvs):=let ⟨_,_,_,_,e,_⟩:=h;⟨_,e⟩
theorem PenD.ne (h:PenD K S H p k)(hD:H D=none):D≠p:=fun z=>by
  obtain ⟨kvs,e⟩:=h.ob
  rw [← z,hD] at e;cases e
theorem PenD.put {o:HO}(h0:PenD K S H p k)(hD:H D=none)(h:PenD K S H' p n):PenD K S (upd H' D o) p n:=by
  have ne:=h0.ne hD
  obtain ⟨_,_,_,_,_,q0,_⟩:=h0
  obtain ⟨t,r,m,u,e,q,z⟩:=h
  refine ⟨t,r,m,u,by rw [upd_ne (Ne.symm ne)];exact e,?_,z⟩
  rcases q0 with (q0 | ⟨o0,q0⟩) | q0
  · have na:=ne_of_none q0 hD
    rcases q with (q | ⟨o1,q⟩) | q
    · exact .inl (.inl (by rw [upd_ne na];exact q))
    · exact .inl (.inr ⟨o1,by rw [upd_ne na];exact q⟩)
    · exact .inr q
  · have na:=ne_of_none q0 hD
    rcases q with (q | ⟨o1,q⟩) | q
    · exact .inl (.inl (by rw [upd_ne na];exact q))
    · exact .inl (.inr ⟨o1,by rw [upd_ne na];exact q⟩)
    · exact .inr q
  · exact .inr q0
end
def spPenD (K:PySem.W.Frag):Sp:=fun vs H Q _=>∃ (a:Addr) (ns:List Int),vs=[.ref a]∧SqL K H a (ns.map V.int)∧ns.length≤63∧∀ (p:Addr) (H':Hp),H p=none→PenD K (a,ns) H' p 0→Same H H'→Q (.ref p) H'
def spTakD (K:PySem.W.Frag):Sp:=fun vs H Q _=>∃ (p:Addr) (m:Int) (k:Nat) (S:Addr×List Int),vs=[.ref p,.int m]∧0<m∧Sz 4000 m∧PenD K S H p k∧k≤10000000∧∀ (r:Int) (H':Hp),0≤r→r<m→PenD K S H' p (k+1)→KeepX p H H'→Q (.int r) H'
theorem atI_ints {ns:List Int}{r:Int}(h0:0≤r)(h1:r<(ns.length:Int)):∃ v,atI (ns.map V.int) r=some (V.int v):=by
  obtain ⟨j,rfl⟩:∃ j:Nat,r=(j:Int):=⟨r.toNat,by omega⟩
  have hj:j<ns.length:=by omega
  exact ⟨ns[j],atI_nat (by rw [List.getElem?_map,List.getElem?_eq_getElem hj];rfl)⟩
abbrev vS (z:String):V:=.str (Str.ofString z)
def KN14:List V:=[vS "sum",vS "yes",vS "if",vS "grid",vS "outer",vS "no",vS "su",vS "sums",vS "iff",vS "yess",vS "neg",vS "own",vS "abcdef",vS "z"]
def RS1:List V:=[vS "yes",vS "no",vS "if",vS "sum",vS "count",vS "least",vS "most",vS "sumif",vS "find",vS "turn",vS "stack"]
def RS2:List V:=[vS "grid",vS "outer"]
def rsv (z:Str):Bool:=inV (.str z) RS1||inV (.str z) RS2
def knB (j:Nat):Bool:=match KN14[j]? with
  | some (.str z)=>(decide (1≤z.length)&&decide (z.length≤6)&&z.cps.toList.all fun c=>decide (97≤c)&&decide (c≤122))&&(decide (j<6)||!rsv z)
  | _=>false
def spLet (K:PySem.W.Frag):Sp:=fun vs H Q _=>∃ (p:Addr) (fr:Bool) (n:Nat) (S:Addr×List Int),vs=[.ref p,.bl fr]∧PenD K S H p n∧n≤9500000∧∀ (z:Str) (H':Hp),Nm z→(fr=true→rsv z=false)→PenD K S H' p (n+8)→KeepX p H H'→Q (.str z) H'
def shV:Option Str→V
  | none=>.non
  | some z=>.str z
def ShOk:Option Str→Prop
  | none=>True
  | some z=>Nm z
def spShD (K:PySem.W.Frag):Sp:=fun vs H Q _=>∃ (p:Addr) (n:Nat) (S:Addr×List Int),vs=[.ref p]∧PenD K S H p n∧n≤9000000∧∀ (s:Option Str) (H':Hp),ShOk s→PenD K S H' p (n+9)→KeepX p H H'→Q (shV s) H'
def Kp (H H':Hp):Prop:=∀ a xs,H a=some (.tup xs)→H' a=some (.tup xs)
theorem Kp.same {H H':Hp}(s:Same H H'):Kp H H':=fun a xs e=>s _ _ e
theorem Kp.keepD {H H':Hp}{p:Addr}{kvs:List (Key×V)}(hp:H p=some (.dK kvs))(s:KeepX p H H'):Kp H H':=fun a xs e=>s _ _ (ne_of e hp (by intro z;cases z)) e
theorem Kp.pen {K:PySem.W.Frag}{S:Addr×List Int}{H H':Hp}{p:Addr}{n:Nat}(h:PenD K S H p n)(s:KeepX p H H'):Kp H H':=let ⟨_,e⟩:=h.ob;Kp.keepD e s
theorem Kp.lst {H H':Hp}{p:Addr}{ys:List V}(hp:H p=some (.lst ys))(s:KeepX p H H'):Kp H H':=fun a xs e=>s _ _ (ne_of e hp (by intro z;cases z)) e
theorem Kp.trans {H H1 H2:Hp}(a:Kp H H1)(b:Kp H1 H2):Kp H H2:=fun c xs e=>b c xs (a c xs e)
structure Cor where
  r:Int
  c:Int
  x:Bool
  y:Bool
abbrev corV (c:Cor):List V:=[.int c.r,.int c.c,.bl c.x,.bl c.y]
structure CorOk (c:Cor):Prop where
  r0:1≤c.r
  r1:c.r≤16
  c0:1≤c.c
  c1:c.c≤8
inductive Lf where
  | val (v:Vl) | cell (s:Option Str) (c:Cor) | rng (s:Option Str) (c d:Cor) | cols (s:Option Str) (a:Int) (x:Bool) (b:Int) (y:Bool) | gone | nam (z:Str) | par (i:Int) | flt
def LfAt (H:Hp)(a:Addr):Lf→Prop
  | .val v=>∃ q,H a=some (.tup [vS "value",.ref q])∧VlAt H q v
  | .cell s c=>∃ q,H a=some (.tup [vS "cell",shV s,.ref q])∧H q=some (.tup (corV c))
  | .rng s c d=>∃ q u,H a=some (.tup [vS "range",shV s,.ref q,.ref u])∧H q=some (.tup (corV c))∧H u=some (.tup (corV d))
  | .cols s i x j y=>∃ q u,H a=some (.tup [vS "columns",shV s,.ref q,.ref u])∧H q=some (.tup [.int i,.bl x])∧H u=some (.tup [.int j,.bl y])
  | .gone=>H a=some (.tup [vS "gone"])
  | .nam z=>H a=some (.tup [vS "name",.str z])
  | .par i=>H a=some (.tup [vS "param",.int i])
  | .flt=>H a=some (.tup [vS "fault",vS "name"])
def VlW:Vl→Prop
  | .num t b=>b=1∧0≤t∧t≤999999999
  | .txt _=>True
  | .tru _=>True
  | _=>False
def LfOk (pr:Nat):Lf→Prop
  | .val v=>VlOk v∧VlW v
  | .cell s c=>ShOk s∧CorOk c
  | .rng s c d=>ShOk s∧CorOk c∧CorOk d∧c.r≤d.r∧c.c≤d.c
  | .cols ..=>False
  | .gone=>False
  | .nam _=>False
  | .par _=>False
  | .flt=>True
theorem VlAt.kp {H H':Hp}{p:Addr}{v:Vl}(h:VlAt H p v)(s:Kp H H'):VlAt H' p v:=by
  cases v with
  | none=>exact s _ _ h
  | num t b=>exact s _ _ h
  | txt z=>exact s _ _ h
  | tru b=>exact s _ _ h
  | flt w z r c=>obtain ⟨q,a,b⟩:=h;exact ⟨q,s _ _ a,s _ _ b⟩
theorem LfAt.kp {H H':Hp}{a:Addr}{l:Lf}(h:LfAt H a l)(s:Kp H H'):LfAt H' a l:=by
  cases l with
  | val v=>obtain ⟨q,h1,h2⟩:=h;exact ⟨q,s _ _ h1,VlAt.kp h2 s⟩
  | cell z c=>obtain ⟨q,h1,h2⟩:=h;exact ⟨q,s _ _ h1,s _ _ h2⟩
  | rng z c d=>obtain ⟨q,u,h1,h2,h3⟩:=h;exact ⟨q,u,s _ _ h1,s _ _ h2,s _ _ h3⟩
  | cols z i x j y=>obtain ⟨q,u,h1,h2,h3⟩:=h;exact ⟨q,u,s _ _ h1,s _ _ h2,s _ _ h3⟩
  | gone=>exact s _ _ h
  | nam z=>exact s _ _ h
  | par i=>exact s _ _ h
  | flt=>exact s _ _ h
def spCorD (K:PySem.W.Frag):Sp:=fun vs H Q _=>∃ (p:Addr) (r c:Int) (n:Nat) (S:Addr×List Int),vs=[.ref p,.int r,.int c]∧PenD K S H p n∧n≤9000000∧∀ (q:Addr) (x y:Bool) (H':Hp),H' q=some (.tup (corV ⟨r,c,x,y⟩))→PenD K S H' p (n+2)→KeepX p H H'→Q (.ref q) H'
def spRefD (K:PySem.W.Frag):Sp:=fun vs H Q _=>∃ (p:Addr) (w:Int) (n:Nat) (S:Addr×List Int),vs=[.ref p,.int w]∧PenD K S H p n∧n≤8000000∧∀ (a:Addr) (l:Lf) (H':Hp),LfAt H' a l→(∀ pr,LfOk pr l)→PenD K S H' p (n+30)→KeepX p H H'→Q (.ref a) H'
def spValD (K:PySem.W.Frag):Sp:=fun vs H Q _=>∃ (p:Addr) (w:Int) (n:Nat) (S:Addr×List Int),vs=[.ref p,.int w]∧PenD K S H p n∧n≤8000000∧∀ (q:Addr) (v:Vl) (H':Hp),VlAt H' q v→VlOk v→VlW v→PenD K S H' p (n+30)→KeepX p H H'→Q (.ref q) H'
def spLeafD (K:PySem.W.Frag):Sp:=fun vs H Q _=>∃ (p:Addr) (pr:Nat) (n:Nat) (S:Addr×List Int),vs=[.ref p,.int pr]∧pr≤3∧PenD K S H p n∧n≤7000000∧∀ (a:Addr) (l:Lf) (H':Hp),LfAt H' a l→LfOk pr l→PenD K S H' p (n+40)→KeepX p H H'→Q (.ref a) H'
theorem low_one {n:Int}:Low n 1:=⟨by decide,by simp⟩
inductive Kd where
  | op (z:Str) | neg | own (z:Str) | sumif (z:Str) | grid (i j:Int) | wd (z:Str)
def frV:Kd→List V
  | .op z=>[vS "op",.str z]
  | .neg=>[vS "neg"]
  | .own z=>[vS "own",.str z]
  | .sumif z=>[vS "sumif",.str z]
  | .grid i j=>[vS "grid",.int i,.int j]
  | .wd z=>[.str z]
def layV (t:Addr):Kd→List V→List V
  | .op z,us=>vS "op"::.str z::us
  | .neg,us=>vS "neg"::us
  | .own z,_=>[vS "own",.str z,.ref t]
  | .sumif z,us=>vS "sumif"::(us.take 1++.str z::us.drop 1)
  | .grid i j,us=>vS "grid"::.int i::.int j::us
  | .wd z,us=>.str z::us
def isOwn:Kd→Bool
  | .own _=>true
  | _=>false
def OPS:List Str:=["+","-","*","/","&","=","<"].map Str.ofString
def WDS:List (Str×Nat):=[("if",3),("sum",1),("count",1),("least",1),("most",1),("find",3),("turn",1),("stack",2),("outer",1)].map fun x=>(Str.ofString x.1,x.2)
def KdOk:Kd→Nat→Prop
  | .op z,m=>z∈OPS∧m=2
  | .neg,m=>m=1
  | .own z,m=>m≤3∧False
  | .sumif z,m=>(z=Str.ofString "="∨z=Str.ofString "<")∧m=3
  | .grid i j,m=>1≤i∧i≤16∧1≤j∧j≤8∧m=2
  | .wd z,m=>(z,m)∈WDS
theorem KdOk.le {k:Kd}{m:Nat}(h:KdOk k m):m≤3:=by
  cases k with
  | op z=>have:=h.2;omega
  | neg=>have:m=1:=h;omega
  | own z=>exact h.1
  | sumif z=>have:=h.2;omega
  | grid i j=>have:=h.2.2.2.2;omega
  | wd z=>
    have h:(z,m)∈WDS:=h
    have:∀ x∈WDS,x.2≤3:=by decide +kernel
    exact this _ h
def spFrmD (K:PySem.W.Frag):Sp:=fun vs H Q _=>∃ (p:Addr) (n:Nat) (S:Addr×List Int),vs=[.ref p]∧PenD K S H p n∧n≤8000000∧∀ (a f:Addr) (k:Kd) (m:Nat) (H':Hp),H' a=some (.tup [.ref f,.int m])→H' f=some (.tup (frV k))→KdOk k m→PenD K S H' p (n+12)→KeepX p H H'→Q (.ref a) H'
def spMadD:Sp:=fun vs H Q _=>∃ (f l:Addr) (k:Kd) (us:List V),vs=[.ref f,.ref l]∧H f=some (.tup (frV k))∧H l=some (.lst us)∧KdOk k us.length∧∀ (a t:Addr) (H':Hp),H' a=some (.tup (layV t k us))→(isOwn k=true→H' t=some (.tup us))→Same H H'→Q (.ref a) H'
def WD9:List Str:=["if","sum","count","least","most","find","turn","stack","outer"].map Str.ofString
inductive Fm where
  | lf (l:Lf) | nd (k:Kd) (ps:List Fm)
inductive FmAt (H:Hp):V→Fm→Prop where
  | lf {a:Addr} {l:Lf} (h:LfAt H a l):FmAt H (.ref a) (.lf l)
  | nd {a t:Addr} {k:Kd} {us:List V} {ps:List Fm} (h:H a=some (.tup (layV t k us))) (ht:isOwn k=true→H t=some (.tup us)) (hl:us.length=ps.length)
      (hh:∀ (j:Nat) (u:V) (f:Fm),us[j]?=some u→ps[j]?=some f→FmAt H u f):FmAt H (.ref a) (.nd k ps)
theorem FmAt.kp {H H':Hp}{v:V}{f:Fm}(h:FmAt H v f)(s:Kp H H'):FmAt H' v f:=by
  induction h with
  | lf h=>exact .lf (LfAt.kp h s)
  | nd h ht hl _ ih=>exact .nd (s _ _ h) (fun z=>s _ _ (ht z)) hl ih
abbrev FmsAt (H:Hp)(us:List V)(fs:List Fm):Prop:=Paired (FmAt H) us fs
theorem FmsAt.kp {H H':Hp}{us:List V}{fs:List Fm}(h:FmsAt H us fs)(s:Kp H H'):FmsAt H' us fs:=Paired.imp' (fun _ _ x=>FmAt.kp x s) h
inductive FO (pr:Nat):Nat→Fm→Prop where
  | lf {n:Nat} {l:Lf} (h:LfOk pr l):FO pr (n+1) (.lf l)
  | nd {n:Nat} {k:Kd} {ps:List Fm} (h:KdOk k ps.length) (hp:∀ f∈ps,FO pr n f):FO pr (n+1) (.nd k ps)
theorem FO.mono {pr:Nat}{n:Nat}{f:Fm}(h:FO pr n f):∀ {m:Nat},n≤m→FO pr m f:=by
  induction h with
  | lf h=>
    intro m hm
    obtain ⟨m,rfl⟩:∃ k,m=k+1:=⟨m-1,by omega⟩
    exact .lf h
  | nd h _ ih=>
    intro m hm
    obtain ⟨m,rfl⟩:∃ k,m=k+1:=⟨m-1,by omega⟩
    exact .nd h fun f hf=>ih f hf (by omega)
def spGrow (K:PySem.W.Frag)(n:Nat):Sp:=fun vs H Q _=>∃ (p:Addr) (room d:Int) (pr:Nat) (c:Nat) (S:Addr×List Int),vs=[.ref p,.int room,.int d,.int pr]∧d=(n:Int)+1∧1≤room∧room≤24∧pr≤3∧PenD K S H p c∧c+80*room.toNat≤6000000∧
  ∀ (v:V) (f:Fm) (H':Hp),FmAt H' v f→FO pr (n+1) f→PenD K S H' p (c+80*room.toNat)→KeepX p H H'→Q v H'
theorem psnoc {α β:Type}{F:α→β→Prop}:∀ {xs:List α} {ys:List β} {x:α} {y:β},Paired F xs ys→F x y→Paired F (xs++[x]) (ys++[y])
  | _,_,_,_,.nil,h=>.cons h .nil
  | _,_,_,_,.cons r t,h=>.cons r (psnoc t h)
abbrev zS (z:String):Str:=Str.ofString z
theorem atI_hd {α:Type}{x:α}{r:List α}:atI (x::r) 0=some x:=atI_nat (j:=0) rfl
theorem atI_1 {α:Type}{x y:α}{r:List α}:atI (x::y::r) 1=some y:=atI_nat (j:=1) rfl
theorem atI_2 {α:Type}{x y z:α}{r:List α}:atI (x::y::z::r) 2=some z:=atI_nat (j:=2) rfl
def prtF:Fm→List Fm
  | .lf _=>[]
  | .nd _ ps=>ps
def kw:Kd→Str
  | .op _=>zS "op"
  | .neg=>zS "neg"
  | .own _=>zS "own"
  | .sumif _=>zS "sumif"
  | .grid _ _=>zS "grid"
  | .wd z=>z
theorem lay_kw (t:Addr)(k:Kd)(us:List V):∃ r,layV t k us=.str (kw k)::r:=by cases k <;> exact ⟨_,rfl⟩
theorem FmAt.parts {H:Hp}{us:List V}{ps:List Fm}(hl:us.length=ps.length)(hh:∀ (j:Nat) (u:V) (f:Fm),us[j]?=some u→ps[j]?=some f→FmAt H u f):FmsAt H us ps:=by
  induction us generalizing ps with
  | nil=>
    cases ps with
    | nil=>exact .nil
    | cons _ _=>simp at hl
  | cons u us ih=>
    cases ps with
    | nil=>simp at hl
    | cons p ps=>exact .cons (hh 0 u p rfl rfl) (ih (by simpa using hl) fun j u f e1 e2=>hh (j+1) u f (by simpa using e1) (by simpa using e2))
def isRefV:V→Bool
  | .ref _=>true
  | _=>false
def PartOr (H:Hp)(x:V):Prop:=(∃ b ys,x=.ref b∧H b=some (.tup ys))∨(∃ z,x=.str z)∨∃ i,x=.int i
theorem kw_own {k:Kd}{m:Nat}(ok:KdOk k m):decide (V.str (kw k)=vS "own")=isOwn k:=by
  cases k with
  | wd z=>
    have hw:(z,m)∈WDS:=ok
    have:∀ x∈WDS,decide (V.str x.1=vS "own")=false:=by decide +kernel
    exact this _ hw
  | op z=>show decide (vS "op"=vS "own")=false;decide +kernel
  | neg=>show decide (vS "neg"=vS "own")=false;decide +kernel
  | own z=>show decide (vS "own"=vS "own")=true;decide +kernel
  | sumif z=>show decide (vS "sumif"=vS "own")=false;decide +kernel
  | grid i j=>show decide (vS "grid"=vS "own")=false;decide +kernel
def spPrt:Sp:=fun vs H Q _=>∃ (v:V) (f:Fm) (pr n:Nat),vs=[v]∧FmAt H v f∧FO pr n f∧∀ (l:Addr) (us:List V) (H':Hp),H l=none→H' l=some (.lst us)→FmsAt H' us (prtF f)→Same H H'→Q (.ref l) H'
theorem Same.back0 {H H':Hp}{b:Addr}(s:Same H H')(h:H' b=none):H b=none:=by
  cases e:H b with
  | none=>rfl
  | some o=>rw [s _ _ e] at h;cases h
theorem slm {n:Nat}(h:n≤16000000):n≤sizeLine:=Nat.le_trans h (by decide)
def PPK:List (Key×List V):=[(kS "op",[.int 2,.int 3]),(kS "neg",[.int 1]),(kS "if",[.int 1,.int 2,.int 3]),(kS "sum",[.int 1]),(kS "count",[.int 1]),(kS "least",[.int 1]),(kS "most",[.int 1]),(kS "sumif",[.int 1,.int 3,.int 4]),(kS "find",[.int 1,.int 2,.int 3]),(kS "turn",[.int 1]),(kS "stack",[.int 1,.int 2]),(kS "grid",[.int 3,.int 4]),(kS "outer",[.int 1])]
def ppAt (k:Str):Option (List V):=(PPK.find? fun kt=>decide (kt.1=(Sum.inr k:Key))).map (·.2)
abbrev KTs (K:PySem.W.Frag):List (Key×V)→List (Key×List V)→Prop:=Paired (fun (kv:Key×V) (kt:Key×List V)=>kv.1=kt.1∧∃ a,kv.2=.ref a∧∀ H,SqT K H a kt.2)
theorem pp_get {K:PySem.W.Frag}{k:Key}{ys:List V}:∀ {kvs:List (Key×V)} {kts:List (Key×List V)},KTs K kvs kts→(kts.find? fun kt=>decide (kt.1=k)).map (·.2)=some ys→∃ a,valV kvs k=some (.ref a)∧∀ H,SqT K H a ys
  | _,_,.nil,h=>by simp at h
  | (kv::kvs),(kt::kts),.cons r t,h=>by
    obtain ⟨e,a,ea,sq⟩:=r
    by_cases c:kt.1=k
    · rw [List.find?_cons_of_pos (by simpa using c)] at h
      simp only [Option.map_some,Option.some.injEq] at h
      subst h
      exact ⟨a,by rw [valV_pos (e.trans c),ea],sq⟩
    · rw [List.find?_cons_of_neg (by simpa using c)] at h
      obtain ⟨b,hb,sb⟩:=pp_get t h
      exact ⟨b,by rw [valV_neg (fun z=>c (e.symm.trans z))];exact hb,sb⟩
def up1 (m:Nat):List Nat:=(List.range m).map (·+1)
theorem lay_pl {t:Addr}{k:Kd}{us:List V}(ok:KdOk k us.length)(no:isOwn k=false):∃ pl:List Nat,ppAt (kw k)=some (pl.map fun (p:Nat)=>V.int p)∧pl.length=us.length∧∀ j,j<us.length→∃ p u,pl[j]?=some p∧us[j]?=some u∧atI (layV t k us) (p:Int)=some u:=by
  cases k with
  | op z=>
    obtain ⟨u1,u2,rfl⟩:=kid2 ok.2
    refine ⟨[2,3],(by show ppAt (zS "op")=_;decide +kernel),rfl,fun j hj=>?_⟩
    match j,hj with
    | 0,_=>exact ⟨2,u1,rfl,rfl,rfl⟩
    | 1,_=>exact ⟨3,u2,rfl,rfl,rfl⟩
  | neg=>
    obtain ⟨u1,rfl⟩:=kid1 (show us.length=1 from ok)
    refine ⟨[1],(by show ppAt (zS "neg")=_;decide +kernel),rfl,fun j hj=>?_⟩
    match j,hj with
    | 0,_=>exact ⟨1,u1,rfl,rfl,rfl⟩
  | own z=>cases no
  | sumif z=>
    have h3:us.length=3:=ok.2
    match us,h3 with
    | [u1,u2,u3],_=>
    refine ⟨[1,3,4],(by show ppAt (zS "sumif")=_;decide +kernel),rfl,fun j hj=>?_⟩
    match j,hj with
    | 0,_=>exact ⟨1,u1,rfl,rfl,rfl⟩
    | 1,_=>exact ⟨3,u2,rfl,rfl,rfl⟩
    | 2,_=>exact ⟨4,u3,rfl,rfl,rfl⟩
  | grid i j=>
    obtain ⟨u1,u2,rfl⟩:=kid2 ok.2.2.2.2
    refine ⟨[3,4],(by show ppAt (zS "grid")=_;decide +kernel),rfl,fun j hj=>?_⟩
    match j,hj with
    | 0,_=>exact ⟨3,u1,rfl,rfl,rfl⟩
    | 1,_=>exact ⟨4,u2,rfl,rfl,rfl⟩
  | wd z=>
    have hw:(z,us.length)∈WDS:=ok
    have hz:∀ x∈WDS,ppAt x.1=some ((up1 x.2).map fun (p:Nat)=>V.int p):=by decide +kernel
    refine ⟨up1 us.length,hz _ hw,by simp [up1],fun j hj=>⟨j+1,us[j],?_,List.getElem?_eq_getElem hj,?_⟩⟩
    · unfold up1
      rw [List.getElem?_map,List.getElem?_range hj];rfl
    · exact atI_nat (j:=j+1) (by show (V.str z::us)[j+1]?=_;rw [List.getElem?_cons_succ,List.getElem?_eq_getElem hj])
mutual
def szF:Fm→Nat
  | .lf _=>1
  | .nd _ ps=>1+szs ps
def szs:List Fm→Nat
  | []=>0
  | f::fs=>szF f+szs fs
end
theorem szs_app:∀ a b:List Fm,szs (a++b)=szs a+szs b
  | [],b=>by rw [List.nil_append,szs];omega
  | x::a,b=>by rw [List.cons_append,szs,szs,szs_app a b];omega
theorem szF_prt (f:Fm):szF f=1+szs (prtF f):=by
  cases f with
  | lf l=>rw [szF];show 1=1+szs [];rw [szs]
  | nd k ps=>rw [szF];rfl
theorem szs_len:∀ fs:List Fm,fs.length≤szs fs
  | []=>Nat.zero_le _
  | f::fs=>by
    have:=szs_len fs
    have:=szF_prt f
    rw [szs,List.length_cons];omega
theorem szs_le {B:Nat}:∀ fs:List Fm,(∀ f∈fs,szF f≤B)→szs fs≤fs.length*B
  | [],_=>by rw [szs];exact Nat.zero_le _
  | f::fs,h=>by
    have a:=szs_le fs fun g hg=>h g (List.mem_cons_of_mem _ hg)
    have b:=h f (by simp)
    rw [szs,List.length_cons,Nat.add_mul];omega
def SB:Nat→Nat
  | 0=>0
  | n+1=>1+3*SB n
theorem FO.sz {pr n:Nat}{f:Fm}(h:FO pr n f):szF f≤SB n:=by
  induction h with
  | lf h=>rw [szF];show 1≤1+3*SB _;omega
  | @nd n k ps ok _ ih=>
    rw [szF]
    have a:=szs_le ps ih
    have b:ps.length*SB n≤3*SB n:=Nat.mul_le_mul_right _ ok.le
    show 1+szs ps≤1+3*SB n
    omega
theorem FO.sz8 {pr:Nat}{f:Fm}(h:FO pr 8 f):szF f≤3280:=Nat.le_trans h.sz (by decide)
theorem FO.prt {pr n:Nat}{f:Fm}(h:FO pr n f):∀ g∈prtF f,FO pr n g:=fun g hg=>by
  cases h with
  | lf _=>cases hg
  | nd _ hp=>exact (hp g hg).mono (Nat.le_succ _)
theorem psplit {α β:Type}{F:α→β→Prop}:∀ {xs:List α} {x:α} {ys:List β},Paired F (xs++[x]) ys→∃ ys' y,ys=ys'++[y]∧Paired F xs ys'∧F x y
  | [],_,_,.cons r .nil=>⟨[],_,rfl,.nil,r⟩
  | _::_,_,_,.cons r t=>by
    obtain ⟨ys',y,rfl,p,q⟩:=psplit t
    exact ⟨_::ys',y,rfl,.cons r p,q⟩
theorem papp {α β:Type}{F:α→β→Prop}:∀ {xs zs:List α} {ys ws:List β},Paired F xs ys→Paired F zs ws→Paired F (xs++zs) (ys++ws)
  | _,_,_,_,.nil,h=>h
  | _,_,_,_,.cons r t,h=>.cons r (papp t h)
def itOk (x:V):Prop:=flatV x=true∨∃ a,x=.ref a
theorem itOk.tr {H:Hp}{n:Nat}{x:V}(h:itOk x):TrEq H n x x:=by
  rcases h with h | ⟨a,rfl⟩
  · exact .fl h
  · exact .rf
theorem LfAt.pp {H:Hp}{a:Addr}{l:Lf}(h:LfAt H a l):∃ w r,H a=some (.tup (.str w::r))∧V.bl (decide (V.str w=vS "own"))=V.bl false∧ppAt w=none∧(∀ x∈(.str w::r),itOk x)∧r.length≤5:=by
  have sh:∀ s:Option Str,itOk (shV s):=fun s=>by cases s <;> exact .inl rfl
  cases l with
  | val v=>obtain ⟨q,h1,_⟩:=h;exact ⟨_,_,h1,by decide +kernel,by decide +kernel,by simp [itOk,flatV],by simp⟩
  | cell s c=>obtain ⟨q,h1,_⟩:=h;exact ⟨_,_,h1,by decide +kernel,by decide +kernel,by simp [itOk,flatV];exact sh s,by simp⟩
  | rng s c d=>obtain ⟨q,u,h1,_⟩:=h;exact ⟨_,_,h1,by decide +kernel,by decide +kernel,by simp [itOk,flatV];exact sh s,by simp⟩
  | cols s i x j y=>obtain ⟨q,u,h1,_⟩:=h;exact ⟨_,_,h1,by decide +kernel,by decide +kernel,by simp [itOk,flatV];exact sh s,by simp⟩
  | gone=>exact ⟨_,_,h,by decide +kernel,by decide +kernel,by simp [itOk,flatV],by simp⟩
  | nam z=>exact ⟨_,_,h,by decide +kernel,by decide +kernel,by simp [itOk,flatV],by simp⟩
  | par i=>exact ⟨_,_,h,by decide +kernel,by decide +kernel,by simp [itOk,flatV],by simp⟩
  | flt=>exact ⟨_,_,h,by decide +kernel,by decide +kernel,by simp [itOk,flatV],by simp⟩
theorem pp_none {K:PySem.W.Frag}{k:Key}:∀ {kvs:List (Key×V)} {kts:List (Key×List V)},KTs K kvs kts→(kts.find? fun kt=>decide (kt.1=k)).map (·.2)=none→valV kvs k=none
  | _,_,.nil,_=>rfl
  | (kv::kvs),(kt::kts),.cons r t,h=>by
    obtain ⟨e,a,ea,sq⟩:=r
    by_cases c:kt.1=k
    · rw [List.find?_cons_of_pos (by simpa using c)] at h
      simp at h
    · rw [List.find?_cons_of_neg (by simpa using c)] at h
      rw [valV_neg (fun z=>c (e.symm.trans z))]
      exact pp_none t h
theorem szF_le {pr n:Nat}{f:Fm}(h:FO pr n f)(h8:n≤8):szF f≤3280:=(h.mono h8).sz8
theorem one_le:1≤sizeLine:=by decide
mutual
def alF:Fm→List Fm
  | .lf l=>[.lf l]
  | .nd k ps=>alL ps++[.nd k ps]
def alL:List Fm→List Fm
  | []=>[]
  | f::fs=>alF f++alL fs
end
theorem alF_prt (f:Fm):alF f=alL (prtF f)++[f]:=by
  cases f with
  | lf l=>rw [alF];show [Fm.lf l]=alL []++[Fm.lf l];rw [alL];rfl
  | nd k ps=>rw [alF];rfl
theorem alL_app:∀ a b:List Fm,alL (a++b)=alL a++alL b
  | [],b=>by rw [List.nil_append,alL,List.nil_append]
  | x::a,b=>by rw [List.cons_append,alL,alL,alL_app a b,List.append_assoc]
mutual
theorem alF_len:∀ f:Fm,(alF f).length=szF f
  | .lf l=>by rw [alF,szF];rfl
  | .nd k ps=>by rw [alF,szF,List.length_append,alL_len ps,List.length_singleton];omega
theorem alL_len:∀ fs:List Fm,(alL fs).length=szs fs
  | []=>by rw [alL,szs];rfl
  | f::fs=>by rw [alL,szs,List.length_append,alF_len f,alL_len fs]
end
def spAll:Sp:=fun vs H Q _=>∃ (v:V) (f:Fm) (pr n:Nat),vs=[v]∧FmAt H v f∧FO pr n f∧n≤8∧∀ l ws H',H l=none→H' l=some (.lst ws)→FmsAt H' ws (alF f)→Same H H'→Q (.ref l) H'
theorem prev {α β:Type}{R:α→β→Prop}{xs:List α}{ys:List β}(h:Paired R xs ys):Paired R xs.reverse ys.reverse:=by
  induction h with
  | nil=>exact .nil
  | cons h _ ih=>rw [List.reverse_cons,List.reverse_cons];exact papp ih (.cons h .nil)
theorem FmAt.tup {H:Hp}{v:V}{f:Fm}(h:FmAt H v f):∃ b ys,v=.ref b∧H b=some (.tup ys):=by
  cases h with
  | lf h=>obtain ⟨w,r,h1,_⟩:=h.pp;exact ⟨_,_,rfl,h1⟩
  | nd h _ _ _=>exact ⟨_,_,rfl,h⟩
theorem SqT.sm {K:PySem.W.Frag}{H H':Hp}{a:Addr}{xs:List V}(h:SqT K H a xs)(s:Same H H'):SqT K H' a xs:=by
  rcases h with (h | ⟨o,h⟩) | h
  · exact .inl (.inl (s _ _ h))
  · exact .inl (.inr ⟨o,s _ _ h⟩)
  · exact .inr h
mutual
theorem FO.al {pr n:Nat}:∀ (f:Fm),FO pr n f→∀ g∈alF f,FO pr n g
  | .lf l,h,g,hg=>by rw [alF] at hg;rw [List.mem_singleton.mp hg];exact h
  | .nd k ps,h,g,hg=>by
    rw [alF] at hg
    rcases List.mem_append.mp hg with q | q
    · exact FO.als ps (fun x hx=>h.prt x hx) g q
    · rw [List.mem_singleton.mp q];exact h
theorem FO.als {pr n:Nat}:∀ (fs:List Fm),(∀ f∈fs,FO pr n f)→∀ g∈alL fs,FO pr n g
  | [],_,g,hg=>by rw [alL] at hg;cases hg
  | f::fs,h,g,hg=>by
    rw [alL] at hg
    rcases List.mem_append.mp hg with q | q
    · exact FO.al f (h f (List.mem_cons_self ..)) g q
    · exact FO.als fs (fun x hx=>h x (List.mem_cons_of_mem _ hx)) g q
end
theorem cut_hi {xs:List V}{j:Nat}(h:j≤xs.length):cutV xs (some (j:Int)) none=xs.drop j:=by
  unfold cutV
  have e1:HT.sIx xs.length 0 (some (j:Int))=j:=by unfold HT.sIx;simp;split <;> omega
  have e2:HT.sIx xs.length xs.length none=xs.length:=rfl
  rw [e1,e2,← List.length_drop]
  exact List.take_length
theorem cut_lo {xs:List V}{j:Nat}(h:j≤xs.length):cutV xs none (some (j:Int))=xs.take j:=by
  unfold cutV
  have e1:HT.sIx xs.length xs.length (some (j:Int))=j:=by unfold HT.sIx;simp;split <;> omega
  have e2:HT.sIx xs.length 0 none=0:=rfl
  rw [e1,e2,Nat.sub_zero];rfl
theorem pdrop {α β:Type}{F:α→β→Prop}:∀ {xs:List α} {ys:List β} (n:Nat),Paired F xs ys→Paired F (xs.drop n) (ys.drop n)
  | _,_,0,h=>by simpa using h
  | _,_,n+1,.nil=>by simpa using Paired.nil
  | _,_,n+1,.cons _ t=>by simpa using pdrop n t
theorem ptake {α β:Type}{F:α→β→Prop}:∀ {xs:List α} {ys:List β} (n:Nat),Paired F xs ys→Paired F (xs.take n) (ys.take n)
  | _,_,0,h=>by simpa using Paired.nil
  | _,_,n+1,.nil=>by simpa using Paired.nil
  | _,_,n+1,.cons r t=>by simpa using Paired.cons r (ptake n t)
def spBsh:Sp:=fun vs H Q _=>∃ (q:Addr) (x:V) (a b c d:Int),vs=[.ref q]∧H q=some (.tup [x,.int a,.int b,.int c,.int d])∧∀ r,H r=none→Q (.ref r) (upd H r (.tup [.int (c-a+1),.int (d-b+1)]))
def VvAt (H:Hp)(u:V)(v:Vl):Prop:=∃ q,u=.ref q∧VlAt H q v
theorem VvAt.kp {H H':Hp}{u:V}{v:Vl}(h:VvAt H u v)(s:Kp H H'):VvAt H' u v:=let ⟨q,e,x⟩:=h;⟨q,e,VlAt.kp x s⟩
abbrev VsAt (H:Hp)(us:List V)(vs:List Vl):Prop:=Paired (VvAt H) us vs
theorem VsAt.kp {H H':Hp}{us:List V}{vs:List Vl}(h:VsAt H us vs)(s:Kp H H'):VsAt H' us vs:=Paired.imp' (fun _ _ x=>VvAt.kp x s) h
def RsAt (H:Hp)(u:V)(row:List V):Prop:=∃ b,u=.ref b∧H b=some (.tup row)
def RowsAt (H:Hp)(u:V)(rows:List (List V)):Prop:=∃ b us,u=.ref b∧H b=some (.tup us)∧Paired (RsAt H) us rows
theorem RowsAt.kp {H H':Hp}{u:V}{rows:List (List V)}(h:RowsAt H u rows)(s:Kp H H'):RowsAt H' u rows:=let ⟨b,us,e,x,p⟩:=h;⟨b,us,e,s _ _ x,Paired.imp' (fun _ _ ⟨c,e,y⟩=>⟨c,e,s _ _ y⟩) p⟩
abbrev VtAt (H:Hp)(rows:List (List V))(m:List (List Vl)):Prop:=Paired (Paired (VvAt H)) rows m
theorem VtAt.kp {H H':Hp}{rows:List (List V)}{m:List (List Vl)}(h:VtAt H rows m)(s:Kp H H'):VtAt H' rows m:=Paired.imp' (fun _ _ x=>VsAt.kp x s) h
def TbAt (H:Hp)(u:V)(m:List (List Vl)):Prop:=∃ rows,RowsAt H u rows∧VtAt H rows m
theorem TbAt.kp {H H':Hp}{u:V}{m:List (List Vl)}(h:TbAt H u m)(s:Kp H H'):TbAt H' u m:=let ⟨r,x,y⟩:=h;⟨r,x.kp s,VtAt.kp y s⟩
theorem Kp.del (q:Str)(H:Hp):Kp H (L2.del q H):=fun _ _ e=>del_of e rfl
theorem Kp.put {q:Str}(H H':Hp)(h:Kp (L2.del q H) H'):Kp H (L2.put q H H'):=fun a xs e=>by
  have n:kn q (H a)=none:=by rw [e];rfl
  rw [put_out n]
  exact h a xs (del_of e rfl)
theorem Kp.new {H:Hp}{p:Addr}{o:HO}(h:H p=none):Kp H (upd H p o):=Kp.same (Same.new h)
def dat:HO→Bool
  | .frz _ (.own 0)=>false
  | .tbl _=>false
  | _=>true
def SmD (H H':Hp):Prop:=∀ b o,H b=some o→dat o=true→H' b=some o
theorem dat_kn {q:Str}{o:HO}(h:dat o=true):kn q (some o)=none:=by
  unfold kn
  split
  · rename_i e;cases e;cases h
  · rfl
theorem SmD.of {H H':Hp}(h:Same H H'):SmD H H':=fun b o e _=>h b o e
theorem SmD.refl (H:Hp):SmD H H:=fun _ _ e _=>e
theorem SmD.trans {H H1 H2:Hp}(a:SmD H H1)(b:SmD H1 H2):SmD H H2:=fun c o e d=>b c o (a c o e d) d
theorem SmD.kp {H H':Hp}(h:SmD H H'):Kp H H':=fun a xs e=>h a _ e rfl
theorem SmD.del (q:Str)(H:Hp):SmD H (L2.del q H):=fun _ _ e d=>del_of e (dat_kn d)
theorem SmD.put {q:Str}{H H':Hp}(h:SmD (L2.del q H) H'):SmD H (L2.put q H H'):=fun b o e d=>by
  have n:kn q (H b)=none:=by rw [e];exact dat_kn d
  rw [put_out n]
  exact h b o (del_of e (dat_kn d)) d
theorem SmD.tab {H H':Hp}{P:Addr}{ps:Array Value}(hp:H P=some (.tbl ps))(h:KeepX P H H'):SmD H H':=fun b o e d=>h b o (fun z=>by subst z;rw [hp] at e;cases e;cases d) e
theorem Kp.back {q:Str}{H H':Hp}(h:∀ b o,kn q (H b)=some o→H' b=none):Kp H' (L2.put q H H'):=fun a xs e=>by
  have n:kn q (H a)=none:=by
    cases w:kn q (H a) with
    | none=>rfl
    | some o=>rw [h a o w] at e;cases e
  rw [put_out n];exact e
theorem SmD.seq {K:PySem.W.Frag}{H H':Hp}{a:Addr}{xs:List V}(h:SmD H H')(q:SqL K H a xs):SqL K H' a xs:=by
  rcases q with (q | ⟨o,q⟩) | q
  · exact .inl (.inl (h _ _ q rfl))
  · exact .inl (.inr ⟨o,h _ _ q rfl⟩)
  · exact .inr q
def tag:Vl→Str
  | .none=>Str.ofString "none"
  | .num ..=>Str.ofString "number"
  | .txt _=>Str.ofString "text"
  | .tru _=>Str.ofString "truth"
  | .flt ..=>Str.ofString "fault"
def itm:Vl→List Itm
  | .none=>[.fl (vS "none")]
  | .num t b=>[.fl (vS "number"),.fl (.int t),.fl (.int b)]
  | .txt z=>[.fl (vS "text"),.fl (.str z)]
  | .tru b=>[.fl (vS "truth"),.fl (.bl b)]
  | .flt w z r c=>[.fl (vS "fault"),.fl (.str w),.tp [.str z,.int r,.int c]]
def eqVl (x y:Vl):Bool:=eqL eqItm (itm x) (itm y)
theorem VlAt.itm {H:Hp}{p:Addr}{v:Vl}(h:VlAt H p v):∃ xs,H p=some (.tup (.str (tag v)::xs))∧Paired (ItAt H) (.str (tag v)::xs) (itm v):=by
  cases v with
  | none=>exact ⟨_,h,.cons ⟨rfl,rfl⟩ .nil⟩
  | num t b=>exact ⟨_,h,.cons ⟨rfl,rfl⟩ (.cons ⟨rfl,rfl⟩ (.cons ⟨rfl,rfl⟩ .nil))⟩
  | txt z=>exact ⟨_,h,.cons ⟨rfl,rfl⟩ (.cons ⟨rfl,rfl⟩ .nil)⟩
  | tru b=>exact ⟨_,h,.cons ⟨rfl,rfl⟩ (.cons ⟨rfl,rfl⟩ .nil)⟩
  | flt w z r c=>
    obtain ⟨q,a,b⟩:=h
    exact ⟨_,a,.cons ⟨rfl,rfl⟩ (.cons ⟨rfl,rfl⟩ (.cons ⟨q,rfl,b,rfl⟩ .nil))⟩
def isF (v:Vl):Bool:=decide (V.str (tag v)=vS "fault")
structure Hm where
  z:Str
  r:Int
  c:Int
def HmAt (H:Hp)(u:V)(h:Hm):Prop:=∃ q,u=.ref q∧H q=some (.tup [.str h.z,.int h.r,.int h.c])
theorem HmAt.kp {H H':Hp}{u:V}{h:Hm}(x:HmAt H u h)(s:Kp H H'):HmAt H' u h:=let ⟨q,e,y⟩:=x;⟨q,e,s _ _ y⟩
def fltK (w:String)(h:Hm):Vl:=.flt (Str.ofString w) h.z h.r h.c
structure Rect {α:Type}(m:List (List α))(w:Nat):Prop where
  ne:m≠[]
  w1:1≤w
  row:∀ r∈m,r.length=w
def blk (g:Str→Int→Int→Vl)(z:Str)(r c:Int)(h w:Nat):List (List Vl):=(List.range h).map fun (i:Nat)=>(List.range w).map fun (j:Nat)=>g z (r+i) (c+j)
def chunk {α:Type}(us:List α)(w h:Nat):List (List α):=(List.range h).map fun (i:Nat)=>(us.drop (i*w)).take w
theorem chunk_paired {α β:Type}{F:α→β→Prop}{us:List α}{vs:List β}{w h:Nat}(p:Paired F us vs):Paired (Paired F) (chunk us w h) (chunk vs w h):=by
  unfold chunk
  induction (List.range h) with
  | nil=>exact .nil
  | cons i l ih=>exact .cons (ptake w (pdrop (i*w) p)) ih
theorem chunk_blk {g:Str→Int→Int→Vl}{z:Str}{r c:Int}{h w:Nat}(hw:1≤w):chunk ((List.range (h*w)).map fun (k:Nat)=>g z (r+((k / w:Nat):Int)) (c+((k%w:Nat):Int))) w h=blk g z r c h w:=by
  unfold chunk blk
  refine List.map_congr_left fun i hi=>?_
  have hi':i<h:=List.mem_range.mp hi
  refine List.ext_getElem? fun j=>?_
  by_cases hj:j<w
  · have hlt:i*w+j<h*w:=by
      have:(i+1)*w≤h*w:=Nat.mul_le_mul_right w hi'
      rw [Nat.succ_mul] at this
      omega
    rw [List.getElem?_take_of_lt hj,List.getElem?_drop,List.getElem?_map,List.getElem?_map,List.getElem?_range hlt,List.getElem?_range hj]
    simp only [Option.map_some]
    rw [Nat.mul_comm i w,Nat.mul_add_div (by omega),Nat.div_eq_of_lt hj,Nat.mul_add_mod,Nat.mod_eq_of_lt hj,Nat.add_zero]
  · rw [List.getElem?_eq_none (by rw [List.length_take];omega),List.getElem?_eq_none (by rw [List.length_map,List.length_range];omega)]
theorem blk_len {g:Str→Int→Int→Vl}{z:Str}{r c:Int}{h w:Nat}:(blk g z r c h w).length=h:=by unfold blk;rw [List.length_map,List.length_range]
theorem blk_rect {g:Str→Int→Int→Vl}{z:Str}{r c:Int}{h w:Nat}(h1:1≤h)(w1:1≤w):Rect (blk g z r c h w) w:=by
  refine ⟨fun e=>?_,w1,fun x hx=>?_⟩
  · have:=congrArg List.length e
    rw [blk_len] at this
    simp at this
    omega
  · unfold blk at hx
    obtain ⟨i,_,rfl⟩:=List.mem_map.mp hx
    rw [List.length_map,List.length_range]
def isCol (v:Vl)(w:Nat):Bool:=match v with
  | .num t b=>decide (b=1)&&(decide (1≤t)&&decide (t≤(w:Int)))
  | _=>false
def colOf:Vl→Nat
  | .num t _=>(t-1).toNat
  | _=>0
def srch (k:Vl)(j:Nat):List (List Vl)→Option Vl
  | []=>none
  | r::m=>if eqVl (r.headD .none) k=true then some (r.getD j .none) else srch k j m
def fnd (k:Vl)(m:List (List Vl))(a:Vl)(h:Hm):Vl:=
  if isF k=true then k else if isF a=true then a else if isCol a (m.headD []).length=false then fltK "kind" h else (srch k (colOf a) m).getD (fltK "miss" h)
def spOne:Sp:=fun vs H Q _=>∃ u:V,vs=[u]∧∀ x H',RowsAt H' x [[u]]→Same H H'→Q x H'
def spInR:Sp:=fun vs H Q _=>∃ (l:Addr) (us:List V) (w h:Nat),vs=[.ref l,.int w]∧H l=some (.lst us)∧us.length=h*w∧1≤w∧w≤100∧h≤100∧∀ x H',RowsAt H' x (chunk us w h)→Same H H'→Q x H'
def fstF:List V→List Vl→V
  | u::us,v::vs=>if isF v=true then u else fstF us vs
  | _,_=>.non
def spFst (K:PySem.W.Frag):Sp:=fun vs H Q _=>∃ (l:Addr) (us:List V) (ms:List Vl),vs=[.ref l]∧H l=some (.lst us)∧VsAt H us ms∧us.length≤1000∧Q (fstF us ms) H
def spCol:Sp:=fun vs H Q _=>∃ (u x:V) (v:Vl) (rows:List (List V)) (r0:List V),vs=[u,x]∧VvAt H u v∧RowsAt H x (r0::rows)∧r0.length≤1000∧Q (.bl (isCol v r0.length)) H
def spFnd:Sp:=fun vs H Q _=>∃ (u x a y:V) (k v:Vl) (m:List (List Vl)) (w:Nat) (hm:Hm),vs=[u,x,a,y]∧VvAt H u k∧TbAt H x m∧VvAt H a v∧HmAt H y hm∧Rect m w∧w≤1000∧m.length≤1000∧∀ z H',VvAt H' z (fnd k m v hm)→Same H H'→Q z H'
def spSh (D:Hp→Prop)(dom:Str→Int→Int→Prop)(g:Str→Int→Int→Vl):Sp:=fun vs H Q _=>∃ (q:Addr) (z:Str) (r c:Int),vs=[.ref q]∧H q=some (.tup [.str z,.int r,.int c])∧D H∧dom z r c∧∀ x H',VvAt H' x (g z r c)→Same H H'→Q x H'
def spShown (f:Addr)(D:Hp→Prop)(dom:Str→Int→Int→Prop)(g:Str→Int→Int→Vl):Sp:=fun vs H Q _=>∃ (b:Addr) (z:Str) (r c r2 c2:Int),vs=[.ref b,.ref f]∧BkAt H b z r c r2 c2∧D H∧(∀ i j:Int,r≤i→i≤r2→c≤j→j≤c2→dom z i j)∧
  ∀ x H',TbAt H' x (blk g z r c (r2-r+1).toNat (c2-c+1).toNat)→Same H H'→Q x H'
def lfB:Lf→Option (Str×Cor×Cor)
  | .cell (some z) c=>some (z,c,c)
  | .rng (some z) c d=>some (z,c,d)
  | _=>none
def lfT (g:Str→Int→Int→Vl)(l:Lf):List (List Vl):=match lfB l with
  | some (z,c,d)=>blk g z c.r c.c (d.r-c.r+1).toNat (d.c-c.c+1).toNat
  | none=>[]
structure LfGood (dom:Str→Int→Int→Prop)(l:Lf)(z:Str)(c d:Cor):Prop where
  b:lfB l=some (z,c,d)
  nm:Nm z
  r0:1≤c.r
  r1:c.r≤d.r
  r16:d.r≤16
  c0:1≤c.c
  c1:c.c≤d.c
  c8:d.c≤8
  dm:∀ i j:Int,c.r≤i→i≤d.r→c.c≤j→j≤d.c→dom z i j
def spBlt:Sp:=fun vs H Q _=>∃ (v:V) (l:Lf) (z:Str) (c d:Cor),vs=[v]∧FmAt H v (.lf l)∧lfB l=some (z,c,d)∧∀ r,H r=none→Q (.ref r) (upd H r (.tup [.str z,.int c.r,.int c.c,.int d.r,.int d.c]))
def spLtb (f:Addr)(D:Hp→Prop)(dom:Str→Int→Int→Prop)(g:Str→Int→Int→Vl):Sp:=fun vs H Q _=>∃ (v u:V) (l:Lf) (z:Str) (c d:Cor),vs=[v,u,.ref f]∧FmAt H v (.lf l)∧LfGood dom l z c d∧D H∧∀ x H',TbAt H' x (lfT g l)→Same H H'→Q x H'
theorem len_chunk {α:Type}{us:List α}{w h:Nat}:(chunk us w h).length=h:=by unfold chunk;rw [List.length_map,List.length_range]
theorem chunk_get {α:Type}{us:List α}{w h i:Nat}(hi:i<h):(chunk us w h)[i]?=some ((us.drop (i*w)).take w):=by unfold chunk;rw [List.getElem?_map,List.getElem?_range hi];rfl
theorem stepN_mul {w h:Nat}(hw:1≤w):stepN ((h*w:Nat):Int) (w:Int)=h:=by
  unfold stepN
  by_cases hh:h=0
  · subst hh;simp
  · have h1:0<h*w:=Nat.mul_pos (by omega) (by omega)
    rw [if_pos (by omega)]
    have e:(((h*w:Nat):Int)-1) / (w:Int)=((h*w-1) / w:Nat):=by
      rw [show ((h*w:Nat):Int)-1=((h*w-1:Nat):Int) by omega];rfl
    rw [e]
    have e2:(h*w-1) / w=h-1:=by
      have:h*w-1=w*(h-1)+(w-1):=by
        obtain ⟨k,rfl⟩:∃ k,h=k+1:=⟨h-1,by omega⟩
        rw [Nat.succ_mul,Nat.add_sub_cancel,Nat.mul_comm w k];omega
      rw [this,Nat.mul_add_div (by omega),Nat.div_eq_of_lt (by omega),Nat.add_zero]
    rw [e2];omega
theorem cut_both {xs:List V}{i j:Nat}(h:i+j≤xs.length):cutV xs (some ((i:Nat):Int)) (some ((i:Int)+(j:Int)))=(xs.drop i).take j:=by
  unfold cutV
  have e1:HT.sIx xs.length 0 (some ((i:Nat):Int))=i:=by unfold HT.sIx;simp;split <;> omega
  have e2:HT.sIx xs.length xs.length (some ((i:Int)+(j:Int)))=i+j:=by unfold HT.sIx;simp;split <;> omega
  rw [e1,e2,Nat.add_sub_cancel_left]
theorem VvAt.hd {H:Hp}{u:V}{v:Vl}(h:VvAt H u v):∃ q xs,u=.ref q∧H q=some (.tup (.str (tag v)::xs))∧Paired (ItAt H) (.str (tag v)::xs) (itm v):=by
  obtain ⟨q,e,x⟩:=h
  obtain ⟨xs,a,b⟩:=x.itm
  exact ⟨q,xs,e,a,b⟩
theorem pair_get {α β:Type}{F:α→β→Prop}:∀ {xs:List α} {ys:List β},Paired F xs ys→∀ {j:Nat} {y:β},ys[j]?=some y→∃ x,xs[j]?=some x∧F x y
  | _,_,.nil,_,_,e=>by simp at e
  | _,_,.cons r _,0,_,e=>by simp at e;subst e;exact ⟨_,rfl,r⟩
  | _,_,.cons _ t,j+1,y,e=>by
    obtain ⟨x,h1,h2⟩:=pair_get t (j:=j) (y:=y) (by simpa using e)
    exact ⟨x,by simpa using h1,h2⟩
theorem cons_of {α:Type}{l:List α}(h:1≤l.length):∃ a t,l=a::t:=match l,h with | a::t,_=>⟨a,t,rfl⟩
theorem HmAt.flt {H:Hp}{y:V}{h:Hm}{w:String}(x:HmAt H y h){p:Addr}(hp:H p=none):VvAt (upd H p (.tup [vS "fault",vS w,y])) (.ref p) (fltK w h):=by
  obtain ⟨q,rfl,hq⟩:=x
  exact ⟨p,rfl,q,upd_same,Same.new hp _ _ hq⟩
theorem Paired.snoc {α β:Type}{F:α→β→Prop}{xs:List α}{ys:List β}{x:α}{y:β}(p:Paired F xs ys)(h:F x y):Paired F (xs++[x]) (ys++[y]):=psnoc p h
theorem lfB_at {H:Hp}{a:Addr}{l:Lf}{z:Str}{c d:Cor}(h:LfAt H a l)(b:lfB l=some (z,c,d)):∃ w q u r,H a=some (.tup (.str w::.str z::.ref q::r))∧(w=zS "cell"∨w=zS "range")∧H q=some (.tup (corV c))∧H u=some (.tup (corV d))∧
    ((r=[]∧q=u)∨r=[.ref u]):=by
  cases l with
  | cell s c'=>
    obtain ⟨q,h1,h2⟩:=h
    cases s with
    | none=>cases b
    | some z'=>
      cases b
      exact ⟨_,q,q,[],h1,.inl rfl,h2,h2,.inl ⟨rfl,rfl⟩⟩
  | rng s c' d'=>
    obtain ⟨q,u,h1,h2,h3⟩:=h
    cases s with
    | none=>cases b
    | some z'=>
      cases b
      exact ⟨_,q,u,[.ref u],h1,.inr rfl,h2,h3,.inr rfl⟩
  | val v=>cases b
  | cols s i x j y=>cases b
  | gone=>cases b
  | nam z=>cases b
  | par i=>cases b
  | flt=>cases b
def hd0 (m:List (List Vl)):Vl:=(m.headD []).headD .none
theorem TbAt.hd0 {H:Hp}{u:V}{m:List (List Vl)}{w:Nat}(h:TbAt H u m)(rc:Rect m w):∃ b us x0 rt b0 y,u=.ref b∧H b=some (.tup (.ref b0::us))∧H b0=some (.tup (y::rt))∧VvAt H y (hd0 m)∧x0=y:=by
  obtain ⟨rows,⟨b,us,rfl,hb,pr⟩,vt⟩:=h
  obtain ⟨m0,mt,rfl⟩:∃ a t,m=a::t:=by
    cases m with
    | nil=>exact absurd rfl rc.ne
    | cons a t=>exact ⟨a,t,rfl⟩
  cases vt with
  | cons v0 vt'=>
    cases pr with
    | cons p0 pt=>
      obtain ⟨b0,rfl,hb0⟩:=p0
      have w1:=rc.w1
      have l0:=rc.row m0 List.mem_cons_self
      obtain ⟨y0,yt,rfl⟩:=cons_of (l:=m0) (by omega)
      cases v0 with
      | cons y ys=>exact ⟨b,_,_,_,b0,_,rfl,hb,hb0,y,rfl⟩
def spSgl:Sp:=fun vs H Q _=>∃ (v y o:V) (l a:Addr) (x0 x1 x2:V) (r:List V) (m0 m1 m2:List (List Vl)) (w0 w1 w2:Nat) (hm:Hm),vs=[v,.ref l,y,o]∧v=.ref a∧H a=some (.tup (vS "find"::r))∧H l=some (.lst [x0,x1,x2])∧
  TbAt H x0 m0∧TbAt H x1 m1∧TbAt H x2 m2∧Rect m0 w0∧Rect m1 w1∧Rect m2 w2∧w1≤1000∧m1.length≤1000∧HmAt H y hm∧∀ z H',VvAt H' z (fnd (hd0 m0) m1 (hd0 m2) hm)→Same H H'→Q z H'
def lfs (g:Str→Int→Int→Vl):Fm→List (List Vl)
  | .lf l=>lfT g l
  | _=>[]
def semF (g:Str→Int→Int→Vl)(hm:Hm):Fm→List (List Vl)
  | .lf l=>lfT g l
  | .nd _ [a,b,c]=>[[fnd (hd0 (lfs g a)) (lfs g b) (hd0 (lfs g c)) hm]]
  | _=>[]
def okL (dom:Str→Int→Int→Prop)(f:Fm):Prop:=∃ l z c d,f=.lf l∧LfGood dom l z c d
def okF (dom:Str→Int→Int→Prop)(f:Fm):Prop:=okL dom f∨∃ a b c,f=.nd (.wd (zS "find")) [a,b,c]∧okL dom a∧okL dom b∧okL dom c
def spTell {B:Type}(At:Hp→V→B→Prop)(sem:Fm→B)(ok:Fm→Prop)(Dp:Hp→Prop):Sp:=fun vs H Q _=>∃ (v:V) (f:Fm) (l:Addr) (us:List V) (n:Nat),vs=[v,.ref l]∧FmAt H v f∧FO 0 n f∧ok f∧Dp H∧H l=some (.lst us)∧Paired (At H) us ((prtF f).map sem)∧∀ x H',At H' x (sem f)→Same H H'→Q x H'
def spTold {B:Type}(f0:Addr)(At:Hp→V→B→Prop)(sem:Fm→B)(ok:Fm→Prop)(Dp:Hp→Prop):Sp:=fun vs H Q _=>∃ (l:Addr) (f:Fm) (ws:List V) (n:Nat),vs=[.ref l,.ref f0]∧H l=some (.lst ws)∧FmsAt H ws (alF f)∧FO 0 n f∧n≤8∧(∀ g∈alF f,ok g)∧Dp H∧∀ x H',At H' x (sem f)→Same H H'→Q x H'
def spTbp (f:Addr)(Dp:Hp→Prop)(dom:Str→Int→Int→Prop)(g:Str→Int→Int→Vl)(hm:Hm):Sp:=fun vs H Q _=>∃ (v y o:V) (fm:Fm) (l:Addr) (us:List V) (n:Nat),vs=[v,.ref l,y,.ref f,o]∧FmAt H v fm∧FO 0 n fm∧okF dom fm∧Dp H∧H l=some (.lst us)∧Paired (TbAt H) us ((prtF fm).map (semF g hm))∧HmAt H y hm∧∀ x H',TbAt H' x (semF g hm fm)→Same H H'→Q x H'
theorem LfGood.rect {dom:Str→Int→Int→Prop}{g:Str→Int→Int→Vl}{l:Lf}{z:Str}{c d:Cor}(h:LfGood dom l z c d):Rect (lfT g l) (d.c-c.c+1).toNat∧(lfT g l).length≤16∧(d.c-c.c+1).toNat≤8:=by
  have g1:=h.r0;have g2:=h.r1;have g3:=h.r16;have g4:=h.c0;have g5:=h.c1;have g6:=h.c8
  unfold lfT
  rw [h.b]
  exact ⟨blk_rect (by omega) (by omega),by rw [blk_len];omega,by omega⟩
theorem lf_FmAt {H:Hp}{v:V}{l:Lf}(h:FmAt H v (.lf l)):∃ a,v=.ref a∧LfAt H a l:=by
  cases h with | lf h=>exact ⟨_,rfl,h⟩
section
variable {B:Type}(sem:Fm→B)
def stepG (st:List B)(g:Fm):List B:=st.take (st.length-(prtF g).length)++[sem g]
theorem stepG_ok (st:List B)(g:Fm):stepG sem (st++(prtF g).map sem) g=st++[sem g]:=by
  unfold stepG
  rw [List.length_append,List.length_map,Nat.add_sub_cancel,List.take_left]
mutual
theorem fold_FG:∀ (f:Fm) (st:List B),(alF f).foldl (stepG sem) st=st++[sem f]
  | .lf l,st=>by
    rw [alF,List.foldl_cons,List.foldl_nil]
    have:=stepG_ok sem st (.lf l)
    rw [show prtF (.lf l)=[] from rfl,List.map_nil,List.append_nil] at this
    exact this
  | .nd k ps,st=>by
    rw [alF,List.foldl_append,fold_LG ps st,List.foldl_cons,List.foldl_nil]
    exact stepG_ok sem st (.nd k ps)
theorem fold_LG:∀ (fs:List Fm) (st:List B),(alL fs).foldl (stepG sem) st=st++fs.map sem
  | [],st=>by rw [alL,List.map_nil,List.append_nil];rfl
  | f::fs,st=>by rw [alL,List.foldl_append,fold_FG f st,fold_LG fs,List.map_cons,List.append_assoc];rfl
end
mutual
theorem pre_FG:∀ (f:Fm) (st:List B) (i:Nat) (g:Fm),(alF f)[i]?=some g→∃ st',((alF f).take i).foldl (stepG sem) st=st'++(prtF g).map sem
  | .lf l,st,i,g,h=>by
    rw [alF] at h ⊢
    have hi:i<1:=(List.getElem?_eq_some_iff.mp h).1
    have h0:i=0:=by omega
    subst h0
    cases h
    exact ⟨st,by rw [show prtF (.lf l)=[] from rfl,List.map_nil,List.append_nil];rfl⟩
  | .nd k ps,st,i,g,h=>by
    rw [alF] at h ⊢
    by_cases c:i<(alL ps).length
    · rw [List.getElem?_append_left c] at h
      obtain ⟨st',e⟩:=pre_LG ps st i g h
      exact ⟨st',by rw [List.take_append_of_le_length (by omega)];exact e⟩
    · have hi:i<(alL ps++[Fm.nd k ps]).length:=(List.getElem?_eq_some_iff.mp h).1
      rw [List.length_append,List.length_singleton] at hi
      have e:i=(alL ps).length:=by omega
      subst e
      rw [List.getElem?_append_right (Nat.le_refl _),Nat.sub_self] at h
      cases h
      exact ⟨st,by rw [List.take_left,fold_LG];rfl⟩
theorem pre_LG:∀ (fs:List Fm) (st:List B) (i:Nat) (g:Fm),(alL fs)[i]?=some g→∃ st',((alL fs).take i).foldl (stepG sem) st=st'++(prtF g).map sem
  | [],st,i,g,h=>by rw [alL] at h;simp at h
  | f::fs,st,i,g,h=>by
    rw [alL] at h ⊢
    by_cases c:i<(alF f).length
    · rw [List.getElem?_append_left c] at h
      obtain ⟨st',e⟩:=pre_FG f st i g h
      exact ⟨st',by rw [List.take_append_of_le_length (by omega)];exact e⟩
    · rw [List.getElem?_append_right (by omega)] at h
      obtain ⟨st',e⟩:=pre_LG fs (st++[sem f]) _ g h
      refine ⟨st',?_⟩
      rw [List.take_append,List.take_of_length_le (by omega),List.foldl_append,fold_FG]
      exact e
end
theorem foldG_len (fs:List Fm)(st:List B):(fs.foldl (stepG sem) st).length≤st.length+fs.length:=by
  induction fs generalizing st with
  | nil=>exact Nat.le_refl _
  | cons f fs ih=>
    rw [List.foldl_cons,List.length_cons]
    have:=ih (stepG sem st f)
    have h2:(stepG sem st f).length≤st.length+1:=by unfold stepG;rw [List.length_append,List.length_take,List.length_singleton];omega
    omega
end
def qR:Str:=Str.ofString "reckoned"++Str.ofString ".<locals>."++Str.ofString "<lambda>"
def spRck (Pr f:Addr)(Dp:Hp→Prop)(dom:Str→Int→Int→Prop)(g:Str→Int→Int→Vl):Sp:=fun vs H Q _=>∃ (v y o:V) (fm:Fm) (n:Nat) (hm:Hm),vs=[v,y,.ref f,o]∧FmAt H v fm∧FO 0 n fm∧n≤8∧(∀ x∈alF fm,okF dom x)∧Dp H∧HmAt H y hm∧TabAt H Pr qR∧
  ∀ x H',TbAt H' x (semF g hm fm)→KeepX Pr H H'→TabAt H' Pr qR→Q x H'
theorem SqL.kl {K:PySem.W.Frag}{H H':Hp}{a p b:Addr}{ns:List Int}{r:List V}(h:SqL K H a (ns.map V.int))(hp:H p=some (.lst (.ref b::r)))(s:KeepX p H H'):SqL K H' a (ns.map V.int):=by
  rcases h with (h | ⟨o,h⟩) | h
  · exact .inl (.inl (s _ _ (ne_of h hp (by intro z;injection z with z;cases ns <;> simp at z)) h))
  · exact .inl (.inr ⟨o,s _ _ (ne_of h hp (by intro z;cases z)) h⟩)
  · exact .inr h
def PenM (K:PySem.W.Frag)(S:Addr×List Int)(H:Hp)(p:Addr)(k:Nat):Prop:=∃ (b:Bool) (c r:Int),H p=some (.lst [.ref S.1,.bl b,.int c,.int r])∧SqL K H S.1 (S.2.map V.int)∧0≤c∧c≤k∧S.2.length≤63
section
variable {K:PySem.W.Frag}{S:Addr×List Int}{H H':Hp}{p D:Addr}{k n:Nat}
theorem PenM.same (h:PenM K S H p k)(s:Same H H'):PenM K S H' p k:=let ⟨b,c,r,e,q,z⟩:=h;⟨b,c,r,s _ _ e,s.seq q,z⟩
theorem PenM.smd (h:PenM K S H p k)(s:SmD H H'):PenM K S H' p k:=let ⟨b,c,r,e,q,z⟩:=h;⟨b,c,r,s _ _ e rfl,s.seq q,z⟩
theorem PenM.mono (h:PenM K S H p k)(s:k≤n):PenM K S H p n:=let ⟨b,c,r,e,q,y,v,w⟩:=h;⟨b,c,r,e,q,y,by omega,w⟩
theorem PenM.ob (h:PenM K S H p k):∃ vs,H p=some (.lst vs):=let ⟨_,_,_,e,_⟩:=h;⟨_,e⟩
theorem PenM.ne (h:PenM K S H p k)(hD:H D=none):D≠p:=fun z=>by
  obtain ⟨vs,e⟩:=h.ob
  rw [← z,hD] at e;cases e
theorem PenM.kp (h:PenM K S H p k)(s:KeepX p H H'):Kp H H':=let ⟨_,e⟩:=h.ob;Kp.lst e s
theorem PenM.put {o:HO}(h0:PenM K S H p k)(hD:H D=none)(h:PenM K S H' p n):PenM K S (upd H' D o) p n:=by
  have ne:=h0.ne hD
  obtain ⟨_,_,_,_,q0,_⟩:=h0
  obtain ⟨b,c,r,e,q,z⟩:=h
  refine ⟨b,c,r,by rw [upd_ne (Ne.symm ne)];exact e,?_,z⟩
  rcases q0 with (q0 | ⟨o0,q0⟩) | q0
  · have na:=ne_of_none q0 hD
    rcases q with (q | ⟨o1,q⟩) | q
    · exact .inl (.inl (by rw [upd_ne na];exact q))
    · exact .inl (.inr ⟨o1,by rw [upd_ne na];exact q⟩)
    · exact .inr q
  · have na:=ne_of_none q0 hD
    rcases q with (q | ⟨o1,q⟩) | q
    · exact .inl (.inl (by rw [upd_ne na];exact q))
    · exact .inl (.inr ⟨o1,by rw [upd_ne na];exact q⟩)
    · exact .inr q
  · exact .inr q0
end
def spCat (K:PySem.W.Frag):Sp:=fun vs H Q _=>∃ (a:Addr) (ns:List Int) (k:Int),vs=[.ref a,.int k]∧SqL K H a (ns.map V.int)∧0≤k∧∀ v:Int,Q (.int v) H
def spPeM (K:PySem.W.Frag):Sp:=fun vs H Q _=>∃ (a:Addr) (ns:List Int),vs=[.ref a]∧SqL K H a (ns.map V.int)∧ns.length≤63∧∀ (p:Addr) (H':Hp),H p=none→PenM K (a,ns) H' p 0→Same H H'→Q (.ref p) H'
def spTkM (K:PySem.W.Frag):Sp:=fun vs H Q _=>∃ (p:Addr) (m:Int) (k:Nat) (S:Addr×List Int),vs=[.ref p,.int m]∧0<m∧Sz 4000 m∧PenM K S H p k∧k≤10000000∧∀ (r:Int) (H':Hp),0≤r→r<m→PenM K S H' p (k+1)→KeepX p H H'→Q (.int r) H'
def spLoV:Sp:=fun vs H Q _=>∃ t b:Int,vs=[.int t,.int b]∧1≤b∧Sz 4000 b∧∀ q,H q=none→Q (.ref q) (upd H q (.tup [vS "number",.int (lowT t b),.int (lowB t b)]))
def spDcl (K:PySem.W.Frag):Sp:=fun vs H Q _=>∃ (p:Addr) (k:Nat) (S:Addr×List Int),vs=[.ref p]∧PenM K S H p k∧k≤9000000∧∀ (q:Addr) (h:Hm) (H':Hp),H' q=some (.tup [.str h.z,.int h.r,.int h.c])→Nm h.z→1≤h.r→h.r≤16→1≤h.c→h.c≤8→PenM K S H' p (k+3)→KeepX p H H'→Q (.ref q) H'
def spDvl (K:PySem.W.Frag):Sp:=fun vs H Q _=>∃ (p:Addr) (k:Nat) (S:Addr×List Int),vs=[.ref p]∧PenM K S H p k∧k≤8000000∧∀ (u:V) (v:Vl) (H':Hp),VvAt H' u v→VlOk v→PenM K S H' p (k+8)→KeepX p H H'→Q u H'
theorem at2 {x y:V}{r:Int}(h0:0≤r)(h1:r<2):∃ v,atI [x,y] r=some v∧(v=x∨v=y):=by
  have:r=0∨r=1:=by omega
  rcases this with rfl | rfl
  · exact ⟨_,rfl,.inl rfl⟩
  · exact ⟨_,rfl,.inr rfl⟩
theorem atR {xs:List V}{r:Int}(h0:0≤r)(h1:r<(xs.length:Int)):∃ v,atI xs r=some v∧v∈xs:=by
  obtain ⟨j,rfl⟩:∃ j:Nat,r=(j:Int):=⟨r.toNat,by omega⟩
  have hj:j<xs.length:=by omega
  exact ⟨xs[j],atI_nat (List.getElem?_eq_getElem hj),List.getElem_mem hj⟩
theorem kpl {K:PySem.W.Frag}{S:Addr×List Int}{H H':Hp}{p l:Addr}{k:Nat}{o:HO}(h:PenM K S H p k)(hl:H l=none)(s:KeepX p (upd H l o) H'):H' l=some o∧KeepX p H H':=
  ⟨s _ _ (h.ne hl) upd_same,(Same.keep (Same.new hl)).trans s⟩
theorem nm_b:Nm (Str.ofString "b"):=nm_lit (by decide +kernel)
theorem nm_c:Nm (Str.ofString "c"):=nm_lit (by decide +kernel)
theorem nm_main:Nm (Str.ofString "main"):=nm_lit (by decide +kernel)
theorem low_vl {t b:Int}(hb:1≤b)(h1:t.natAbs<10 ^ 30)(h2:b.natAbs<10 ^ 30):VlOk (.num (lowT t b) (lowB t b)):=
  ⟨low_low (by omega),Nat.lt_of_le_of_lt (low_size_t t b (by omega)) h1,Nat.lt_of_le_of_lt (low_size_b t b (by omega)) h2⟩
theorem vNum {H:Hp}{q:Addr}{x y:Int}:VvAt (upd H q (.tup [vS "number",.int x,.int y])) (.ref q) (.num x y):=⟨q,rfl,upd_same⟩
theorem one_vl {t:Int}(h1:t.natAbs<10 ^ 30):VlOk (.num t 1):=⟨low_one,h1,by decide⟩
theorem p28:(10:Int) ^ (28:Int).toNat=10000000000000000000000000000:=by decide +kernel
theorem p9:(10:Int) ^ (9:Int).toNat=1000000000:=by decide +kernel
theorem p30:(10:Int) ^ (30:Int).toNat=1000000000000000000000000000000:=by decide +kernel
theorem n30:(10:Nat) ^ 30=1000000000000000000000000000000:=by decide +kernel
theorem sz30 {x:Int}(h0:-1000000000000000000000000000000≤x)(h1:x≤1000000000000000000000000000000):Sz 4000 x:=by
  refine Sz.mono (m:=100) ?_ (by decide)
  unfold Sz
  have:(2:Nat) ^ 100=1267650600228229401496703205376:=by decide +kernel
  omega
def spGvl (K:PySem.W.Frag):Sp:=fun vs H Q _=>∃ (p:Addr) (k:Nat) (S:Addr×List Int),vs=[.ref p]∧PenM K S H p k∧k≤8500000∧∀ (u:V) (v:Vl) (H':Hp),VvAt H' u v→VlOk v→PenM K S H' p (k+4)→KeepX p H H'→Q u H'
def drawnTx:List V:=[vS "",vS "a",vS "ab",vS "b c",vS "12",vS "0",vS "abcdefghij klmnopqrs",vS "z"]
theorem drawnTx_ok:∀ v∈drawnTx,∃ z,v=.str z∧VlOk (.txt z):=by
  have h:∀ z∈["","a","ab","b c","12","0","abcdefghij klmnopqrs","z"].map Str.ofString,z.length≤20∧∀ c∈z.cps.toList,c∈(Str.ofString "abcdefghijklmnopqrstuvwxyz0123456789 ").cps.toList:=by decide +kernel
  intro v hv
  have e:drawnTx=(["","a","ab","b c","12","0","abcdefghij klmnopqrs","z"].map Str.ofString).map V.str:=rfl
  rw [e] at hv
  obtain ⟨z,hz,rfl⟩:=List.mem_map.mp hv
  exact ⟨z,rfl,h z hz⟩
theorem faults_mem {v:V}(h:v∈faults.map V.str):∃ w,v=.str w∧w∈faults:=by
  obtain ⟨z,hz,rfl⟩:=List.mem_map.mp h
  exact ⟨z,rfl,hz⟩
abbrev LsAt (H:Hp)(bs:List Addr)(rows:List (List V)):Prop:=Paired (fun b row=>H b=some (HO.lst row)) bs rows
def Oks (m:List (List Vl))(w:Nat):Prop:=∀ r∈m,r.length=w∧∀ v∈r,VlOk v
structure LTab (H:Hp)(p l:Addr)(bs:List Addr)(rows:List (List V))(m:List (List Vl)):Prop where
  ob:H l=some (.lst (bs.map V.ref))
  nd:bs.Nodup
  np:p∉bs
  nl:l∉bs
  lp:l≠p
  ls:LsAt H bs rows
  vt:VtAt H rows m
theorem pmem {α β:Type}{F G:α→β→Prop}:∀ {xs:List α} {ys:List β},Paired F xs ys→(∀ x y,x∈xs→F x y→G x y)→Paired G xs ys
  | _,_,.nil,_=>.nil
  | _,_,.cons r t,h=>.cons (h _ _ List.mem_cons_self r) (pmem t fun x y hx=>h x y (List.mem_cons_of_mem _ hx))
theorem LTab.kx {H H':Hp}{p l:Addr}{bs:List Addr}{rows:List (List V)}{m:List (List Vl)}(h:LTab H p l bs rows m)(s:KeepX p H H')(kp:Kp H H'):LTab H' p l bs rows m:=
  ⟨s _ _ h.lp h.ob,h.nd,h.np,h.nl,h.lp,pmem h.ls fun b row hb e=>s _ _ (fun z=>h.np (z▸hb)) e,VtAt.kp h.vt kp⟩
theorem LTab.smd {H H':Hp}{p l:Addr}{bs:List Addr}{rows:List (List V)}{m:List (List Vl)}(h:LTab H p l bs rows m)(s:SmD H H'):LTab H' p l bs rows m:=
  ⟨s _ _ h.ob rfl,h.nd,h.np,h.nl,h.lp,pmem h.ls fun b row _ e=>s _ _ e rfl,VtAt.kp h.vt s.kp⟩
def spDtb (K:PySem.W.Frag):Sp:=fun vs H Q _=>∃ (p:Addr) (h w:Nat) (k:Nat) (S:Addr×List Int),vs=[.ref p,.int h,.int w]∧1≤h∧h≤6∧1≤w∧w≤6∧PenM K S H p k∧k≤5000000∧∀ (l:Addr) (bs:List Addr) (rows:List (List V)) (m:List (List Vl)) (H':Hp),H l=none→(∀ b∈bs,H b=none)→LTab H' p l bs rows m→m.length=h→Oks m w→PenM K S H' p (k+400)→KeepX p H H'→Q (.ref l) H'
theorem KeepX.fresh {p D:Addr}{H H':Hp}(s:KeepX p H H')(hp:D≠p)(h:H' D=none):H D=none:=by
  cases e:H D with
  | none=>rfl
  | some o=>rw [s _ _ hp e] at h;cases h
theorem kp_upd {H:Hp}{D:Addr}{us vs:List V}(h:H D=some (.lst us)):Kp H (upd H D (.lst vs)):=Kp.lst h KeepX.upd
abbrev cK (z:Str)(r c:Int):List Key:=[.inr z,.inl r,.inl c]
theorem cK_inj {z:Str}{r c r' c':Int}(h:cK z r c=cK z r' c'):r=r'∧c=c':=by
  injection h with _ h;injection h with h1 h2;injection h2 with h2 _
  injection h1 with h1;injection h2 with h2
  exact ⟨h1,h2⟩
def Laid (kvs:List (List Key×V))(z:Str)(hi wi:Int)(rows:List (List V))(i j:Nat):Prop:=
  ∀ (a b:Nat) (row:List V) (v:V),rows[a]?=some row→row[b]?=some v→(a<i∨(a=i∧b<j))→valV kvs (cK z (hi+a+1) (wi+b+1))=some v
def Else (kvs kvs':List (List Key×V))(z:Str):Prop:=∀ key:List Key,key.head?≠some (.inr z)→valV kvs' key=valV kvs key
def spLai (K:PySem.W.Frag):Sp:=fun vs H Q _=>∃ (kn l:Addr) (z:Str) (hi wi:Int) (kvs:List (List Key×V)) (bs:List Addr) (rows:List (List V)) (h w:Nat),vs=[.ref kn,.str z,.ref l,.int hi,.int wi]∧H kn=some (.dT kvs)∧kvs.length≤800∧H l=some (.lst (bs.map V.ref))∧LsAt H bs rows∧rows.length=h∧1≤h∧h≤16∧1≤w∧w≤8∧(∀ r∈rows,r.length=w)∧
  ∀ (a:Addr) (lf:Lf) (c d:Cor) (kvs':List (List Key×V)) (H':Hp),H' kn=some (.dT kvs')→kvs'.length≤kvs.length+h*w→Laid kvs' z hi wi rows h 0→Else kvs kvs' z→LfAt H' a lf→lfB lf=some (z,c,d)→c.r=hi+1→c.c=wi+1→d.r=hi+h→d.c=wi+w→KeepX kn H H'→Q (.ref a) H'
theorem Laid.next {kvs:List (List Key×V)}{z:Str}{hi wi:Int}{rows:List (List V)}{i j:Nat}{row:List V}{v:V}(h:Laid kvs z hi wi rows i j)(hr:rows[i]?=some row)(hv:row[j]?=some v):
    Laid (putK kvs (cK z (hi+i+1) (wi+j+1)) v) z hi wi rows i (j+1):=by
  intro a b row' v' h1 h2 h3
  rw [valV_put]
  by_cases e:cK z (hi+a+1) (wi+b+1)=cK z (hi+i+1) (wi+j+1)
  · rw [if_pos e]
    obtain ⟨e1,e2⟩:=cK_inj e
    have ea:a=i:=by omega
    have eb:b=j:=by omega
    subst ea eb
    rw [hr] at h1;cases h1
    rw [hv] at h2;exact h2
  · rw [if_neg e]
    refine h a b row' v' h1 h2 ?_
    rcases h3 with h3 | ⟨rfl,h3⟩
    · exact .inl h3
    · rcases Nat.lt_succ_iff_lt_or_eq.mp h3 with q | q
      · exact .inr ⟨rfl,q⟩
      · subst q;exact absurd rfl e
theorem Laid.row {kvs:List (List Key×V)}{z:Str}{hi wi:Int}{rows:List (List V)}{i j:Nat}{row:List V}(h:Laid kvs z hi wi rows i j)(hr:rows[i]?=some row)(hj:row.length≤j):Laid kvs z hi wi rows (i+1) 0:=by
  intro a b row' v' h1 h2 h3
  refine h a b row' v' h1 h2 ?_
  rcases h3 with h3 | ⟨_,h3⟩
  · rcases Nat.lt_succ_iff_lt_or_eq.mp h3 with q | q
    · exact .inl q
    · subst q
      rw [hr] at h1;cases h1
      have:=(List.getElem?_eq_some_iff.mp h2).1
      exact .inr ⟨rfl,by omega⟩
  · omega
theorem Else.put {kvs kvs':List (List Key×V)}{z:Str}{r c:Int}{v:V}(h:Else kvs kvs' z):Else kvs (putK kvs' (cK z r c) v) z:=fun key hk=>by
  rw [valV_put,if_neg (fun e=>hk (by rw [e];rfl))]
  exact h key hk
def spPut (K:PySem.W.Frag):Sp:=fun vs H Q _=>∃ (p kn l:Addr) (z:Str) (kvs:List (List Key×V)) (bs:List Addr) (rows:List (List V)) (h w n:Nat) (S:Addr×List Int),vs=[.ref p,.ref kn,.str z,.ref l]∧PenM K S H p n∧n≤9000000∧H kn=some (.dT kvs)∧kvs.length≤800∧H l=some (.lst (bs.map V.ref))∧l≠p∧p∉bs∧LsAt H bs rows∧rows.length=h∧1≤h∧h≤16∧1≤w∧w≤8∧(∀ r∈rows,r.length=w)∧
  ∀ (a:Addr) (lf:Lf) (c d:Cor) (hi wi:Int) (kvs':List (List Key×V)) (H':Hp),H' kn=some (.dT kvs')→kvs'.length≤kvs.length+h*w→Laid kvs' z hi wi rows h 0→Else kvs kvs' z→LfAt H' a lf→lfB lf=some (z,c,d)→c.r=hi+1→c.c=wi+1→d.r=hi+h→d.c=wi+w→0≤hi→hi+h≤16→0≤wi→wi+w≤8→
    PenM K S H' p (n+2)→(∀ b o,b≠p→b≠kn→H b=some o→H' b=some o)→Q (.ref a) H'
theorem PenM.kx {K:PySem.W.Frag}{S:Addr×List Int}{H H':Hp}{p kn:Addr}{k:Nat}{kvs:List (List Key×V)}(h:PenM K S H p k)(hk:H kn=some (.dT kvs))(s:KeepX kn H H'):PenM K S H' p k:=by
  obtain ⟨b,c,r,e,q,z⟩:=h
  refine ⟨b,c,r,s _ _ (ne_of e hk (by intro z;cases z)) e,?_,z⟩
  rcases q with (q | ⟨o,q⟩) | q
  · exact .inl (.inl (s _ _ (ne_of q hk (by intro z;cases z)) q))
  · exact .inl (.inr ⟨o,s _ _ (ne_of q hk (by intro z;cases z)) q⟩)
  · exact .inr q
def spTbd:Sp:=fun vs H Q _=>∃ (l:Addr) (bs:List Addr) (rows:List (List V)),vs=[.ref l]∧H l=some (.lst (bs.map V.ref))∧LsAt H bs rows∧rows.length≤100∧∀ x H',RowsAt H' x rows→Same H H'→Q x H'
inductive Tr where
  | bl (b:Bool) | int (i:Int) | str (z:Str) | tup (ts:List Tr)
inductive TrAt (H:Hp):V→Tr→Nat→Prop where
  | bl (b:Bool) (n:Nat):TrAt H (.bl b) (.bl b) n
  | int (i:Int) (n:Nat):TrAt H (.int i) (.int i) n
  | str (z:Str) (n:Nat):TrAt H (.str z) (.str z) n
  | tup {a:Addr} {us:List V} {ts:List Tr} {n:Nat} (e:H a=some (.tup us)) (hl:us.length≤100) (hn:us.length=ts.length) (hh:∀ (j:Nat) (u:V) (t:Tr),us[j]?=some u→ts[j]?=some t→TrAt H u t n):TrAt H (.ref a) (.tup ts) (n+1)
theorem TrAt.kp {H H':Hp}{v:V}{t:Tr}{n:Nat}(h:TrAt H v t n)(s:Kp H H'):TrAt H' v t n:=by
  induction h with
  | bl b n=>exact .bl b n
  | int i n=>exact .int i n
  | str z n=>exact .str z n
  | tup e hl hn _ ih=>exact .tup (s _ _ e) hl hn ih
theorem TrAt.ofP {H:Hp}{a:Addr}{us:List V}{ts:List Tr}{n:Nat}(e:H a=some (.tup us))(hl:us.length≤100)(p:Paired (fun u t=>TrAt H u t n) us ts):TrAt H (.ref a) (.tup ts) (n+1):=by
  refine .tup e hl (Paired.length p) fun j u t h1 h2=>?_
  obtain ⟨t',h3,h4⟩:=paired_at p h1
  rw [h2] at h3
  rw [Option.some.inj h3]
  exact h4
def trV:Vl→Tr
  | .none=>.tup [.str (Str.ofString "none")]
  | .num t b=>.tup [.str (Str.ofString "number"),.int t,.int b]
  | .txt z=>.tup [.str (Str.ofString "text"),.str z]
  | .tru b=>.tup [.str (Str.ofString "truth"),.bl b]
  | .flt w z r c=>.tup [.str (Str.ofString "fault"),.str w,.tup [.str z,.int r,.int c]]
theorem VvAt.tr {H:Hp}{u:V}{v:Vl}(h:VvAt H u v):TrAt H u (trV v) 2:=by
  obtain ⟨q,rfl,h⟩:=h
  cases v with
  | none=>exact .ofP h (by simp) (.cons (.str _ _) .nil)
  | num t b=>exact .ofP h (by simp) (.cons (.str _ _) (.cons (.int _ _) (.cons (.int _ _) .nil)))
  | txt z=>exact .ofP h (by simp) (.cons (.str _ _) (.cons (.str _ _) .nil))
  | tru b=>exact .ofP h (by simp) (.cons (.str _ _) (.cons (.bl _ _) .nil))
  | flt w z r c=>
    obtain ⟨p,h1,h2⟩:=h
    exact .ofP h1 (by simp) (.cons (.str _ _) (.cons (.str _ _) (.cons (.ofP (n:=0) h2 (by simp) (.cons (.str _ _) (.cons (.int _ _) (.cons (.int _ _) .nil)))) .nil)))
def spTya (n:Nat):Sp:=fun vs H Q _=>∃ (u v:V) (tr:Tr),vs=[u,v]∧TrAt H u tr n∧TrAt H v tr n∧∀ H',Same H H'→Q (.bl true) H'
theorem all_true (n:Nat):(List.replicate n true).all id=true:=by simp
def few (i:Int):Bool:=decide ((if i<0 then -i else i)≤999999999999999999999999999999)
def numV (t b:Int)(h:Hm):Vl:=if (few t&&few b)=true then .num t b else fltK "great" h
def numIn:Vl→Option (Int×Int)
  | .none=>some (0,1)
  | .num t b=>some (t,b)
  | _=>none
def NinAt (H:Hp)(x:V):Option (Int×Int)→Prop
  | some n=>∃ p,x=.ref p∧H p=some (.tup [.int n.1,.int n.2])
  | none=>x=.non
def spFewB:Sp:=fun vs H Q _=>∃ i:Int,vs=[.int i]∧Q (.bl (few i)) H
def spShB:Sp:=fun vs H Q _=>∃ t b:Int,vs=[.int t,.int b]∧Low t b∧Q (.bl (few t&&few b)) H
def ValK (K:PySem.W.Frag)(H:Hp)(u:V)(v:Vl):Prop:=VvAt H u v∨(v=.num 0 1∧∃ q,u=.ref q∧∀ H',SqT K H' q [vS "number",.int 0,.int 1])
def spNin (K:PySem.W.Frag):Sp:=fun vs H Q _=>∃ (u:V) (v:Vl),vs=[u]∧ValK K H u v∧∀ x H',NinAt H' x (numIn v)→Same H H'→Q x H'
def spNvl:Sp:=fun vs H Q _=>∃ (p:Addr) (t b:Int) (y:V) (hm:Hm),vs=[.ref p,y]∧H p=some (.tup [.int t,.int b])∧Low t b∧HmAt H y hm∧∀ x H',VvAt H' x (numV t b hm)→Same H H'→Q x H'
def opN (s:Str)(a b:Int×Int)(h:Hm):Vl:=
  if s=Str.ofString "+" then numV (lowT (a.1*b.2+b.1*a.2) (a.2*b.2)) (lowB (a.1*b.2+b.1*a.2) (a.2*b.2)) h
  else if s=Str.ofString "-" then numV (lowT (a.1*b.2-b.1*a.2) (a.2*b.2)) (lowB (a.1*b.2-b.1*a.2) (a.2*b.2)) h
  else if s=Str.ofString "*" then numV (lowT (a.1*b.1) (a.2*b.2)) (lowB (a.1*b.1) (a.2*b.2)) h
  else if s=Str.ofString "/" then (if b.1=0 then fltK "nought" h else numV (lowT (a.1*b.2) (a.2*b.1)) (lowB (a.1*b.2) (a.2*b.1)) h)
  else .tru (decide (a.1*b.2<b.1*a.2))
def spRnm:Sp:=fun vs H Q _=>∃ (s:Str) (p q:Addr) (a b:Int×Int) (y:V) (hm:Hm),vs=[.str s,.ref p,.ref q,y]∧NumAt H p a.1 a.2 100∧NumAt H q b.1 b.2 100∧HmAt H y hm∧∀ x H',VvAt H' x (opN s a b hm)→Same H H'→Q x H'
def sgn:Vl→Str
  | .txt z=>z
  | v=>vtext v
def SGL:Str:=Str.ofString "abcdefghijklmnopqrstuvwxyz0123456789 "
def txOk (z:Str):Bool:=!decide ((20:Int)<(z.length:Int))&&(z.cps.toList.map fun c=>decide (c∈SGL.cps.toList)).all id
def spIsTB:Sp:=fun vs H Q _=>∃ z:Str,vs=[.str z]∧z.length≤1000∧∀ H',Same H H'→Q (.bl (txOk z)) H'
def spSgn:Sp:=fun vs H Q _=>∃ (u:V) (v:Vl),vs=[u]∧VvAt H u v∧VlOk v∧∀ H',Same H H'→Q (.str (sgn v)) H'
def joinV (a b:Vl)(h:Hm):Vl:=if txOk (sgn a++sgn b)=true then .txt (sgn a++sgn b) else fltK "kind" h
def spJoi:Sp:=fun vs H Q _=>∃ (u v y:V) (a b:Vl) (hm:Hm),vs=[u,v,y]∧VvAt H u a∧VvAt H v b∧VlOk a∧VlOk b∧HmAt H y hm∧∀ x H',VvAt H' x (joinV a b hm)→Same H H'→Q x H'
def txLt (s:Str)(a b:Vl):Option Bool:=if s=Str.ofString "<" then (match a,b with | .txt x,.txt y=>some (decide (x.cps.toList<y.cps.toList)) | _,_=>none) else none
def numOp (s:Str)(a b:Vl)(h:Hm):Vl:=match numIn a,numIn b with
  | some m,some n=>opN s m n h
  | _,_=>fltK "kind" h
def numTx (o:Option Bool)(v:Vl):Vl:=match o with
  | some t=>.tru t
  | none=>v
def opM (s:Str)(a b:Vl)(h:Hm):Vl:=
  if isF a=true then a else if isF b=true then b
  else if s=Str.ofString "=" then .tru (eqVl a b)
  else if s=Str.ofString "&" then joinV a b h
  else numTx (txLt s a b) (numOp s a b h)
def SgIn (K:PySem.W.Frag)(s:Str)(hm:Hm)(H:Hp)(u v:V)(r:Vl):Prop:=(∃ a b,VvAt H u a∧VvAt H v b∧VlOk a∧VlOk b∧r=opM s a b hm)∨
  (s=Str.ofString "-"∧(∃ q,u=.ref q∧∀ H',SqT K H' q [vS "number",.int 0,.int 1])∧∃ b,VvAt H v b∧VlOk b∧r=opM s (.num 0 1) b hm)
theorem SgIn.kp {K:PySem.W.Frag}{s:Str}{hm:Hm}{H H':Hp}{u v:V}{r:Vl}(h:SgIn K s hm H u v r)(k:Kp H H'):SgIn K s hm H' u v r:=by
  rcases h with ⟨a,b,x,y,z⟩ | ⟨e,c,b,y,z⟩
  · exact .inl ⟨a,b,x.kp k,y.kp k,z⟩
  · exact .inr ⟨e,c,b,y.kp k,z⟩
def spSg2 (K:PySem.W.Frag):Sp:=fun vs H Q _=>∃ (s:Str) (u v y:V) (r:Vl) (hm:Hm),vs=[.str s,u,v,y]∧SgIn K s hm H u v r∧HmAt H y hm∧∀ x H',VvAt H' x r→Same H H'→Q x H'
def spSig:Sp:=fun vs H Q _=>∃ (s:Str) (u v y:V) (a b:Vl) (hm:Hm),vs=[.str s,u,v,y]∧VvAt H u a∧VvAt H v b∧VlOk a∧VlOk b∧HmAt H y hm∧∀ x H',VvAt H' x (opM s a b hm)→Same H H'→Q x H'
abbrev Sh:=Option (Int×Int)
abbrev prV (p:Int×Int):List V:=[.int p.1,.int p.2]
def ShAt (K:PySem.W.Frag)(H:Hp)(v:V):Sh→Prop
  | none=>v=.non
  | some p=>∃ a,v=.ref a∧SqT K H a (prV p)
abbrev ShsAt (K:PySem.W.Frag)(H:Hp)(vs:List V)(ss:List Sh):Prop:=Paired (ShAt K H) vs ss
theorem ShAt.same {K:PySem.W.Frag}{H H':Hp}{v:V}{s:Sh}(h:ShAt K H v s)(q:Same H H'):ShAt K H' v s:=by
  cases s with
  | none=>exact h
  | some p=>obtain ⟨a,e,h⟩:=h;exact ⟨a,e,SqT.sm h q⟩
theorem ShsAt.same {K:PySem.W.Frag}{H H':Hp}{vs:List V}{ss:List Sh}(h:ShsAt K H vs ss)(q:Same H H'):ShsAt K H' vs ss:=Paired.imp' (fun _ _ x=>ShAt.same x q) h
def fit (a b:Int×Int):Sh:=if a=b then some a else if b=(1,1) then some a else if a=(1,1) then some b else none
theorem eqP2 (p q:Int×Int):(if false=true then !eqVs (prV p) (prV q) else eqVs (prV p) (prV q))=decide (p=q):=by
  obtain ⟨a,b⟩:=p
  obtain ⟨c,d⟩:=q
  have e:∀ x y:Int,(x==y)=decide (x=y):=fun _ _=>rfl
  simp [eqVs,eqV,prV,e]
def spFit (K:PySem.W.Frag):Sp:=fun vs H Q _=>∃ (u v:V) (a b:Int×Int),vs=[u,v]∧ShAt K H u (some a)∧ShAt K H v (some b)∧∀ r H',ShAt K H' r (fit a b)→Same H H'→Q r H'
def hdV (m:List (List V)):V:=(m.headD []).headD .non
theorem RowsAt.row0 {H:Hp}{u:V}{rows:List (List V)}{w:Nat}(h:RowsAt H u rows)(rc:Rect rows w):∃ b us b0 rt,u=.ref b∧H b=some (.tup (.ref b0::us))∧us.length+1=rows.length∧H b0=some (.tup (hdV rows::rt))∧rt.length+1=w:=by
  obtain ⟨b,us,rfl,hb,pr⟩:=h
  obtain ⟨m0,mt,rfl⟩:∃ a t,rows=a::t:=by
    cases rows with
    | nil=>exact absurd rfl rc.ne
    | cons a t=>exact ⟨a,t,rfl⟩
  have l1:=Paired.length pr
  have w1:=rc.w1
  have l0:=rc.row m0 List.mem_cons_self
  obtain ⟨y0,yt,rfl⟩:=cons_of (l:=m0) (by omega)
  cases pr with
  | cons p0 pt=>
    obtain ⟨b0,rfl,hb0⟩:=p0
    exact ⟨b,_,b0,yt,rfl,hb,by simpa using l1,hb0,by simpa using l0⟩
def fillM {α:Type}(h w:Nat)(v:α):List (List α):=List.replicate h (List.replicate w v)
theorem rep_paired {α β:Type}{F:α→β→Prop}{x:α}{y:β}(h:F x y):∀ n:Nat,Paired F (List.replicate n x) (List.replicate n y)
  | 0=>.nil
  | n+1=>.cons h (rep_paired h n)
def spTsh:Sp:=fun vs H Q _=>∃ (x:V) (m:List (List V)) (w:Nat),vs=[x]∧RowsAt H x m∧Rect m w∧∀ r,H r=none→Q (.ref r) (upd H r (.tup [.int m.length,.int w]))
def spFil (K:PySem.W.Frag):Sp:=fun vs H Q _=>∃ (p u:V) (h w:Nat),vs=[p,u]∧ShAt K H p (some (h,w))∧1≤h∧h≤1000∧1≤w∧w≤1000∧∀ x H',RowsAt H' x (fillM h w u)→Same H H'→Q x H'
def sprd (m:List (List V))(w h2 w2:Nat):List (List V):=if (m.length,w)=(1,1) then fillM h2 w2 (hdV m) else m
def spSpr (K:PySem.W.Frag):Sp:=fun vs H Q _=>∃ (x p:V) (m:List (List V)) (w h2 w2:Nat),vs=[x,p]∧RowsAt H x m∧Rect m w∧ShAt K H p (some (h2,w2))∧1≤h2∧h2≤1000∧1≤w2∧w2≤1000∧∀ y H',RowsAt H' y (sprd m w h2 w2)→Same H H'→Q y H'
def spVin:Sp:=fun vs H Q _=>∃ (x:V) (m:List (List V)) (w:Nat),vs=[x]∧RowsAt H x m∧Rect m w∧w≤30∧m.length≤30∧∀ l H',H l=none→H' l=some (.lst m.flatten)→Same H H'→Q (.ref l) H'
def spSgt (K:PySem.W.Frag):Sp:=fun vs H Q _=>∃ (s:Str) (x y z:V) (m n:List (List V)) (w1 w2 h w:Nat) (hm:Hm) (rs:List Vl),vs=[.str s,x,y,z]∧RowsAt H x m∧RowsAt H y n∧Rect m w1∧Rect n w2∧
  fit ((m.length:Int),(w1:Int)) ((n.length:Int),(w2:Int))=some ((h:Int),(w:Int))∧(sprd m w1 h w).length=h∧Rect (sprd m w1 h w) w∧(sprd n w2 h w).length=h∧Rect (sprd n w2 h w) w∧1≤h∧h≤30∧1≤w∧w≤30∧HmAt H z hm∧rs.length=h*w∧
  (∀ (i:Nat) (u v:V) (r:Vl),(sprd m w1 h w).flatten[i]?=some u→(sprd n w2 h w).flatten[i]?=some v→rs[i]?=some r→SgIn K s hm H u v r)∧∀ u H',TbAt H' u (chunk rs w h)→Same H H'→Q u H'
def spIbd:Sp:=fun vs H Q _=>∃ (q:Addr) (t b:Int) (y:V) (hm:Hm),vs=[.ref q,y]∧H q=some (.tup [vS "number",.int t,.int b])∧Low t b∧HmAt H y hm∧∀ x H',VvAt H' x (numV t b hm)→Same H H'→Q x H'
def spPls:Sp:=fun vs H Q _=>∃ (u:V) (v:Vl),vs=[u]∧VvAt H u v∧VlOk v∧isF v=false∧∀ H',Same H H'→Q (.str (sgn v)) H'
def S5:List Str:=["+","-","*","/","<"].map Str.ofString
def spOfn:Sp:=fun vs H Q _=>∃ (sg:Str) (u v y:V) (a b:Vl) (hm:Hm),vs=[.str sg,u,v,y]∧sg∈S5∧VvAt H u a∧VvAt H v b∧VlOk a∧VlOk b∧HmAt H y hm∧∀ x H',VvAt H' x (numOp sg a b hm)→Same H H'→Q x H'
def PrsAt (H:Hp)(us:List V)(ns:List (Int×Int)):Prop:=Paired (fun u (n:Int×Int)=>∃ p,u=.ref p∧H p=some (.tup [.int n.1,.int n.2])) us ns
theorem PrsAt.kp {H H':Hp}{us:List V}{ns:List (Int×Int)}(h:PrsAt H us ns)(s:Kp H H'):PrsAt H' us ns:=Paired.imp' (fun _ _ ⟨p,e,x⟩=>⟨p,e,s _ _ x⟩) h
def rNinS:R2:=fun x y H Q=>∃ i j,x=.str i∧y=.str j∧Q (.bl (!(!(Builtin.Str.occurrences j i 0 j.length 1).isEmpty))) H
def S7:List Str:=["+","-","*","/","<","=","&"].map Str.ofString
def spOft:Sp:=fun vs H Q _=>∃ (s:Str) (u v y:V) (a b:Vl) (hm:Hm),vs=[.str s,u,v,y]∧s∈S7∧VvAt H u a∧VvAt H v b∧VlOk a∧VlOk b∧HmAt H y hm∧∀ x H',VvAt H' x (opM s a b hm)→Same H H'→Q x H'
def oddS (z:List Nat):List V:=(z.filter fun c=>!decide (c∈SGL.cps.toList)).map fun c=>V.str ⟨#[c]⟩
def cy {α:Type}(d:α)(m:List (List α))(j k:Nat):α:=(m.getD (j%m.length) []).getD (k%(m.headD []).length) d
def tabC {α:Type}(f:Nat→Nat→α)(h w:Nat):List (List α):=(List.range h).map fun j=>(List.range w).map (f j)
abbrev wd {α:Type}(m:List (List α)):Nat:=(m.headD []).length
theorem tabC_len {α:Type}{f:Nat→Nat→α}{h w:Nat}:(tabC f h w).length=h:=by unfold tabC;rw [List.length_map,List.length_range]
theorem tabC_rect {α:Type}{f:Nat→Nat→α}{h w:Nat}(h1:1≤h)(w1:1≤w):Rect (tabC f h w) w:=by
  refine ⟨fun z=>?_,w1,fun r hr=>?_⟩
  · have:=congrArg List.length z
    rw [tabC_len] at this
    simp at this;omega
  · obtain ⟨j,_,rfl⟩:=List.mem_map.mp hr
    rw [List.length_map,List.length_range]
theorem tabC_get {α:Type}{f:Nat→Nat→α}{h w j:Nat}(hj:j<h):(tabC f h w)[j]?=some ((List.range w).map (f j)):=by
  unfold tabC;rw [List.getElem?_map,List.getElem?_range hj];rfl
theorem Rect.wd {α:Type}{m:List (List α)}{w:Nat}(h:Rect m w):(m.headD []).length=w:=by
  cases m with
  | nil=>exact absurd rfl h.ne
  | cons a t=>exact h.row a List.mem_cons_self
theorem Rect.len {α:Type}{m:List (List α)}{w:Nat}(h:Rect m w):1≤m.length:=by
  cases m with
  | nil=>exact absurd rfl h.ne
  | cons a t=>simp
theorem tab_self {α:Type}(d:α){m:List (List α)}{w:Nat}(rc:Rect m w):tabC (cy d m) m.length w=m:=by
  refine List.ext_getElem? fun j=>?_
  by_cases hj:j<m.length
  · rw [tabC_get hj,List.getElem?_eq_getElem hj]
    refine congrArg some (List.ext_getElem? fun k=>?_)
    have lm:=rc.row _ (List.getElem_mem hj)
    by_cases hk:k<w
    · rw [List.getElem?_map,List.getElem?_range hk,List.getElem?_eq_getElem (by omega)]
      refine congrArg some ?_
      show (m.getD (j%m.length) []).getD (k%(m.headD []).length) d=_
      rw [rc.wd,Nat.mod_eq_of_lt hj,Nat.mod_eq_of_lt hk,List.getD_eq_getElem?_getD,List.getD_eq_getElem?_getD,List.getElem?_eq_getElem hj,Option.getD_some,List.getElem?_eq_getElem (by omega),Option.getD_some]
    · rw [List.getElem?_eq_none (by rw [List.length_map,List.length_range];omega),List.getElem?_eq_none (by omega)]
  · rw [List.getElem?_eq_none (by rw [tabC_len];omega),List.getElem?_eq_none (by omega)]
theorem tab_fill {α:Type}(f:Nat→Nat→α)(x:α)(h w:Nat)(e:∀ j k,f j k=x):tabC f h w=fillM h w x:=by
  unfold tabC fillM
  rw [show (fun j=>(List.range w).map (f j))=fun _=>List.replicate w x from funext fun j=>by
    rw [show f j=fun _=>x from funext (e j),List.map_const',List.length_range],List.map_const',List.length_range]
theorem sprd_cy {m:List (List V)}{w h2 w2:Nat}(rc:Rect m w)(c:(m.length=h2∧w=w2)∨(m.length=1∧w=1)):sprd m w h2 w2=tabC (cy .non m) h2 w2:=by
  by_cases e:(m.length,w)=(1,1)
  · unfold sprd
    rw [if_pos e]
    have e1:m.length=1:=congrArg Prod.fst e
    have e2:w=1:=congrArg Prod.snd e
    refine (tab_fill _ _ _ _ fun j k=>?_).symm
    show (m.getD (j%m.length) []).getD (k%(m.headD []).length) .non=(m.headD []).headD .non
    rw [rc.wd,e1,e2,Nat.mod_one,Nat.mod_one]
    cases m with
    | nil=>rfl
    | cons a t=>cases a <;> rfl
  · unfold sprd
    rw [if_neg e]
    rcases c with ⟨rfl,rfl⟩ | ⟨c1,c2⟩
    · exact (tab_self _ rc).symm
    · exact absurd (by rw [c1,c2]) e
theorem cy_paired {α β:Type}{F:α→β→Prop}{d:α}{d':β}{m:List (List α)}{n:List (List β)}{w:Nat}(p:Paired (Paired F) m n)(rc:Rect n w)(j k:Nat):F (cy d m j k) (cy d' n j k):=by
  have l1:=Paired.length p
  have hn:=rc.len
  have hj:j%n.length<n.length:=Nat.mod_lt _ (by omega)
  obtain ⟨r,hr,pr⟩:=pair_get p (List.getElem?_eq_getElem hj)
  have lw:=rc.row _ (List.getElem_mem hj)
  have w1:=rc.w1
  have hk:k%w<(n[j%n.length]).length:=by rw [lw];exact Nat.mod_lt _ (by omega)
  obtain ⟨x,hx,fx⟩:=pair_get pr (List.getElem?_eq_getElem hk)
  have wm:(m.headD []).length=w:=by
    rw [← rc.wd]
    cases p with
    | nil=>exact absurd rfl rc.ne
    | cons a _=>exact Paired.length a
  unfold cy
  rw [l1,wm,rc.wd,List.getD_eq_getElem?_getD (l:=m),hr,Option.getD_some,List.getD_eq_getElem?_getD (l:=r),hx,Option.getD_some,List.getD_eq_getElem?_getD (l:=n),List.getElem?_eq_getElem hj,Option.getD_some,List.getD_eq_getElem?_getD,List.getElem?_eq_getElem hk,Option.getD_some]
  exact fx
theorem paired_rect {α β:Type}{F:α→β→Prop}{m:List (List α)}{n:List (List β)}{w:Nat}(p:Paired (Paired F) m n)(rc:Rect n w):Rect m w:=by
  refine ⟨fun z=>?_,rc.w1,fun r hr=>?_⟩
  · have:=Paired.length p
    have:=rc.len
    rw [z] at *;simp at *;omega
  · obtain ⟨j,hj⟩:=List.getElem?_of_mem hr
    obtain ⟨mr,hmr,pv⟩:=paired_at p hj
    rw [Paired.length pv];exact rc.row mr (List.mem_of_getElem? hmr)
def fits {α β:Type}(m:List (List α))(n:List (List β)):Prop:=(m.length=n.length∧wd m=wd n)∨(n.length=1∧wd n=1)∨(m.length=1∧wd m=1)
def opT (s:Str)(m n:List (List Vl))(hm:Hm):List (List Vl):=tabC (fun j k=>opM s (cy .none m j k) (cy .none n j k) hm) (max m.length n.length) (max (wd m) (wd n))
def okl2 (dom:Str→Int→Int→Prop)(g:Str→Int→Int→Vl)(l:Lf):Prop:=(∃ z c d,LfGood dom l z c d)∧∀ r∈lfT g l,∀ v∈r,VlOk v
theorem cy_ok {m:List (List Vl)}{w:Nat}(rc:Rect m w)(h:∀ r∈m,∀ v∈r,VlOk v)(j k:Nat):VlOk (cy .none m j k):=by
  have hn:=rc.len
  have w1:=rc.w1
  have hj:j%m.length<m.length:=Nat.mod_lt _ (by omega)
  have lw:=rc.row _ (List.getElem_mem hj)
  have hk:k%w<(m[j%m.length]).length:=by rw [lw];exact Nat.mod_lt _ (by omega)
  unfold cy
  rw [rc.wd,List.getD_eq_getElem?_getD,List.getD_eq_getElem?_getD,List.getElem?_eq_getElem hj,Option.getD_some,List.getElem?_eq_getElem hk,Option.getD_some]
  exact h _ (List.getElem_mem hj) _ (List.getElem_mem hk)
theorem mk1 {H:Hp}{a t:Addr}{kd:Kd}{u:V}{f:Fm}(h:H a=some (.tup (layV t kd [u])))(no:isOwn kd=false)(x:FmAt H u f):FmAt H (.ref a) (.nd kd [f]):=
  .nd h (fun z=>by rw [no] at z;cases z) rfl fun j u' f' e1 e2=>by
    match j with
    | 0=>cases e1;cases e2;exact x
    | n+1=>simp at e1
theorem mk3 {H:Hp}{a t:Addr}{kd:Kd}{u v w:V}{f g k:Fm}(h:H a=some (.tup (layV t kd [u,v,w])))(no:isOwn kd=false)(x:FmAt H u f)(y:FmAt H v g)(z:FmAt H w k):FmAt H (.ref a) (.nd kd [f,g,k]):=
  .nd h (fun z=>by rw [no] at z;cases z) rfl fun j u' f' e1 e2=>by
    match j with
    | 0=>cases e1;cases e2;exact x
    | 1=>cases e1;cases e2;exact y
    | 2=>cases e1;cases e2;exact z
    | n+3=>simp at e1
structure D3 (H:Hp)(p:Addr)(l:Addr)(bs:List Addr)(rows:List (List V))(h w:Nat):Prop where
  ob:H l=some (.lst (bs.map V.ref))
  lp:l≠p
  np:p∉bs
  ls:LsAt H bs rows
  len:rows.length=h
  h1:1≤h
  h16:h≤16
  w1:1≤w
  w8:w≤8
  row:∀ r∈rows,r.length=w
def Keep2 (p q:Addr)(H H':Hp):Prop:=∀ b o,b≠p→b≠q→H b=some o→H' b=some o
theorem Keep2.of {p q:Addr}{H H':Hp}(s:Same H H'):Keep2 p q H H':=fun b o _ _ e=>s b o e
theorem Keep2.trans {p q:Addr}{H H1 H2:Hp}(a:Keep2 p q H H1)(b:Keep2 p q H1 H2):Keep2 p q H H2:=fun c o h1 h2 e=>b c o h1 h2 (a c o h1 h2 e)
theorem Keep2.kp {p q:Addr}{H H':Hp}{vs:List V}{kvs:List (List Key×V)}(s:Keep2 p q H H')(hp:H p=some (.lst vs))(hq:H q=some (.dT kvs)):Kp H H':=fun a xs e=>s a _ (ne_of e hp (by intro z;cases z)) (ne_of e hq (by intro z;cases z)) e
theorem D3.k2 {H H':Hp}{p q l:Addr}{bs:List Addr}{rows:List (List V)}{h w:Nat}{kvs:List (List Key×V)}(x:D3 H p l bs rows h w)(s:Keep2 p q H H')(hq:H q=some (.dT kvs)):D3 H' p l bs rows h w:=
  ⟨s _ _ x.lp (ne_of x.ob hq (by intro z;cases z)) x.ob,x.lp,x.np,pmem x.ls fun b row hb e=>s _ _ (fun z=>x.np (z▸hb)) (ne_of e hq (by intro z;cases z)) e,x.len,x.h1,x.h16,x.w1,x.w8,x.row⟩
def LayAt (H:Hp)(kvs:List (List Key×V))(z:Str)(rows:List (List V))(h w:Nat)(u:V):Prop:=∃ (a:Addr) (lf:Lf) (c d:Cor) (hi wi:Int),u=.ref a∧LfAt H a lf∧lfB lf=some (z,c,d)∧c.r=hi+1∧c.c=wi+1∧d.r=hi+h∧d.c=wi+w∧0≤hi∧hi+h≤16∧0≤wi∧wi+w≤8∧Laid kvs z hi wi rows h 0
theorem Laid.els {kvs kvs':List (List Key×V)}{z z':Str}{hi wi:Int}{rows:List (List V)}{i j:Nat}(h:Laid kvs z hi wi rows i j)(e:Else kvs kvs' z')(n:z≠z'):Laid kvs' z hi wi rows i j:=fun a b row v h1 h2 h3=>by
  rw [e _ (fun q=>n (by injection q with q;injection q))]
  exact h a b row v h1 h2 h3
theorem LayAt.step {H H':Hp}{kvs kvs':List (List Key×V)}{z z':Str}{rows:List (List V)}{h w:Nat}{u:V}(x:LayAt H kvs z rows h w u)(kp:Kp H H')(e:Else kvs kvs' z')(n:z≠z'):LayAt H' kvs' z rows h w u:=by
  obtain ⟨a,lf,c,d,hi,wi,h1,h2,h3,h4,h5,h6,h7,h8,h9,h10,h11,h12⟩:=x
  exact ⟨a,lf,c,d,hi,wi,h1,LfAt.kp h2 kp,h3,h4,h5,h6,h7,h8,h9,h10,h11,h12.els e n⟩
theorem LayAt.kp {H H':Hp}{kvs:List (List Key×V)}{z:Str}{rows:List (List V)}{h w:Nat}{u:V}(x:LayAt H kvs z rows h w u)(kp:Kp H H'):LayAt H' kvs z rows h w u:=by
  obtain ⟨a,lf,c,d,hi,wi,h1,h2,r⟩:=x
  exact ⟨a,lf,c,d,hi,wi,h1,LfAt.kp h2 kp,r⟩
structure Dt where
  z:Str
  l:Addr
  bs:List Addr
  rows:List (List V)
  h:Nat
  w:Nat
def SmF (H H':Hp):Prop:=∀ b o,H b=some o→dat o=false→H' b=some o
theorem tab_smf {H H':Hp}{P:Addr}{q:Str}(x:TabAt H P q)(s:SmF H H'):TabAt H' P q:=by
  obtain ⟨ps,e,t,k⟩:=x
  refine ⟨ps,s _ _ e rfl,t,fun pos cv z=>?_⟩
  obtain ⟨c,e1,e2⟩:=k pos cv z
  exact ⟨c,e1,e2.keep fun b o h=>s b _ h rfl⟩
theorem SmF.kx {H H':Hp}{p:Addr}{vs:List V}(hp:H p=some (.lst vs))(s:KeepX p H H'):SmF H H':=fun b o e d=>s b o (fun z=>by subst z;rw [hp] at e;cases e;cases d) e
def qL:Str:=Str.ofString "law"++Str.ofString ".<locals>."++Str.ofString "<lambda>"
structure Env8 (K:PySem.W.Frag)(S:Addr×List Int)(PR PL:Addr)(H:Hp)(p:Addr)(n:Nat):Prop where
  pen:PenM K S H p n
  tR:TabAt H PR qR
  tL:TabAt H PL qL
section
variable {K:PySem.W.Frag}{S:Addr×List Int}{PR PL p:Addr}{H H':Hp}{n n':Nat}
theorem Env8.kx (h:Env8 K S PR PL H p n)(pen:PenM K S H' p n')(kp:KeepX p H H'):Env8 K S PR PL H' p n':=by
  obtain ⟨_,e⟩:=h.pen.ob
  exact ⟨pen,tab_smf h.tR (SmF.kx e kp),tab_smf h.tL (SmF.kx e kp)⟩
theorem Env8.same (h:Env8 K S PR PL H p n)(s:Same H H'):Env8 K S PR PL H' p n:=⟨h.pen.same s,h.tR.sm s,h.tL.sm s⟩
theorem Env8.mono (h:Env8 K S PR PL H p n)(s:n≤n'):Env8 K S PR PL H p n':=⟨h.pen.mono s,h.tR,h.tL⟩
theorem Env8.row {b q:Addr}{r:List V}{o:HO}(h:Env8 K S PR PL H p n)(hb:H b=some (.lst (.ref q::r)))(ne:b≠p):Env8 K S PR PL (upd H b o) p n:=by
  obtain ⟨⟨x,c,r',e,sq,z⟩,t1,t2⟩:=h
  exact ⟨⟨x,c,r',by rw [upd_ne (Ne.symm ne)];exact e,SqL.kl sq hb KeepX.upd,z⟩,tab_smf t1 (SmF.kx hb KeepX.upd),tab_smf t2 (SmF.kx hb KeepX.upd)⟩
end
theorem iteJ {b:Bool}{t:TS}{D:Ends}{σ:St}{H:Hp}(J:St→Hp→Prop)(c:¬ b=true→J σ H)(a:b=true→(∀ σ' H',J σ' H'→D.nx σ' H')→t D σ H)(rest:∀ σ' H',J σ' H'→D.nx σ' H'):if b=true then t D σ H else D.nx σ H:=
  ite2 (fun h=>a h rest) fun h=>rest _ _ (c h)
theorem keep_put {q:Str}{P:Addr}{H H':Hp}(h:KeepX P (L2.del q H) H'):KeepX P H (L2.put q H H'):=fun b o hb e=>by
  cases w:kn q (H b) with
  | none=>rw [put_out w];exact h b o hb (by rw [del_out w];exact e)
  | some u=>
    rw [put_in w]
    rw [kn_some w] at e
    exact e
theorem tab_kx {H H':Hp}{P P':Addr}{q:Str}{ps:Array Value}(x:TabAt H P q)(ne:P≠P')(hp:H P'=some (.tbl ps))(s:KeepX P' H H'):TabAt H' P q:=by
  obtain ⟨ps',e,t,k⟩:=x
  refine ⟨ps',s _ _ ne e,t,fun pos cv z=>?_⟩
  obtain ⟨c,e1,e2⟩:=k pos cv z
  exact ⟨c,e1,e2.keep fun b o h=>s _ _ (ne_of h hp (by intro z;cases z)) h⟩
theorem tab_del {H:Hp}{P:Addr}{q q':Str}(x:TabAt H P q)(n:(q==q')=false):TabAt (L2.del q' H) P q:=by
  obtain ⟨ps',e,t,k⟩:=x
  refine ⟨ps',del_of e rfl,t,fun pos cv z=>?_⟩
  obtain ⟨c,e1,o,vs,tk,e2,d,w⟩:=k pos cv z
  exact ⟨c,e1,o,vs,tk,by rw [del_out (kn_not e2 ((own_code d w).trans n))];exact e2,d,w⟩
theorem tab_back {H H':Hp}{P:Addr}{q q':Str}(x:TabAt H' P q)(n:∀ b o,kn q' (H b)=some o→H' b=none):TabAt (L2.put q' H H') P q:=by
  have po:∀ b o,H' b=some o→L2.put q' H H' b=some o:=fun b o e=>by
    cases w:kn q' (H b) with
    | none=>rw [put_out w];exact e
    | some u=>rw [n b u w] at e;cases e
  exact x.sm po
theorem qRL:(qR==qL)=false:=by decide +kernel
def DpF (kn:Addr)(dom:Str→Int→Int→Prop)(g:Str→Int→Int→Vl)(H:Hp):Prop:=∃ kvs,H kn=some (.dT kvs)∧∀ z r c,dom z r c→∃ x,valV kvs (cK z r c)=some x∧VvAt H x (g z r c)
theorem DpF.smd {kn:Addr}{dom:Str→Int→Int→Prop}{g:Str→Int→Int→Vl}{H H':Hp}(s:SmD H H')(h:DpF kn dom g H):DpF kn dom g H':=by
  obtain ⟨kvs,e,k⟩:=h
  refine ⟨kvs,s _ _ e rfl,fun z r c d=>?_⟩
  obtain ⟨x,h1,h2⟩:=k z r c d
  exact ⟨x,h1,h2.kp s.kp⟩
theorem lf_good {dom:Str→Int→Int→Prop}{lf:Lf}{z:Str}{c d:Cor}{hi wi:Int}{h w:Nat}(b:lfB lf=some (z,c,d))(nm:Nm z)(k7:c.r=hi+1)(k8:c.c=wi+1)(k9:d.r=hi+h)(k10:d.c=wi+w)(k11:0≤hi)(k12:hi+h≤16)(k13:0≤wi)(k14:wi+w≤8)(h1:1≤h)(w1:1≤w)
    (dm:∀ i j:Int,hi+1≤i→i≤hi+h→wi+1≤j→j≤wi+w→dom z i j):LfGood dom lf z c d:=
  ⟨b,nm,by omega,by omega,by omega,by omega,by omega,by omega,fun i j x1 x2 x3 x4=>dm i j (by omega) (by omega) (by omega) (by omega)⟩
theorem lf_sem {g:Str→Int→Int→Vl}{lf:Lf}{z:Str}{c d:Cor}{hi wi:Int}{h w:Nat}(b:lfB lf=some (z,c,d))(k7:c.r=hi+1)(k8:c.c=wi+1)(k9:d.r=hi+h)(k10:d.c=wi+w):lfT g lf=blk g z (hi+1) (wi+1) h w:=by
  unfold lfT
  rw [b]
  dsimp only
  rw [k7,k8,k9,k10,show (hi+h-(hi+1)+1).toNat=h by omega,show (wi+w-(wi+1)+1).toNat=w by omega]
theorem lf_ok {dom:Str→Int→Int→Prop}{lf:Lf}{z:Str}{c d:Cor}(h:LfGood dom lf z c d):LfOk 0 lf:=by
  have g1:=h.r0;have g2:=h.r1;have g3:=h.r16;have g4:=h.c0;have g5:=h.c1;have g6:=h.c8;have nm:=h.nm;have b:=h.b
  cases lf with
  | cell s c'=>
    cases s with
    | none=>cases b
    | some z'=>cases b;exact ⟨nm,⟨g1,by omega,g4,by omega⟩⟩
  | rng s c' d'=>
    cases s with
    | none=>cases b
    | some z'=>cases b;exact ⟨nm,⟨g1,by omega,g4,by omega⟩,⟨by omega,g3,by omega,g6⟩,g2,g5⟩
  | val v=>cases b
  | cols s i x j y=>cases b
  | gone=>cases b
  | nam z=>cases b
  | par i=>cases b
  | flt=>cases b
structure StOk (L:Addr)(St:Hp→List Vl→Prop):Prop where
  st:∀ H H' acc,(∀ o,H L=some o→H' L=some o)→Kp H H'→St H acc→St H' acc
  ob:∀ H acc,St H acc→∃ us,H L=some (.lst us)
def DpOk (L:Addr)(Dp:Hp→Prop):Prop:=∀ H H',(∀ b o,b≠L→H b=some o→dat o=true→H' b=some o)→Kp H H'→Dp H→Dp H'
section
variable {L:Addr}{St:Hp→List Vl→Prop}{Dp:Hp→Prop}{H H':Hp}{acc:List Vl}
theorem StOk.same (x:StOk L St)(s:Same H H')(h:St H acc):St H' acc:=x.st _ _ _ (fun o e=>s _ _ e) (Kp.same s) h
theorem StOk.smd (x:StOk L St)(s:SmD H H')(h:St H acc):St H' acc:=by
  obtain ⟨us,e⟩:=x.ob _ _ h
  exact x.st _ _ _ (fun o e'=>by rw [e] at e';cases e';exact s _ _ e rfl) s.kp h
theorem StOk.kp (x:StOk L St)(h:St H acc)(s:KeepX L H H'):Kp H H':=let ⟨_,e⟩:=x.ob _ _ h;Kp.lst e s
theorem StOk.ne (x:StOk L St)(h:St H acc){D:Addr}(hD:H D=none):D≠L:=fun z=>by
  obtain ⟨us,e⟩:=x.ob _ _ h
  rw [← z,hD] at e;cases e
theorem StOk.up (x:StOk L St){D:Addr}{us vs:List V}(hD:D≠L)(e:H D=some (.lst us))(h:St H acc):St (upd H D (.lst vs)) acc:=x.st _ _ _ (fun o e'=>by rw [upd_ne (Ne.symm hD)];exact e') (kp_upd e) h
theorem DpOk.smd (x:DpOk L Dp)(s:SmD H H')(h:Dp H):Dp H':=x _ _ (fun b o _ e d=>s b o e d) s.kp h
theorem DpOk.kx (x:DpOk L Dp)(k:Kp H H')(s:KeepX L H H')(h:Dp H):Dp H':=x _ _ (fun b o hb e _=>s b o hb e) k h
end
def spTellE {B:Type}(L:Addr)(At:Hp→V→B→Prop)(sem:Fm→B)(lg:Fm→List Vl)(ok:Fm→Prop)(Dp:Hp→Prop)(St:Hp→List Vl→Prop):Sp:=fun vs H Q _=>∃ (v:V) (f:Fm) (l:Addr) (us:List V) (n:Nat) (acc:List Vl),vs=[v,.ref l]∧FmAt H v f∧FO 0 n f∧ok f∧Dp H∧St H acc∧(acc++lg f).length≤1000∧H l=some (.lst us)∧Paired (At H) us ((prtF f).map sem)∧∀ x H',At H' x (sem f)→KeepX L H H'→St H' (acc++lg f)→Q x H'
def spToldE {B:Type}(L f0:Addr)(At:Hp→V→B→Prop)(sem:Fm→B)(lg:Fm→List Vl)(ok:Fm→Prop)(Dp:Hp→Prop)(St:Hp→List Vl→Prop):Sp:=fun vs H Q _=>∃ (l:Addr) (f:Fm) (ws:List V) (n:Nat) (acc:List Vl),vs=[.ref l,.ref f0]∧H l=some (.lst ws)∧l≠L∧FmsAt H ws (alF f)∧FO 0 n f∧n≤8∧(∀ g∈alF f,ok g)∧Dp H∧St H acc∧(acc++(alF f).flatMap lg).length≤1000∧∀ x H',At H' x (sem f)→KeepX L H H'→St H' (acc++(alF f).flatMap lg)→Q x H'
theorem fmap_take {α β:Type}{f:α→List β}{l:List α}{i:Nat}{x:α}(h:l[i]?=some x):(l.take (i+1)).flatMap f=(l.take i).flatMap f++f x:=by rw [List.take_add_one,h,List.flatMap_append];simp
theorem fmap_len {α β:Type}(f:α→List β)(l:List α)(i:Nat)(a:List β):(a++(l.take i).flatMap f).length≤(a++l.flatMap f).length:=by
  have h:l.flatMap f=(l.take i).flatMap f++(l.drop i).flatMap f:=by rw [← List.flatMap_append,List.take_append_drop]
  rw [h]
  simp only [List.length_append]
  omega
def spRckE (Pr L f o:Addr)(Dp:Hp→Prop)(St:Hp→List Vl→Prop)(sem:Hm→Fm→List (List Vl))(lg:Hm→Fm→List Vl)(ok:Hm→Fm→Prop):Sp:=fun vs H Q _=>∃ (v y:V) (fm:Fm) (n:Nat) (hm:Hm) (acc:List Vl),vs=[v,y,.ref f,.ref o]∧FmAt H v fm∧FO 0 n fm∧n≤8∧(∀ x∈alF fm,ok hm x)∧Dp H∧St H acc∧(acc++(alF fm).flatMap (lg hm)).length≤1000∧HmAt H y hm∧TabAt H Pr qR∧
  ∀ x H',TbAt H' x (sem hm fm)→(∀ b o',b≠Pr→b≠L→H b=some o'→H' b=some o')→TabAt H' Pr qR→St H' (acc++(alF fm).flatMap (lg hm))→Q x H'
def spTbE (L f o:Addr)(Dp:Hp→Prop)(St:Hp→List Vl→Prop)(sem:Fm→List (List Vl))(lg:Fm→List Vl)(ok:Fm→Prop)(hm:Hm):Sp:=fun vs H Q _=>∃ (v y:V) (fm:Fm) (l:Addr) (us:List V) (n:Nat) (acc:List Vl),vs=[v,.ref l,y,.ref f,.ref o]∧FmAt H v fm∧FO 0 n fm∧ok fm∧Dp H∧St H acc∧(acc++lg fm).length≤1000∧H l=some (.lst us)∧Paired (TbAt H) us ((prtF fm).map sem)∧HmAt H y hm∧∀ x H',TbAt H' x (sem fm)→KeepX L H H'→St H' (acc++lg fm)→Q x H'
def ouV (fo:Vl→Vl)(v:Vl):Vl:=if isF v=true then v else fo v
def ouL (v:Vl):List Vl:=if isF v=true then [] else [v]
def spOut (L:Addr)(fo:Vl→Vl)(St:Hp→List Vl→Prop):Sp:=fun vs H Q _=>∃ (u:V) (v:Vl) (acc:List Vl),vs=[u]∧VvAt H u v∧VlOk v∧¬ isF v=true∧St H acc∧(acc++[v]).length≤1000∧∀ x H',VvAt H' x (fo v)→KeepX L H H'→St H' (acc++[v])→Q x H'
def spOuv (L o:Addr)(fo:Vl→Vl)(St:Hp→List Vl→Prop):Sp:=fun vs H Q _=>∃ (u:V) (v:Vl) (acc:List Vl),vs=[u,.ref o]∧VvAt H u v∧VlOk v∧St H acc∧(acc++ouL v).length≤1000∧∀ x H',VvAt H' x (ouV fo v)→KeepX L H H'→St H' (acc++ouL v)→Q x H'
def Gd (m:List (List Vl)):Prop:=∃ w,Rect m w∧w≤30∧m.length≤30∧∀ r∈m,∀ v∈r,VlOk v
theorem hd0_ok {m:List (List Vl)}{w:Nat}(rc:Rect m w)(h:∀ r∈m,∀ v∈r,VlOk v):VlOk (hd0 m):=by
  obtain ⟨r0,rt,rfl⟩:=cons_of (l:=m) rc.len
  have:=rc.row r0 List.mem_cons_self
  have:=rc.w1
  obtain ⟨x,xt,rfl⟩:=cons_of (l:=r0) (by omega)
  exact h _ List.mem_cons_self _ List.mem_cons_self
def HmOk (h:Hm):Prop:=Nm h.z∧1≤h.r∧h.r≤16∧1≤h.c∧h.c≤8
def chV (v a b:Vl)(hm:Hm):Vl:=match v with
  | .flt ..=>v
  | .none=>b
  | .tru t=>if t=true then a else b
  | _=>fltK "kind" hm
def chT (v:Vl)(m n:List (List Vl))(hm:Hm):List (List Vl):=tabC (fun j k=>chV v (cy .none m j k) (cy .none n j k) hm) (max m.length n.length) (max (wd m) (wd n))
theorem fit_max {a b c d:Nat}(ft:(a=c∧b=d)∨(c=1∧d=1)∨(a=1∧b=1))(a1:1≤a)(b1:1≤b)(c1:1≤c)(d1:1≤d):fit ((a:Int),(b:Int)) ((c:Int),(d:Int))=some (((max a c:Nat):Int),((max b d:Nat):Int)):=by
  unfold fit
  by_cases x1:((a:Int),(b:Int))=((c:Int),(d:Int))
  · rw [if_pos x1]
    have e1:(a:Int)=c:=congrArg Prod.fst x1
    have e2:(b:Int)=d:=congrArg Prod.snd x1
    exact congrArg some (Prod.ext (by show (a:Int)=_;omega) (by show (b:Int)=_;omega))
  · rw [if_neg x1]
    by_cases x2:((c:Int),(d:Int))=((1:Int),(1:Int))
    · rw [if_pos x2]
      have e1:(c:Int)=1:=congrArg Prod.fst x2
      have e2:(d:Int)=1:=congrArg Prod.snd x2
      exact congrArg some (Prod.ext (by show (a:Int)=_;omega) (by show (b:Int)=_;omega))
    · rw [if_neg x2]
      have:a=1∧b=1:=by
        rcases ft with ⟨e1,e2⟩ | ⟨e1,e2⟩ | h
        · exact absurd (Prod.ext (by show (a:Int)=c;omega) (by show (b:Int)=d;omega)) x1
        · exact absurd (Prod.ext (by show (c:Int)=1;omega) (by show (d:Int)=1;omega)) x2
        · exact h
      rw [if_pos (Prod.ext (by show (a:Int)=1;omega) (by show (b:Int)=1;omega))]
      exact congrArg some (Prod.ext (by show (c:Int)=_;omega) (by show (d:Int)=_;omega))
theorem pmap {α β γ:Type}{F:β→γ→Prop}{f:α→β}{g:α→γ}(h:∀ a,F (f a) (g a)):∀ l:List α,Paired F (l.map f) (l.map g)
  | []=>.nil
  | a::t=>.cons (h a) (pmap h t)
def spCht (K:PySem.W.Frag):Sp:=fun vs H Q _=>∃ (u x y z:V) (v:Vl) (mu nu:List (List V)) (m n:List (List Vl)) (w1 w2:Nat) (hm:Hm),vs=[u,x,y,z]∧VvAt H u v∧RowsAt H x mu∧RowsAt H y nu∧VtAt H mu m∧VtAt H nu n∧Rect m w1∧Rect n w2∧fits m n∧m.length≤30∧n.length≤30∧w1≤30∧w2≤30∧HmAt H z hm∧∀ x H',TbAt H' x (chT v m n hm)→Same H H'→Q x H'
theorem fill_tab {H:Hp}{u:V}{v:Vl}{h w:Nat}{f:Nat→Nat→Vl}(hv:VvAt H u v)(e:∀ j k,f j k=v):VtAt H (fillM h w u) (tabC f h w):=by
  rw [tab_fill f v h w e]
  exact rep_paired (rep_paired hv w) h
theorem spread_tab {H:Hp}{mu:List (List V)}{m:List (List Vl)}{w h2 w2:Nat}{f:Nat→Nat→Vl}(vt:VtAt H mu m)(rm:Rect m w)(c:(mu.length=h2∧w=w2)∨(mu.length=1∧w=1))(e:∀ j k,f j k=cy .none m j k):VtAt H (sprd mu w h2 w2) (tabC f h2 w2):=by
  rw [sprd_cy (paired_rect vt rm) c,show f=cy .none m from funext fun j=>funext fun k=>e j k]
  unfold tabC
  exact pmap (fun j=>pmap (fun k=>cy_paired vt rm j k) _) _
def okE (dom:Str→Int→Int→Prop)(g:Str→Int→Int→Vl)(fo:Vl→Vl)(sem:Hm→Fm→List (List Vl))(lg:Hm→Fm→List Vl)(hm:Hm)(f:Fm):Prop:=(∃ l,f=.lf l∧okl2 dom g l∧sem hm f=lfT g l∧lg hm f=[])∨
  (∃ a b c,f=.nd (.wd (zS "if")) [a,b,c]∧Gd (sem hm a)∧Gd (sem hm b)∧Gd (sem hm c)∧fits (sem hm b) (sem hm c)∧sem hm f=chT (hd0 (sem hm a)) (sem hm b) (sem hm c) hm∧lg hm f=[])∨
  ∃ a,f=.nd (.wd (zS "outer")) [a]∧Gd (sem hm a)∧sem hm f=[[ouV fo (hd0 (sem hm a))]]∧lg hm f=ouL (hd0 (sem hm a))
def spSgE (L o:Addr)(fo:Vl→Vl)(St:Hp→List Vl→Prop):Sp:=fun vs H Q _=>∃ (v y:V) (l a:Addr) (x0:V) (r:List V) (m:List (List Vl)) (w:Nat) (acc:List Vl),vs=[v,.ref l,y,.ref o]∧v=.ref a∧H a=some (.tup (vS "outer"::r))∧H l=some (.lst [x0])∧TbAt H x0 m∧Rect m w∧(∀ r∈m,∀ v∈r,VlOk v)∧St H acc∧(acc++ouL (hd0 m)).length≤1000∧∀ z H',VvAt H' z (ouV fo (hd0 m))→KeepX L H H'→St H' (acc++ouL (hd0 m))→Q z H'
def spLawT (K:PySem.W.Frag)(P1 P2 P3:Addr):Sp:=fun vs H Q _=>∃ (a:Addr) (ns:List Int),vs=[.ref a]∧SqL K H a (ns.map V.int)∧ns.length≤63∧H P1=some (.tbl #[])∧H P2=some (.tbl #[])∧H P3=some (.tbl #[])∧∀ H',Q (.bl true) H'
structure Sht where
  z:Str
  hi:Int
  wi:Int
  rows:List (List V)
  m:List (List Vl)
  w:Nat
def pl (hi wi:Int)(m:List (List Vl))(r c:Int):Vl:=(m.getD (r-hi-1).toNat []).getD (c-wi-1).toNat .none
def gS (T:List Sht):Str→Int→Int→Vl:=fun z r c=>match T.find? (fun s=>decide (s.z=z)) with
  | some s=>pl s.hi s.wi s.m r c
  | none=>.none
def domS (T:List Sht):Str→Int→Int→Prop:=fun z r c=>∃ s∈T,s.z=z∧s.hi+1≤r∧r≤s.hi+s.m.length∧s.wi+1≤c∧c≤s.wi+s.w
structure LdAt (H:Hp)(kvs:List (List Key×V))(s:Sht):Prop where
  ld:Laid kvs s.z s.hi s.wi s.rows s.m.length 0
  vt:VtAt H s.rows s.m
  row:∀ r∈s.m,r.length=s.w
theorem find_nd:∀ {T:List Sht},(T.map fun s=>s.z).Nodup→∀ {s:Sht},s∈T→T.find? (fun x=>decide (x.z=s.z))=some s
  | [],_,s,h=>by cases h
  | a::t,nd,s,h=>by
    rw [List.map_cons,List.nodup_cons] at nd
    rcases List.mem_cons.mp h with rfl | h
    · rw [List.find?_cons_of_pos (by simp)]
    · rw [List.find?_cons_of_neg (by
        intro z
        exact nd.1 (of_decide_eq_true z▸List.mem_map.mpr ⟨s,h,rfl⟩))]
      exact find_nd nd.2 h
theorem gS_of {T:List Sht}(nd:(T.map fun s=>s.z).Nodup){s:Sht}(hs:s∈T)(r c:Int):gS T s.z r c=pl s.hi s.wi s.m r c:=by unfold gS;rw [find_nd nd hs]
theorem getD_of {α:Type}{l:List α}{i:Nat}{x d:α}(h:l[i]?=some x):l.getD i d=x:=by rw [List.getD_eq_getElem?_getD,h];rfl
theorem dp_S {H:Hp}{kn:Addr}{kvs:List (List Key×V)}{T:List Sht}(hkn:H kn=some (.dT kvs))(nd:(T.map fun s=>s.z).Nodup)(ok:∀ s∈T,LdAt H kvs s):DpF kn (domS T) (gS T) H:=by
  refine ⟨kvs,hkn,fun z r c d=>?_⟩
  obtain ⟨s,hs,rfl,d1,d2,d3,d4⟩:=d
  obtain ⟨a,rfl⟩:∃ a:Nat,r=s.hi+a+1:=⟨(r-s.hi-1).toNat,by omega⟩
  obtain ⟨b,rfl⟩:∃ b:Nat,c=s.wi+b+1:=⟨(c-s.wi-1).toNat,by omega⟩
  have g:=ok s hs
  have ha:a<s.m.length:=by omega
  have hm':s.m[a]?=some s.m[a]:=List.getElem?_eq_getElem ha
  have hb:b<s.m[a].length:=by rw [g.row _ (List.getElem_mem ha)];omega
  obtain ⟨rw',hrw,pv⟩:=pair_get g.vt hm'
  obtain ⟨x,hx,vx⟩:=pair_get pv (List.getElem?_eq_getElem hb)
  refine ⟨x,g.ld a b rw' x hrw hx (.inl (by omega)),?_⟩
  rw [gS_of nd hs,pl,show (s.hi+a+1-s.hi-1).toNat=a by omega,show (s.wi+b+1-s.wi-1).toNat=b by omega,getD_of hm',getD_of (List.getElem?_eq_getElem hb)]
  exact vx
theorem blk_S {T:List Sht}(nd:(T.map fun s=>s.z).Nodup){s:Sht}(hs:s∈T)(row:∀ r∈s.m,r.length=s.w):blk (gS T) s.z (s.hi+1) (s.wi+1) s.m.length s.w=s.m:=by
  unfold blk
  refine List.ext_getElem? fun i=>?_
  by_cases hi':i<s.m.length
  · have hm':s.m[i]?=some s.m[i]:=List.getElem?_eq_getElem hi'
    have lm:=row _ (List.getElem_mem hi')
    rw [List.getElem?_map,List.getElem?_range hi',hm']
    refine congrArg some (List.ext_getElem? fun j=>?_)
    by_cases hj:j<s.w
    · rw [List.getElem?_map,List.getElem?_range hj,List.getElem?_eq_getElem (by omega)]
      refine congrArg some ?_
      show gS T s.z (s.hi+1+(i:Int)) (s.wi+1+(j:Int))=_
      rw [gS_of nd hs,pl,show (s.hi+1+(i:Int)-s.hi-1).toNat=i by omega,show (s.wi+1+(j:Int)-s.wi-1).toNat=j by omega,getD_of hm',getD_of (List.getElem?_eq_getElem (by omega))]
    · rw [List.getElem?_eq_none (by rw [List.length_map,List.length_range];omega),List.getElem?_eq_none (by omega)]
  · rw [List.getElem?_eq_none (by rw [List.length_map,List.length_range];omega),List.getElem?_eq_none (by omega)]
theorem lay_sh {H:Hp}{kvs:List (List Key×V)}{z:Str}{rows:List (List V)}{m:List (List Vl)}{h w:Nat}{u:V}(x:LayAt H kvs z rows h w u)(nm:Nm z)(vt:VtAt H rows m)(ml:m.length=h)(row:∀ r∈m,r.length=w)(h1:1≤h)(w1:1≤w):
    ∃ (a:Addr) (lf:Lf) (s:Sht),u=.ref a∧LfAt H a lf∧s.z=z∧s.m=m∧LdAt H kvs s∧∀ T:List Sht,(T.map fun s=>s.z).Nodup→s∈T→(∃ z c d,LfGood (domS T) lf z c d)∧lfT (gS T) lf=m:=by
  obtain ⟨a,lf,c,d,hi,wi,rfl,h2,h3,h4,h5,h6,h7,h8,h9,h10,h11,h12⟩:=x
  subst ml
  refine ⟨a,lf,⟨z,hi,wi,rows,m,w⟩,rfl,h2,rfl,rfl,⟨h12,vt,row⟩,fun T nd hs=>⟨⟨z,c,d,lf_good h3 nm h4 h5 h6 h7 h8 h9 h10 h11 h1 w1 fun i j q1 q2 q3 q4=>⟨_,hs,rfl,q1,q2,q3,q4⟩⟩,?_⟩⟩
  rw [lf_sem h3 h4 h5 h6 h7]
  exact blk_S nd hs row
structure LB (H:Hp)(l:Addr)(bs:List Addr)(rows:List (List V))(m:List (List Vl)):Prop where
  ob:H l=some (.lst (bs.map V.ref))
  ls:LsAt H bs rows
  vt:VtAt H rows m
theorem LB.smd {H H':Hp}{l:Addr}{bs:List Addr}{rows:List (List V)}{m:List (List Vl)}(x:LB H l bs rows m)(s:SmD H H'):LB H' l bs rows m:=⟨s _ _ x.ob rfl,pmem x.ls fun b row _ e=>s _ _ e rfl,VtAt.kp x.vt s.kp⟩
theorem LB.same {H H':Hp}{l:Addr}{bs:List Addr}{rows:List (List V)}{m:List (List Vl)}(x:LB H l bs rows m)(s:Same H H'):LB H' l bs rows m:=x.smd (SmD.of s)
structure RD (H0 H:Hp)(l:Addr)(bs:List Addr)(rows:List (List V))(m:List (List Vl)):Prop where
  b:LB H l bs rows m
  nl:l∉bs
  s:Same H0 H
  fl:H0 l=none
  fb:∀ b∈bs,H0 b=none
section
variable {H0 H H':Hp}{l D:Addr}{bs:List Addr}{rows:List (List V)}{m:List (List Vl)}
theorem RD.nil (h:H0 l=none):RD H0 (upd H0 l (.lst [])) l [] [] []:=⟨⟨upd_same,.nil,.nil⟩,by simp,Same.new h,h,fun b z=>absurd z (by simp)⟩
theorem RD.same (x:RD H0 H l bs rows m)(s:Same H H'):RD H0 H' l bs rows m:=⟨x.b.same s,x.nl,x.s.trans s,x.fl,x.fb⟩
theorem RD.new (x:RD H0 H l bs rows m)(h:H D=none):D≠l∧D∉bs∧H0 D=none:=by
  refine ⟨(fun z=>by rw [z,x.b.ob] at h;cases h),fun z=>?_,?_⟩
  · obtain ⟨j,hj⟩:=List.getElem?_of_mem z
    obtain ⟨r,_,e⟩:=paired_at x.b.ls hj
    have e':H D=some (.lst r):=e
    rw [e'] at h;cases h
  · cases e:H0 D with
    | none=>rfl
    | some o=>rw [x.s _ _ e] at h;cases h
theorem RD.st {us vs:List V}(x:RD H0 H l bs rows m)(n1:D≠l)(n2:D∉bs)(n3:H0 D=none)(hD:H D=some (.lst us)):RD H0 (upd H D (.lst vs)) l bs rows m:=
  ⟨⟨by rw [upd_ne (Ne.symm n1)];exact x.b.ob,pmem x.b.ls fun b row hb e=>by
      show upd H D (.lst vs) b=some (.lst row)
      rw [upd_ne (show b≠D from fun z=>n2 (z▸hb))];exact e,VtAt.kp x.b.vt (kp_upd hD)⟩,x.nl,fun b o e=>by rw [upd_ne (ne_of_none e n3)];exact x.s _ _ e,x.fl,x.fb⟩
theorem RD.push {us:List V}{vs:List Vl}(x:RD H0 H l bs rows m)(n1:D≠l)(n3:H0 D=none)(hD:H D=some (.lst us))(hv:VsAt H us vs):RD H0 (upd H l (.lst (bs.map V.ref++[.ref D]))) l (bs++[D]) (rows++[us]) (m++[vs]):=by
  have kk:Kp H (upd H l (.lst (bs.map V.ref++[.ref D]))):=kp_upd x.b.ob
  refine ⟨⟨by rw [upd_same,List.map_append];rfl,psnoc (pmem x.b.ls fun b row hb e=>?_) (by rw [upd_ne n1];exact hD),psnoc (VtAt.kp x.b.vt kk) (VsAt.kp hv kk)⟩,fun z=>?_,fun b o e=>by rw [upd_ne (ne_of_none e x.fl)];exact x.s _ _ e,x.fl,fun b hb=>?_⟩
  · show upd H l _ b=some (.lst row)
    rw [upd_ne (show b≠l from fun z=>x.nl (z▸hb))];exact e
  · rcases List.mem_append.mp z with z | z
    · exact x.nl z
    · exact n1 (List.mem_singleton.mp z).symm
  · rcases List.mem_append.mp hb with z | z
    · exact x.fb b z
    · rw [List.mem_singleton.mp z];exact n3
theorem RD.len (x:RD H0 H l bs rows m):bs.length=m.length∧rows.length=m.length:=⟨(Paired.length x.b.ls).trans (Paired.length x.b.vt),Paired.length x.b.vt⟩
end
theorem tabC_succ {α:Type}{f:Nat→Nat→α}{h w:Nat}:tabC f (h+1) w=tabC f h w++[(List.range w).map (f h)]:=by
  unfold tabC;rw [List.range_succ,List.map_append];rfl
def trT (m:List (List Vl)):Tr:=.tup (m.map fun r=>.tup (r.map trV))
theorem vs_tr {H:Hp}:∀ {us:List V} {vs:List Vl},VsAt H us vs→Paired (fun u t=>TrAt H u t 2) us (vs.map trV)
  | _,_,.nil=>.nil
  | _,_,.cons h t=>.cons h.tr (vs_tr t)
theorem vt_tr {H:Hp}:∀ {us:List V} {rows:List (List V)} {m:List (List Vl)},Paired (RsAt H) us rows→VtAt H rows m→(∀ r∈m,r.length≤100)→Paired (fun u t=>TrAt H u t 3) us (m.map fun r=>Tr.tup (r.map trV))
  | _,_,_,.nil,.nil,_=>.nil
  | _,_,_,.cons ⟨b0,e,hb0⟩ pr,.cons v vt,h=>by
    subst e
    exact .cons (.ofP (n:=2) hb0 (by rw [Paired.length v];exact h _ List.mem_cons_self) (vs_tr v)) (vt_tr pr vt fun r hr=>h r (List.mem_cons_of_mem _ hr))
theorem TbAt.trT {H:Hp}{u:V}{m:List (List Vl)}(h:TbAt H u m)(l1:m.length≤100)(l2:∀ r∈m,r.length≤100):TrAt H u (trT m) 4:=by
  obtain ⟨rows,⟨b,us,rfl,hb,pr⟩,vt⟩:=h
  exact .ofP (n:=3) hb (by rw [Paired.length pr,Paired.length vt];exact l1) (vt_tr pr vt l2)
theorem LB.tb {H H':Hp}{l:Addr}{bs:List Addr}{rows:List (List V)}{m:List (List Vl)}{x:V}(h:LB H l bs rows m)(s:Same H H')(hx:RowsAt H' x rows):TbAt H' x m:=⟨rows,hx,VtAt.kp h.vt (Kp.same s)⟩
theorem LB.len {H:Hp}{l:Addr}{bs:List Addr}{rows:List (List V)}{m:List (List Vl)}(h:LB H l bs rows m):rows.length=m.length:=Paired.length h.vt
structure TT (H:Hp)(p l:Addr)(bs:List Addr)(rows:List (List V))(m:List (List Vl))(h w:Nat):Prop where
  d:D3 H p l bs rows h w
  vt:VtAt H rows m
  ml:m.length=h
  ok:Oks m w
section
variable {p kn l:Addr}{H H':Hp}{h w:Nat}{m:List (List Vl)}{bs:List Addr}{rows:List (List V)}
theorem TT.kx (x:TT H p l bs rows m h w)(kp:KeepX p H H')(kk:Kp H H'):TT H' p l bs rows m h w:=
  ⟨⟨kp _ _ x.d.lp x.d.ob,x.d.lp,x.d.np,pmem x.d.ls fun b row hb e=>kp _ _ (fun z=>x.d.np (z▸hb)) e,x.d.len,x.d.h1,x.d.h16,x.d.w1,x.d.w8,x.d.row⟩,VtAt.kp x.vt kk,x.ml,x.ok⟩
theorem TT.same (x:TT H p l bs rows m h w)(s:Same H H'):TT H' p l bs rows m h w:=x.kx (Same.keep s) (Kp.same s)
theorem TT.st {q:Addr}{us vs:List V}(x:TT H p l bs rows m h w)(hq:H q=some (.lst us))(n1:q≠l)(n2:q∉bs):TT (upd H q (.lst vs)) p l bs rows m h w:=
  ⟨⟨by rw [upd_ne (Ne.symm n1)];exact x.d.ob,x.d.lp,x.d.np,pmem x.d.ls fun b row hb e=>by
      show upd H q (.lst vs) b=some (.lst row)
      rw [upd_ne (show b≠q from fun z=>n2 (z▸hb))];exact e,x.d.len,x.d.h1,x.d.h16,x.d.w1,x.d.w8,x.d.row⟩,VtAt.kp x.vt (kp_upd hq),x.ml,x.ok⟩
theorem TT.one {b:Addr}{u:V}{v:Vl}(hl:H l=some (.lst [.ref b]))(hb:H b=some (.lst [u]))(hv:VvAt H u v)(ok:VlOk v)(n1:l≠p)(n2:b≠p):TT H p l [b] [[u]] [[v]] 1 1:=
  ⟨⟨hl,n1,by simpa using Ne.symm n2,.cons hb .nil,rfl,by decide,by decide,by decide,by decide,by simp⟩,.cons (.cons hv .nil) .nil,rfl,by
    intro r hr
    rw [List.mem_singleton.mp hr]
    exact ⟨rfl,fun v' h'=>by rw [List.mem_singleton.mp h'];exact ok⟩⟩
theorem TT.new {q:Addr}(x:TT H p l bs rows m h w)(hq:H q=none):q≠l∧q∉bs:=by
  refine ⟨(fun z=>by rw [z,x.d.ob] at hq;cases hq),fun z=>?_⟩
  obtain ⟨j,hj⟩:=List.getElem?_of_mem z
  obtain ⟨r,_,hb⟩:=paired_at x.d.ls hj
  have hb':H q=some (.lst r):=hb
  rw [hb'] at hq;cases hq
theorem TT.smd (x:TT H p l bs rows m h w)(s:SmD H H'):TT H' p l bs rows m h w:=
  ⟨⟨s _ _ x.d.ob rfl,x.d.lp,x.d.np,pmem x.d.ls fun b row _ e=>s _ _ e rfl,x.d.len,x.d.h1,x.d.h16,x.d.w1,x.d.w8,x.d.row⟩,VtAt.kp x.vt s.kp,x.ml,x.ok⟩
theorem TT.k2 {kvs:List (List Key×V)}(x:TT H p l bs rows m h w)(s:Keep2 p kn H H')(hk:H kn=some (.dT kvs))(kk:Kp H H'):TT H' p l bs rows m h w:=⟨x.d.k2 s hk,VtAt.kp x.vt kk,x.ml,x.ok⟩
theorem TT.rect (x:TT H p l bs rows m h w):Rect m w:=⟨fun z=>by have:=x.ml;have:=x.d.h1;rw [z] at *;simp at *;omega,x.d.w1,fun r hr=>(x.ok r hr).1⟩
theorem TT.of (x:LTab H p l bs rows m)(ml:m.length=h)(ok:Oks m w)(h1:1≤h)(h16:h≤16)(w1:1≤w)(w8:w≤8):TT H p l bs rows m h w:=
  ⟨⟨x.ob,x.lp,x.np,x.ls,(Paired.length x.vt).trans ml,h1,h16,w1,w8,fun r hr=>by
    obtain ⟨j,hj⟩:=List.getElem?_of_mem hr
    obtain ⟨mr,hmr,pv⟩:=paired_at x.vt hj
    rw [Paired.length pv];exact (ok mr (List.mem_of_getElem? hmr)).1⟩,x.vt,ml,ok⟩
theorem TT.at (x:TT H p l bs rows m h w)(j k:Nat):∃ b r,bs[j%h]?=some b∧H b=some (.lst r)∧r.length=w∧r[k%w]?=some (cy .non rows j k)∧VvAt H (cy .non rows j k) (cy .none m j k):=by
  have h1:=x.d.h1
  have w1:=x.d.w1
  have hj:j%h<h:=Nat.mod_lt _ (by omega)
  have bl:bs.length=h:=(Paired.length x.d.ls).trans x.d.len
  have hb:bs[j%h]?=some bs[j%h]:=List.getElem?_eq_getElem (by omega)
  obtain ⟨r,hr,hbr⟩:=paired_at x.d.ls hb
  have lr:=x.d.row r (List.mem_of_getElem? hr)
  have hk:k%w<r.length:=by rw [lr];exact Nat.mod_lt _ (by omega)
  refine ⟨_,r,hb,hbr,lr,?_,cy_paired x.vt x.rect j k⟩
  have wm:(rows.headD []).length=w:=(paired_rect x.vt x.rect).wd
  rw [List.getElem?_eq_getElem hk]
  unfold cy
  rw [wm,x.d.len,List.getD_eq_getElem?_getD (l:=rows),hr,Option.getD_some,List.getD_eq_getElem?_getD,List.getElem?_eq_getElem hk,Option.getD_some]
end
theorem hu2_of {A:Around}{k:Nat}(hr:Room k A):A.units+2<cLine:=by have:=hr.un;omega
def isT (v:Vl):Bool:=decide (V.str (tag v)=vS "text")
def ntV (v:Vl):Vl:=.tru (isT v)
def spNote:Sp:=fun vs H Q _=>∃ (L:Addr) (us:List V) (u:V) (v:Vl),vs=[.ref L,u]∧H L=some (.lst us)∧us.length≤1000∧VvAt H u v∧∀ x H',VvAt H' x (ntV v)→H' L=some (.lst (us++[u]))→KeepX L H H'→Q x H'
def AskL (L:Addr)(H:Hp)(vs:List Vl):Prop:=∃ us,H L=some (.lst us)∧VsAt H us vs
theorem ask_st (L:Addr):StOk L (AskL L):=⟨fun H H' acc h kp ⟨us,e,v⟩=>⟨us,h _ e,VsAt.kp v kp⟩,fun H acc ⟨us,e,_⟩=>⟨us,e⟩⟩
theorem fix_st (L:Addr)(us:List V):StOk L (fun H _=>H L=some (.lst us)):=⟨fun H H' acc h kp e=>h _ e,fun H acc e=>⟨us,e⟩⟩
theorem dpF_ok {L kn:Addr}{dom:Str→Int→Int→Prop}{g:Str→Int→Int→Vl}(h:kn≠L):DpOk L (DpF kn dom g):=fun H H' s kp ⟨kvs,e,d⟩=>⟨kvs,s _ _ h e rfl,fun z r c dm=>let ⟨x,hx,vx⟩:=d z r c dm;⟨x,hx,vx.kp kp⟩⟩
def sem31 (fo:Vl→Vl)(g:Str→Int→Int→Vl)(hm:Hm):Fm→List (List Vl)
  | .lf l=>lfT g l
  | .nd _ [.lf a]=>[[ouV fo (hd0 (lfT g a))]]
  | .nd _ [.lf c,.nd _ [.lf a],.nd _ [.lf b]]=>chT (hd0 (lfT g c)) [[ouV fo (hd0 (lfT g a))]] [[ouV fo (hd0 (lfT g b))]] hm
  | .nd _ [.lf c,.lf a,.lf b]=>chT (hd0 (lfT g c)) (lfT g a) (lfT g b) hm
  | _=>[]
def lg31 (g:Str→Int→Int→Vl)(_:Hm):Fm→List Vl
  | .nd _ [.lf a]=>ouL (hd0 (lfT g a))
  | _=>[]
theorem gd_one {v:Vl}(h:VlOk v):Gd [[v]]:=⟨1,⟨by simp,by decide,by simp⟩,by decide,by simp,by simpa using h⟩
theorem ouV_ok {fo:Vl→Vl}{v:Vl}(h:VlOk v)(hf:VlOk (fo v)):VlOk (ouV fo v):=by
  unfold ouV
  by_cases c:isF v=true
  · rw [if_pos c];exact h
  · rw [if_neg c];exact hf
theorem gd_hd {m:List (List Vl)}(h:Gd m):VlOk (hd0 m):=let ⟨_,rc,_,_,ok⟩:=h;hd0_ok rc ok
theorem ok31P {dom:Str→Int→Int→Prop}{g:Str→Int→Int→Vl}{fo:Vl→Vl}{hm:Hm}{a b c:Lf}{f:Fm}(hc:okl2 dom g c)(ha:okl2 dom g a)(hb:okl2 dom g b)(gc:Gd (lfT g c))(ga:Gd (lfT g a))(gb:Gd (lfT g b))(ft:fits (lfT g a) (lfT g b))(hf:f∈alF (.nd (.wd (zS "if")) [.lf c,.lf a,.lf b])):okE dom g fo (sem31 fo g) (lg31 g) hm f:=by
  have hf':f=.lf c∨f=.lf a∨f=.lf b∨f=.nd (.wd (zS "if")) [.lf c,.lf a,.lf b]:=by simpa [alF,alL] using hf
  rcases hf' with rfl | rfl | rfl | rfl
  · exact .inl ⟨_,rfl,hc,rfl,rfl⟩
  · exact .inl ⟨_,rfl,ha,rfl,rfl⟩
  · exact .inl ⟨_,rfl,hb,rfl,rfl⟩
  · exact .inr (.inl ⟨_,_,_,rfl,gc,ga,gb,ft,rfl,rfl⟩)
theorem ok31O {dom:Str→Int→Int→Prop}{g:Str→Int→Int→Vl}{fo:Vl→Vl}{hm:Hm}{a b c:Lf}{f:Fm}(hfo:∀ v,VlOk v→VlOk (fo v))(hc:okl2 dom g c)(ha:okl2 dom g a)(hb:okl2 dom g b)(gc:Gd (lfT g c))(ga:Gd (lfT g a))(gb:Gd (lfT g b))(hf:f∈alF (.nd (.wd (zS "if")) [.lf c,.nd (.wd (zS "outer")) [.lf a],.nd (.wd (zS "outer")) [.lf b]])):okE dom g fo (sem31 fo g) (lg31 g) hm f:=by
  have hf':f=.lf c∨f=.lf a∨f=.nd (.wd (zS "outer")) [.lf a]∨f=.lf b∨f=.nd (.wd (zS "outer")) [.lf b]∨f=.nd (.wd (zS "if")) [.lf c,.nd (.wd (zS "outer")) [.lf a],.nd (.wd (zS "outer")) [.lf b]]:=by simpa [alF,alL] using hf
  have o:∀ x,Gd (lfT g x)→VlOk (ouV fo (hd0 (lfT g x))):=fun x h=>ouV_ok (gd_hd h) (hfo _ (gd_hd h))
  rcases hf' with rfl | rfl | rfl | rfl | rfl | rfl
  · exact .inl ⟨_,rfl,hc,rfl,rfl⟩
  · exact .inl ⟨_,rfl,ha,rfl,rfl⟩
  · exact .inr (.inr ⟨_,rfl,ga,rfl,rfl⟩)
  · exact .inl ⟨_,rfl,hb,rfl,rfl⟩
  · exact .inr (.inr ⟨_,rfl,gb,rfl,rfl⟩)
  · exact .inr (.inl ⟨_,_,_,rfl,gc,gd_one (o a ga),gd_one (o b gb),.inl ⟨rfl,rfl⟩,rfl,rfl⟩)
theorem lg31O {g:Str→Int→Int→Vl}{hm:Hm}{a b c:Lf}:(alF (.nd (.wd (zS "if")) [.lf c,.nd (.wd (zS "outer")) [.lf a],.nd (.wd (zS "outer")) [.lf b]])).flatMap (lg31 g hm)=ouL (hd0 (lfT g a))++ouL (hd0 (lfT g b)):=by simp [alF,alL,lg31]
theorem lg31P {g:Str→Int→Int→Vl}{hm:Hm}{a b c:Lf}:(alF (.nd (.wd (zS "if")) [.lf c,.lf a,.lf b])).flatMap (lg31 g hm)=[]:=by simp [alF,alL,lg31]
theorem ouL_len {v:Vl}:(ouL v).length≤1:=by
  unfold ouL
  by_cases c:isF v=true
  · rw [if_pos c];exact Nat.zero_le 1
  · rw [if_neg c];exact Nat.le_refl 1
theorem ouL_mem {v w:Vl}(h:w∈ouL v):w=v∧isF w=false:=by
  unfold ouL at h
  by_cases c:isF v=true
  · rw [if_pos c] at h;cases h
  · rw [if_neg c] at h
    have:=List.mem_singleton.mp h
    subst this
    exact ⟨rfl,by simpa using c⟩
theorem nm_d:Nm (Str.ofString "d"):=nm_lit (by decide +kernel)
theorem nm_e:Nm (Str.ofString "e"):=nm_lit (by decide +kernel)
theorem wd_if:KdOk (.wd (zS "if")) 3:=by show (zS "if",3)∈WDS;decide +kernel
theorem wd_outer:KdOk (.wd (zS "outer")) 1:=by show (zS "outer",1)∈WDS;decide +kernel
theorem keep_put2 {q:Str}{P L:Addr}{H H':Hp}(h:∀ b o,b≠P→b≠L→L2.del q H b=some o→H' b=some o):∀ b o,b≠P→b≠L→H b=some o→L2.put q H H' b=some o:=fun b o hb hb' e=>by
  cases w:kn q (H b) with
  | none=>rw [put_out w];exact h b o hb hb' (by rw [del_out w];exact e)
  | some u=>
    rw [put_in w]
    rw [kn_some w] at e
    exact e
theorem tab_k2 {H H':Hp}{P P' L:Addr}{q:Str}{ps:Array Value}{us:List V}(x:TabAt H P q)(ne:P≠P')(hp:H P'=some (.tbl ps))(hl:H L=some (.lst us))(s:∀ b o,b≠P'→b≠L→H b=some o→H' b=some o):TabAt H' P q:=by
  obtain ⟨ps',e,t,k⟩:=x
  refine ⟨ps',s _ _ ne (ne_of e hl (by intro z;cases z)) e,t,fun pos cv z=>?_⟩
  obtain ⟨c,e1,e2⟩:=k pos cv z
  exact ⟨c,e1,e2.keep fun b o h=>s _ _ (ne_of h hp (by intro z;cases z)) (ne_of h hl (by intro z;cases z)) h⟩
theorem PenM.lz {K:PySem.W.Frag}{S:Addr×List Int}{H0 H H':Hp}{p L PR:Addr}{k n:Nat}{ps:Array Value}(h0:PenM K S H0 p k)(hD:H0 L=none)(h:PenM K S H p n)(hP:H PR=some (.tbl ps))(s:∀ b o,b≠PR→b≠L→H b=some o→H' b=some o):PenM K S H' p n:=by
  have ne:=h0.ne hD
  obtain ⟨_,_,_,_,q0,_⟩:=h0
  obtain ⟨b,c,r,e,q,z⟩:=h
  refine ⟨b,c,r,s _ _ (ne_of e hP (by intro z;cases z)) (Ne.symm ne) e,?_,z⟩
  rcases q0 with (q0 | ⟨o0,q0⟩) | q0
  · have na:=ne_of_none q0 hD
    rcases q with (q | ⟨o1,q⟩) | q
    · exact .inl (.inl (s _ _ (ne_of q hP (by intro z;cases z)) na q))
    · exact .inl (.inr ⟨o1,s _ _ (ne_of q hP (by intro z;cases z)) na q⟩)
    · exact .inr q
  · have na:=ne_of_none q0 hD
    rcases q with (q | ⟨o1,q⟩) | q
    · exact .inl (.inl (s _ _ (ne_of q hP (by intro z;cases z)) na q))
    · exact .inl (.inr ⟨o1,s _ _ (ne_of q hP (by intro z;cases z)) na q⟩)
    · exact .inr q
  · exact .inr q0
theorem VvAt.tps {H:Hp}{u:V}{v:Vl}(h:VvAt H u v):∃ q ys js,u=.ref q∧H q=some (.tup ys)∧Paired (ItAt H) ys js:=let ⟨q,_,e,h1,h2⟩:=h.hd;⟨q,_,_,e,h1,h2⟩
theorem VsAt.tps {H:Hp}:∀ {us:List V} {vs:List Vl},VsAt H us vs→TpsAt H us
  | _,_,.nil=>fun _ h=>by cases h
  | _,_,.cons h t=>fun u hu=>by
    rcases List.mem_cons.mp hu with rfl | hu
    · exact h.tps
    · exact VsAt.tps t u hu
theorem eqTV_self {H:Hp}{u:V}{v:Vl}(h:VvAt H u v):eqTV H (itm v) u=true:=by
  obtain ⟨q,_,rfl,h1,h2⟩:=h.hd
  rw [eqTV_of h1 h2]
  exact eqI_refl h2
theorem any_self {H:Hp}:∀ {us:List V} {vs:List Vl} {v:Vl},VsAt H us vs→v∈vs→us.any (eqTV H (itm v))=true
  | _,_,v,.cons h t,hv=>by
    rw [List.any_cons]
    rcases List.mem_cons.mp hv with rfl | hv
    · rw [eqTV_self h];rfl
    · rw [any_self t hv,Bool.or_true]
def qB:Str:=Str.ofString "_law_both_asked"++Str.ofString ".<locals>."++Str.ofString "<lambda>"
theorem qRB:(qR==qB)=false:=by decide +kernel
def spBA (K:PySem.W.Frag)(PR PB:Addr):Sp:=fun vs H Q _=>∃ (p kn qh:Addr) (u:V) (k:Nat) (S:Addr×List Int) (kvs:List (List Key×V)) (hm:Hm) (rows:List (List V)) (m:List (List Vl)) (h w:Nat),vs=[.ref p,u,.ref kn,.ref qh]∧PenM K S H p k∧k≤1000000∧H kn=some (.dT kvs)∧kvs.length≤512∧LayAt H kvs (Str.ofString "c") rows h w u∧VtAt H rows m∧m.length=h∧(∀ r∈m,r.length=w∧∀ v∈r,VlOk v)∧1≤h∧h≤16∧1≤w∧w≤8∧HmAt H (.ref qh) hm∧TabAt H PR qR∧TabAt H PB qB∧
  ∀ H',PenM K S H' p (k+40)→TabAt H' PR qR→TabAt H' PB qB→(∀ b o,b≠p→b≠kn→b≠PR→b≠PB→H b=some o→H' b=some o)→Q (.bl true) H'
structure Env9 (K:PySem.W.Frag)(S:Addr×List Int)(PR PB PL:Addr)(H:Hp)(p:Addr)(n:Nat):Prop where
  pen:PenM K S H p n
  tR:TabAt H PR qR
  tB:TabAt H PB qB
  tL:TabAt H PL qL
section
variable {K:PySem.W.Frag}{S:Addr×List Int}{PR PB PL p:Addr}{H H':Hp}{n n':Nat}
theorem Env9.kx (h:Env9 K S PR PB PL H p n)(pen:PenM K S H' p n')(kp:KeepX p H H'):Env9 K S PR PB PL H' p n':=by
  obtain ⟨_,e⟩:=h.pen.ob
  exact ⟨pen,tab_smf h.tR (SmF.kx e kp),tab_smf h.tB (SmF.kx e kp),tab_smf h.tL (SmF.kx e kp)⟩
theorem Env9.same (h:Env9 K S PR PB PL H p n)(s:Same H H'):Env9 K S PR PB PL H' p n:=⟨h.pen.same s,h.tR.sm s,h.tB.sm s,h.tL.sm s⟩
theorem Env9.mono (h:Env9 K S PR PB PL H p n)(s:n≤n'):Env9 K S PR PB PL H p n':=⟨h.pen.mono s,h.tR,h.tB,h.tL⟩
theorem Env9.row {b q:Addr}{r:List V}{o:HO}(h:Env9 K S PR PB PL H p n)(hb:H b=some (.lst (.ref q::r)))(ne:b≠p):Env9 K S PR PB PL (upd H b o) p n:=by
  obtain ⟨⟨x,c,r',e,sq,z⟩,t1,t2,t3⟩:=h
  exact ⟨⟨x,c,r',by rw [upd_ne (Ne.symm ne)];exact e,SqL.kl sq hb KeepX.upd,z⟩,tab_smf t1 (SmF.kx hb KeepX.upd),tab_smf t2 (SmF.kx hb KeepX.upd),tab_smf t3 (SmF.kx hb KeepX.upd)⟩
theorem Env9.k2 {kn:Addr}{kvs:List (List Key×V)}(h:Env9 K S PR PB PL H p n)(hk:H kn=some (.dT kvs))(pen:PenM K S H' p n')(kp:Keep2 p kn H H'):Env9 K S PR PB PL H' p n':=by
  obtain ⟨vs,e⟩:=h.pen.ob
  have sf:SmF H H':=fun b o e' d=>kp b o (fun z=>by subst z;rw [e] at e';cases e';cases d) (fun z=>by subst z;rw [hk] at e';cases e';cases d) e'
  exact ⟨pen,tab_smf h.tR sf,tab_smf h.tB sf,tab_smf h.tL sf⟩
theorem Env9.kp2 {kn:Addr}{kvs:List (List Key×V)}(h:Env9 K S PR PB PL H p n)(hk:H kn=some (.dT kvs))(kp:Keep2 p kn H H'):Kp H H':=by
  obtain ⟨vs,e⟩:=h.pen.ob
  exact Keep2.kp kp e hk
end
theorem tab_k4 {H H':Hp}{P p kn PR PB:Addr}{q:Str}{us:List V}{kvs:List (List Key×V)}{ps ps':Array Value}(x:TabAt H P q)(hp:H p=some (.lst us))(hk:H kn=some (.dT kvs))(hR:H PR=some (.tbl ps))(hB:H PB=some (.tbl ps'))(n1:P≠PR)(n2:P≠PB)(s:∀ b o,b≠p→b≠kn→b≠PR→b≠PB→H b=some o→H' b=some o):TabAt H' P q:=by
  obtain ⟨ps',e,t,k⟩:=x
  refine ⟨ps',s _ _ (ne_of e hp (by intro z;cases z)) (ne_of e hk (by intro z;cases z)) n1 n2 e,t,fun pos cv z=>?_⟩
  obtain ⟨c,e1,e2⟩:=k pos cv z
  exact ⟨c,e1,e2.keep fun b o h=>s _ _ (ne_of h hp (by intro z;cases z)) (ne_of h hk (by intro z;cases z)) (ne_of h hR (by intro z;cases z)) (ne_of h hB (by intro z;cases z)) h⟩
theorem ixN_0 {n:Nat}(h:1≤n):ixN n 0=some 0:=by
  unfold ixN
  rw [if_pos (Int.le_refl 0),if_pos (by omega)];rfl
theorem ixN_1 {n:Nat}(h:2≤n):ixN n 1=some 1:=by
  unfold ixN
  rw [if_pos (by decide),if_pos (by omega)];rfl
theorem call_len_seqc {X:Cx}{scope:Scope}{cl:List (Str×Addr)}{C:Addr}{N:List Str}{s₀:Shared}{H₀:Hp}{ex:List Addr}{pn:List (Addr×Obj)}:CallR (cxComp X scope cl C N s₀ H₀ ex pn) (.builtin "len") (fun xs H Q=>∃ p ys,xs=[.ref p]∧(SqL X.K H p ys∨SqT X.K H p ys)∧Q (.int ys.length) H):=call_len_seq
structure W3 (K:PySem.W.Frag)(S:Addr×List Int)(PR PB PL:Addr)(H:Hp)(p kn lt:Addr)(A B:Dt)(m n:List (List Vl))(c:Nat):Prop where
  e:Env9 K S PR PB PL H p c
  k:H kn=some (.dT [])
  tb:H lt=some (.lst [.ref A.l,.ref B.l])
  lp:lt≠p
  a:TT H p A.l A.bs A.rows m A.h A.w
  b:TT H p B.l B.bs B.rows n B.h B.w
  na:lt≠A.l∧lt∉A.bs
  nb:lt≠B.l∧lt∉B.bs
section
variable {K:PySem.W.Frag}{S:Addr×List Int}{PR PB PL p kn lt l:Addr}{H H':Hp}{c c' h w:Nat}{A B:Dt}{m n:List (List Vl)}{bs:List Addr}{rows:List (List V)}
theorem W3.kx (x:W3 K S PR PB PL H p kn lt A B m n c)(pen:PenM K S H' p c')(kp:KeepX p H H'):W3 K S PR PB PL H' p kn lt A B m n c':=by
  have kk:=x.e.pen.kp kp
  obtain ⟨_,eo⟩:=x.e.pen.ob
  exact ⟨x.e.kx pen kp,kp _ _ (ne_of x.k eo (by intro z;cases z)) x.k,kp _ _ x.lp x.tb,x.lp,x.a.kx kp kk,x.b.kx kp kk,x.na,x.nb⟩
theorem W3.same (x:W3 K S PR PB PL H p kn lt A B m n c)(s:Same H H'):W3 K S PR PB PL H' p kn lt A B m n c:=⟨x.e.same s,s _ _ x.k,s _ _ x.tb,x.lp,x.a.same s,x.b.same s,x.na,x.nb⟩
theorem W3.mono (x:W3 K S PR PB PL H p kn lt A B m n c)(s:c≤c'):W3 K S PR PB PL H p kn lt A B m n c':=⟨x.e.mono s,x.k,x.tb,x.lp,x.a,x.b,x.na,x.nb⟩
end
def okSh (A B:Dt)(h w:Nat):Prop:=(A.h=h∧A.w=w∧B.h=h∧B.w=w)∨(A.h=1∧A.w=1∧B.h=h∧B.w=w)∨(A.h=h∧A.w=w∧B.h=1∧B.w=1)
end Fs
open PySem L2 Mx Fs
namespace Fs
def top (i:Nat):Stmt:=PySem.Challenge.pw_freshsheet_k31_chosen_tables.main.body.getD i (.Pass ⟨0,0,0,0⟩)
abbrev s_fitted_shape:Stmt:=top 62
abbrev s_table_shape:Stmt:=top 35
abbrev s_filled_table:Stmt:=top 36
abbrev s_spread_table:Stmt:=top 38
abbrev s_table_in_rows:Stmt:=top 40
abbrev s_chosen_table:Stmt:=top 67
abbrev s_cells_of:Stmt:=top 16
abbrev s_table_of_one:Stmt:=top 37
abbrev s_parts_of:Stmt:=top 55
abbrev s_block_led_to:Stmt:=top 56
abbrev s_all_parts:Stmt:=top 57
abbrev s_told_by_parts:Stmt:=top 58
abbrev s_block_shape:Stmt:=top 61
abbrev s_shown_table:Stmt:=top 64
abbrev s_leaf_table:Stmt:=top 65
abbrev s_outer_value:Stmt:=top 69
abbrev s_single_value:Stmt:=top 70
abbrev s_table_by_parts:Stmt:=top 71
abbrev s_reckoned:Stmt:=top 72
abbrev s__law_lowest:Stmt:=top 77
abbrev s__law_cell_at:Stmt:=top 74
abbrev s__law_pen:Stmt:=top 75
abbrev s__law_take:Stmt:=top 76
abbrev s__law_drawn_cell:Stmt:=top 78
abbrev s__law_great_value:Stmt:=top 79
abbrev s__law_drawn_value:Stmt:=top 80
abbrev s__law_drawn_table:Stmt:=top 81
abbrev s__law_laid:Stmt:=top 82
abbrev s__law_put_down:Stmt:=top 83
abbrev s__law_typed_alike:Stmt:=top 84
abbrev s__law_tabled:Stmt:=top 85
abbrev s__law_note:Stmt:=top 86
abbrev s__law_both_asked:Stmt:=top 87
abbrev s_law:Stmt:=top 88
theorem len_1 {α:Type}{us:List α}(h:us.length=1):∃ a0,us=[a0]:=match us,h with | [a0],_=>⟨a0,rfl⟩
theorem len_2 {α:Type}{us:List α}(h:us.length=2):∃ a0 a1,us=[a0,a1]:=match us,h with | [a0,a1],_=>⟨a0,a1,rfl⟩
theorem len_3 {α:Type}{us:List α}(h:us.length=3):∃ a0 a1 a2,us=[a0,a1,a2]:=match us,h with | [a0,a1,a2],_=>⟨a0,a1,a2,rfl⟩
theorem len_4 {α:Type}{us:List α}(h:us.length=4):∃ a0 a1 a2 a3,us=[a0,a1,a2,a3]:=match us,h with | [a0,a1,a2,a3],_=>⟨a0,a1,a2,a3,rfl⟩
theorem len_5 {α:Type}{us:List α}(h:us.length=5):∃ a0 a1 a2 a3 a4,us=[a0,a1,a2,a3,a4]:=match us,h with | [a0,a1,a2,a3,a4],_=>⟨a0,a1,a2,a3,a4,rfl⟩
set_option genInjectivity false in
set_option genSizeOf false in
structure Ad where
  f_fitted_shape:Addr
  d_fitted_shape:FuncData
  f_table_shape:Addr
  d_table_shape:FuncData
  f_filled_table:Addr
  d_filled_table:FuncData
  f_spread_table:Addr
  d_spread_table:FuncData
  f_table_in_rows:Addr
  d_table_in_rows:FuncData
  f_chosen_table:Addr
  d_chosen_table:FuncData
  f_cells_of:Addr
  d_cells_of:FuncData
  f_table_of_one:Addr
  d_table_of_one:FuncData
  f_parts_of:Addr
  d_parts_of:FuncData
  f_block_led_to:Addr
  d_block_led_to:FuncData
  f_all_parts:Addr
  d_all_parts:FuncData
  f_told_by_parts:Addr
  d_told_by_parts:FuncData
  f_block_shape:Addr
  d_block_shape:FuncData
  f_shown_table:Addr
  d_shown_table:FuncData
  f_leaf_table:Addr
  d_leaf_table:FuncData
  f_outer_value:Addr
  d_outer_value:FuncData
  f_single_value:Addr
  d_single_value:FuncData
  f_table_by_parts:Addr
  d_table_by_parts:FuncData
  f_reckoned:Addr
  d_reckoned:FuncData
  f__law_lowest:Addr
  d__law_lowest:FuncData
  f__law_cell_at:Addr
  d__law_cell_at:FuncData
  f__law_pen:Addr
  d__law_pen:FuncData
  f__law_take:Addr
  d__law_take:FuncData
  f__law_drawn_cell:Addr
  d__law_drawn_cell:FuncData
  f__law_great_value:Addr
  d__law_great_value:FuncData
  f__law_drawn_value:Addr
  d__law_drawn_value:FuncData
  f__law_drawn_table:Addr
  d__law_drawn_table:FuncData
  f__law_laid:Addr
  d__law_laid:FuncData
  f__law_put_down:Addr
  d__law_put_down:FuncData
  f__law_typed_alike:Addr
  d__law_typed_alike:FuncData
  f__law_tabled:Addr
  d__law_tabled:FuncData
  f__law_note:Addr
  d__law_note:FuncData
  f__law_both_asked:Addr
  d__law_both_asked:FuncData
  f_law:Addr
  d_law:FuncData
  c_reckoned:Addr
  P_reckoned:Addr
  c__law_both_asked:Addr
  P__law_both_asked:Addr
  c_law:Addr
  P_law:Addr
structure Txt (w:World)(K:PySem.W.Frag)(mg:Str→Option Value)(t:Ad):Prop where
  c_fitted_shape:Df K mg "fitted_shape" s_fitted_shape ["one","other"] t.f_fitted_shape t.d_fitted_shape
  c_table_shape:Df K mg "table_shape" s_table_shape ["table"] t.f_table_shape t.d_table_shape
  c_filled_table:Df K mg "filled_table" s_filled_table ["shape","value"] t.f_filled_table t.d_filled_table
  c_spread_table:Df K mg "spread_table" s_spread_table ["table","shape"] t.f_spread_table t.d_spread_table
  c_table_in_rows:Df K mg "table_in_rows" s_table_in_rows ["values","wide"] t.f_table_in_rows t.d_table_in_rows
  c_chosen_table:Df K mg "chosen_table" s_chosen_table ["condition","one","other","cell"] t.f_chosen_table t.d_chosen_table
  c_cells_of:Df K mg "cells_of" s_cells_of ["block"] t.f_cells_of t.d_cells_of
  c_table_of_one:Df K mg "table_of_one" s_table_of_one ["value"] t.f_table_of_one t.d_table_of_one
  c_parts_of:Df K mg "parts_of" s_parts_of ["formula"] t.f_parts_of t.d_parts_of
  c_block_led_to:Df K mg "block_led_to" s_block_led_to ["reference"] t.f_block_led_to t.d_block_led_to
  c_all_parts:Df K mg "all_parts" s_all_parts ["formula"] t.f_all_parts t.d_all_parts
  c_told_by_parts:Df K mg "told_by_parts" s_told_by_parts ["row","tell_one"] t.f_told_by_parts t.d_told_by_parts
  c_block_shape:Df K mg "block_shape" s_block_shape ["block"] t.f_block_shape t.d_block_shape
  c_shown_table:Df K mg "shown_table" s_shown_table ["block","shows"] t.f_shown_table t.d_shown_table
  c_leaf_table:Df K mg "leaf_table" s_leaf_table ["leaf","cell","shows"] t.f_leaf_table t.d_leaf_table
  c_outer_value:Df K mg "outer_value" s_outer_value ["value","outer"] t.f_outer_value t.d_outer_value
  c_single_value:Df K mg "single_value" s_single_value ["formula","tables","cell","outer"] t.f_single_value t.d_single_value
  c_table_by_parts:Df K mg "table_by_parts" s_table_by_parts ["formula","tables","cell","shows","outer"] t.f_table_by_parts t.d_table_by_parts
  c_reckoned:Df K mg "reckoned" s_reckoned ["opened","cell","shows","outer"] t.f_reckoned t.d_reckoned
  c__law_lowest:Df K mg "_law_lowest" s__law_lowest ["_law_top","_law_bottom"] t.f__law_lowest t.d__law_lowest
  c__law_cell_at:Df K mg "_law_cell_at" s__law_cell_at ["_law_script","_law_k"] t.f__law_cell_at t.d__law_cell_at
  c__law_pen:Df K mg "_law_pen" s__law_pen ["_law_script"] t.f__law_pen t.d__law_pen
  c__law_take:Df K mg "_law_take" s__law_take ["_law_pen_here","_law_most"] t.f__law_take t.d__law_take
  c__law_drawn_cell:Df K mg "_law_drawn_cell" s__law_drawn_cell ["_law_pen_here"] t.f__law_drawn_cell t.d__law_drawn_cell
  c__law_great_value:Df K mg "_law_great_value" s__law_great_value ["_law_pen_here"] t.f__law_great_value t.d__law_great_value
  c__law_drawn_value:Df K mg "_law_drawn_value" s__law_drawn_value ["_law_pen_here"] t.f__law_drawn_value t.d__law_drawn_value
  c__law_drawn_table:Df K mg "_law_drawn_table" s__law_drawn_table ["_law_pen_here","_law_high","_law_wide"] t.f__law_drawn_table t.d__law_drawn_table
  c__law_laid:Df K mg "_law_laid" s__law_laid ["_law_known","_law_sheet","_law_table","_law_high","_law_wide"] t.f__law_laid t.d__law_laid
  c__law_put_down:Df K mg "_law_put_down" s__law_put_down ["_law_pen_here","_law_known","_law_sheet","_law_table"] t.f__law_put_down t.d__law_put_down
  c__law_typed_alike:Df K mg "_law_typed_alike" s__law_typed_alike ["_law_told","_law_due"] t.f__law_typed_alike t.d__law_typed_alike
  c__law_tabled:Df K mg "_law_tabled" s__law_tabled ["_law_rows"] t.f__law_tabled t.d__law_tabled
  c__law_note:Df K mg "_law_note" s__law_note ["_law_asked","_law_one"] t.f__law_note t.d__law_note
  c__law_both_asked:Df K mg "_law_both_asked" s__law_both_asked ["_law_pen_here","_law_condition","_law_known","_law_home"] t.f__law_both_asked t.d__law_both_asked
  c_law:Df K mg "law" s_law ["_law_script"] t.f_law t.d_law
  len:mg "len"=none
  range:mg "range"=none
  isinstance:mg "isinstance"=none
  int:mg "int"=none
  bool:mg "bool"=none
  str:mg "str"=none
  tuple:mg "tuple"=none
  list:mg "list"=none
  reversed:mg "reversed"=none
  min:mg "min"=none
  all:mg "all"=none
  abs:mg "abs"=none
  enumerate:mg "enumerate"=none
  v_PART_PLACES:GDit w K mg "PART_PLACES" PPK
  v_ONE_PLACE:GTup K mg "ONE_PLACE" [V.int 1,V.int 1]
  kist:PySem.W.kitOne K (.type "str") (.type "tuple")=some false
  kiit:PySem.W.kitOne K (.type "int") (.type "tuple")=some false
  kib:PySem.W.kitOne K (.type "int") (.type "bool")=some false
  ki_bt:PySem.W.kitOne K (.type "bool") (.type "tuple")=some false
  ki_sb:PySem.W.kitOne K (.type "str") (.type "bool")=some false
  ki_si:PySem.W.kitOne K (.type "str") (.type "int")=some false
  kc_reckoned:t.d_reckoned.code=.ref t.c_reckoned
  kc__law_both_asked:t.d__law_both_asked.code=.ref t.c__law_both_asked
  kc_law:t.d_law.code=.ref t.c_law
  ne_reckoned__law_both_asked:t.P_reckoned≠t.P__law_both_asked
  ne_reckoned_law:t.P_reckoned≠t.P_law
  ne__law_both_asked_law:t.P__law_both_asked≠t.P_law
seal PE PT PW PA PS PSs PI PG PGs PF PO PJ OpR CallR IxR SlR
section
variable {P:Program}{w:World}{K:PySem.W.Frag}{mg:Str→Option Value}{base:Heap}{t:Ad}
theorem scfitted_shape:FnScope ["one","other"] ["one","other"] (defScope s_fitted_shape):=⟨rfl,rfl,rfl,by decide +kernel,rfl,by decide +kernel,by decide +kernel⟩
theorem ok_fitted_shape (T:Txt w K mg t):FnOk P w K mg base CX0 1 t.f_fitted_shape t.d_fitted_shape ["one","other"] (spFit K):=by
  have D:=T.c_fitted_shape
  refine D.fn.ok scfitted_shape (fun vs H Q E h=>?_) (fun cdv A outer s H vs Q E hr h=>?_)
  · obtain ⟨u,v,a,b,rfl,_⟩:=h
    rfl
  · obtain ⟨u,v,a,b,rfl,⟨p,e1,hp⟩,⟨q,e2,hq⟩,k⟩:=h
    have hu:=hr.units0
    have hu1:=hu_of hr
    refine ⟨_,((pss_cons (ps_if (pw_or (pt_cmpR (op_eqT hu) (pv 0) (pv 1) (nomark _)) (pw_or1 (pt_cmpR (op_eqT hu) (pv 1) (pe_gtup T.v_ONE_PLACE) (nomark _)))).pt (pss_one (ps_ret (pv 0))) pss_nil)
      (pss_one (ps_ret (pe_ifExp (pt_cmpR (op_eqT hu) (pv 0) (pe_gtup T.v_ONE_PLACE) (nomark _)) (pv 1) pe_non))))),?_⟩
    subst e1
    subst e2
    unfold fit at k
    refine ⟨_,rfl,_,rfl,p,q,_,_,rfl,rfl,hp,hq,rfl,rfl,decide (a=b),congrArg V.bl (eqP2 a b),ite2 (fun c1=>iteT ⟨_,rfl,?_⟩) (fun c1=>?_)⟩
    · rw [if_pos (of_decide_eq_true c1)] at k
      exact k _ _ ⟨p,rfl,hp⟩ (Same.refl _)
    have c1':=fun z=>c1 (decide_eq_true z)
    rw [if_neg c1'] at k
    refine ⟨_,rfl,fun o ho=>⟨q,o,_,_,rfl,rfl,hq,(ho _),rfl,rfl,decide (b=(1,1)),congrArg V.bl (eqP2 b (1,1)),ite2 (fun c2=>⟨_,rfl,?_⟩) (fun c2=>?_)⟩⟩
    · rw [if_pos (of_decide_eq_true c2)] at k
      exact k _ _ ⟨p,rfl,hp⟩ (Same.refl _)
    rw [if_neg fun z=>c2 (decide_eq_true z)] at k
    refine ⟨_,rfl,fun o ho=>⟨p,o,_,_,rfl,rfl,hp,(ho _),rfl,rfl,decide (a=(1,1)),congrArg V.bl (eqP2 a (1,1)),ite2 (fun c3=>⟨_,rfl,?_⟩) (fun c3=>?_)⟩⟩
    · rw [if_pos (of_decide_eq_true c3)] at k
      exact k _ _ ⟨q,rfl,hq⟩ (Same.refl _)
    · rw [if_neg fun z=>c3 (decide_eq_true z)] at k
      exact k _ _ rfl (Same.refl _)
theorem sctable_shape:FnScope ["table"] ["table"] (defScope s_table_shape):=⟨rfl,rfl,rfl,by decide +kernel,rfl,by decide +kernel,by decide +kernel⟩
theorem ok_table_shape (T:Txt w K mg t):FnOk P w K mg base CX0 1 t.f_table_shape t.d_table_shape ["table"] spTsh:=by
  have D:=T.c_table_shape
  refine D.fn.ok sctable_shape (fun vs H Q E h=>?_) (fun cdv A outer s H vs Q E hr h=>?_)
  · obtain ⟨x,m,w_,rfl,_⟩:=h
    rfl
  · obtain ⟨x,m,w_,rfl,ht,rc,k⟩:=h
    have hu:=hr.units0
    have hu1:=hu_of hr
    refine ⟨_,((pss_one (ps_ret (pe_tup (pa_consC (pe_callB call_len_seq (by rfl) T.len PySem.boot_len (pa_consN (pv 0) pa_nil)) (pa_consC (pe_callB call_len_seq (by rfl) T.len PySem.boot_len (pa_consS (pe_ix ix_tup (pv 0) pe_int (fun _ _=>rfl)) pa_nil)) pa_nil)))))),?_⟩
    obtain ⟨b,us,b0,rt,rfl,hb,hl,hb0,hr0⟩:=ht.row0 rc
    have e1:(((V.ref b0::us).length:Nat):Int)=(m.length:Int):=by rw [← hl];rfl
    have e2:(((hdV m::rt).length:Nat):Int)=(w_:Int):=by rw [← hr0];rfl
    refine ⟨_,rfl,b,_,rfl,.inr (SqT.of hb),_,rfl,b,_,_,_,rfl,rfl,SqT.of hb,atI_hd,b0,_,rfl,.inr (SqT.of hb0),two_le,fun r hr'=>?_⟩
    rw [e1,e2]
    exact k r hr'
theorem scfilled_table:FnScope ["shape","value"] ["shape","value"] (defScope s_filled_table):=⟨rfl,rfl,rfl,by decide +kernel,rfl,by decide +kernel,by decide +kernel⟩
theorem ok_filled_table (T:Txt w K mg t):FnOk P w K mg base CX0 1 t.f_filled_table t.d_filled_table ["shape","value"] (spFil K):=by
  have D:=T.c_filled_table
  refine D.fn.ok scfilled_table (fun vs H Q E h=>?_) (fun cdv A outer s H vs Q E hr h=>?_)
  · obtain ⟨p,u,h_,w_,rfl,_⟩:=h
    rfl
  · obtain ⟨p,u,h_,w_,rfl,⟨a,rfl,hp⟩,h1,h2,w1,w2,k⟩:=h
    have hu:=hr.units0
    have hu1:=hu_of hr
    refine ⟨_,((pss_one (ps_ret (pe_op op_repT (pe_tup (pa_consB (pe_op op_repT (pe_tup (pa_consN (pv 1) pa_nil)) (pe_ix ix_tup (pv 0) pe_int (fun _ _=>rfl))) pa_nil)) (pe_ix ix_tup (pv 0) pe_int (fun _ _=>rfl)))))),?_⟩
    refine ⟨_,rfl,(by show 1≤sizeLine;decide),fun q1 hq1=>?_⟩
    have s1:=Same.new (o:=.tup [u]) hq1
    have e1:upd H q1 (.tup [u]) q1=some (.tup [u]):=upd_same
    generalize upd H q1 (.tup [u])=H1 at *
    refine ⟨_,rfl,a,_,_,_,rfl,rfl,SqT.sm hp s1,rfl,q1,u,w_,rfl,rfl,e1,w1,w2,fun q2 H2 e2 s2=>⟨(by show 1≤sizeLine;decide),fun q3 hq3=>?_⟩⟩
    have s3:=Same.new (o:=.tup [.ref q2]) hq3
    have e3:upd H2 q3 (.tup [.ref q2]) q3=some (.tup [.ref q2]):=upd_same
    generalize upd H2 q3 (.tup [.ref q2])=H3 at *
    have s13:=(s1.trans s2).trans s3
    refine ⟨_,rfl,a,_,_,_,rfl,rfl,SqT.sm hp s13,rfl,q3,.ref q2,h_,rfl,rfl,e3,h1,h2,fun q4 H4 e4 s4=>?_⟩
    exact k _ _ ⟨q4,_,rfl,e4,rep_paired ⟨q2,rfl,s4 _ _ (s3 _ _ e2)⟩ h_⟩ (s13.trans s4)
theorem scspread_table:FnScope ["table","shape"] ["table","shape"] (defScope s_spread_table):=⟨rfl,rfl,rfl,by decide +kernel,rfl,by decide +kernel,by decide +kernel⟩
theorem ok_spread_table (T:Txt w K mg t):FnOk P w K mg base CX0 2 t.f_spread_table t.d_spread_table ["table","shape"] (spSpr K):=by
  have D:=T.c_spread_table
  refine D.fn.ok scspread_table (fun vs H Q E h=>?_) (fun cdv A outer s H vs Q E hr h=>?_)
  · obtain ⟨x,p,m,w_,h2,w2,rfl,_⟩:=h
    rfl
  · obtain ⟨x,p,m,w_,h2,w2,rfl,ht,rc,hp,h21,h22,w21,w22,k⟩:=h
    have hu:=hr.units0
    have hu1:=hu_of hr
    refine ⟨_,((pss_one (ps_ret (pe_ifExp (pt_cmpR (op_eqT hu) (pe_cl T.c_table_shape (ok_table_shape T) (hr.mono (by decide)) (pa_consN (pv 0) pa_nil)) (pe_tup (pa_consK pe_int (pa_consK pe_int pa_nil))) (nomark _)) (pe_cl T.c_filled_table (ok_filled_table T) (hr.mono (by decide)) (pa_consN (pv 1) (pa_consS (pe_ix ix_tup (pe_ix ix_tup (pv 0) pe_int (fun _ _=>rfl)) pe_int (fun _ _=>rfl)) pa_nil))) (pv 0))))),?_⟩
    refine ⟨_,rfl,x,m,w_,rfl,ht,rc,fun r hr'=>?_⟩
    have s1:=Same.new (o:=.tup [.int m.length,.int w_]) hr'
    have e1:upd H r (.tup [.int m.length,.int w_]) r=some (.tup [.int m.length,.int w_]):=upd_same
    generalize upd H r (.tup [.int m.length,.int w_])=H1 at *
    refine ⟨two_le,fun q hq=>?_⟩
    have s2:=Same.new (o:=.tup [.int 1,.int 1]) hq
    have e2:upd H1 q (.tup [.int 1,.int 1]) q=some (.tup [.int 1,.int 1]):=upd_same
    have e12:=s2 _ _ e1
    generalize upd H1 q (.tup [.int 1,.int 1])=H2 at *
    have s12:=s1.trans s2
    refine ⟨r,q,_,_,rfl,rfl,SqT.of e12,SqT.of e2,rfl,rfl,decide (((m.length:Int),(w_:Int))=(1,1)),congrArg V.bl (eqP2 ((m.length:Int),(w_:Int)) (1,1)),?_⟩
    have ht2:=ht.kp (Kp.same s12)
    unfold sprd at k
    by_cases c:((m.length:Int),(w_:Int))=(1,1)
    · have c':(m.length,w_)=(1,1):=by
        injection c with c1 c2
        have d1:m.length=1:=by omega
        have d2:w_=1:=by omega
        rw [d1,d2]
      rw [if_pos c'] at k
      rw [decide_eq_true c]
      obtain ⟨b,us,b0,rt,rfl,hb,_,hb0,_⟩:=ht2.row0 rc
      refine iteT ⟨_,rfl,_,rfl,b,_,_,_,rfl,rfl,SqT.of hb,atI_hd,b0,_,_,_,rfl,rfl,SqT.of hb0,atI_hd,?_⟩
      exact ⟨p,hdV m,h2,w2,rfl,ShAt.same hp s12,h21,h22,w21,w22,fun x' H' hx s'=>k x' H' hx (s12.trans s')⟩
    · have c':¬ (m.length,w_)=(1,1):=fun z=>c (by injection z with z1 z2;rw [z1,z2];rfl)
      rw [if_neg c'] at k
      rw [decide_eq_false c]
      exact iteF ⟨_,rfl,k _ _ ht2 s12⟩
theorem sctable_in_rows:FnScope ["values","wide"] ["values","wide"] (defScope s_table_in_rows):=⟨rfl,rfl,rfl,by decide +kernel,rfl,by decide +kernel,by decide +kernel⟩
theorem ok_table_in_rows (T:Txt w K mg t):FnOk P w K mg base CX0 1 t.f_table_in_rows t.d_table_in_rows ["values","wide"] spInR:=by
  have D:=T.c_table_in_rows
  refine D.fn.ok sctable_in_rows (fun vs H Q E h=>?_) (fun cdv A outer s H vs Q E hr h=>?_)
  · obtain ⟨l,us,w_,h_,rfl,_⟩:=h
    rfl
  · obtain ⟨l,us,w_,h_,rfl,hl,hlen,w1,w2,h2,k⟩:=h
    have hu:=hr.units0
    have hu1:=hu_of hr
    refine ⟨_,((pss_one (ps_ret (pe_callTy call_tuple_of (by rfl) T.tuple boot_tuple (pa_consH (pe_comp (fv:=["values","wide"]) (js:=[0,1]) (cl:=[("wide",s.heap.objs.size+2),("values",s.heap.objs.size+1)]) rfl (by with_unfolding_all rfl) ⟨rfl,by decide +kernel,by decide +kernel,rfl,by decide +kernel,by decide +kernel,(List.forall_mem_cons.mpr ⟨⟨rfl,rfl,rfl⟩,(List.forall_mem_cons.mpr ⟨⟨rfl,rfl,rfl⟩,(List.forall_mem_nil _)⟩)⟩),(List.forall_mem_cons.mpr ⟨rfl,(List.forall_mem_cons.mpr ⟨rfl,(List.forall_mem_nil _)⟩)⟩),(.cons rfl (.cons rfl .nil))⟩ (pi_range3 rfl T.range (pa_consK pe_int (pa_consC (pe_callB call_len_seq (by rfl) T.len PySem.boot_len (pa_consN (pv 0) pa_nil)) (pa_consN (pv 1) pa_nil)))) (fun _ _ _ _ _=>pf_nil) (fun _ _ _ _ _=>(pe_callTy call_tuple_ofc (by rfl) T.tuple boot_tuple (pa_consS (pe_slice slc_list (pv 1) (po_some (pv 0)) (po_some (pe_op op_add (pv 0) (pv 2)))) pa_nil)))) pa_nil))))),?_⟩
    have hlen2:h_*w_≤10000:=Nat.mul_le_mul h2 w2
    refine ⟨_,rfl,l,us,rfl,.inl (SqL.of hl),_,rfl,_,_,rfl,⟨by omega,by omega,by omega,by omega⟩,fun D hD=>?_⟩
    rw [hlen,stepN_mul w1]
    have sD:∀ o,Same H (upd H D o):=fun o=>Same.new hD
    refine ⟨fun i m H4=>m=h_-i∧i≤h_∧∃ qs,H4 D=some (.lst qs)∧qs.length=i∧Paired (RsAt H4) qs ((chunk us w_ h_).take i)∧Same H H4,⟨h_,rfl,Nat.zero_le _,[],upd_same,rfl,.nil,sD _⟩,?_⟩
    rintro i m H4 ⟨rfl,hi,qs,hq4,hql,pr4,s4⟩
    by_cases hlt:i<h_
    · refine .inr ⟨hlt,fun x H' y=>?_⟩
      obtain ⟨rfl,rfl⟩:=y
      have hiw:i*w_+w_≤us.length:=by
        rw [hlen]
        have:(i+1)*w_≤h_*w_:=Nat.mul_le_mul_right w_ hlt
        rw [Nat.succ_mul] at this
        omega
      have ec:cutV us (some ((i:Int)*(w_:Int))) (some ((i:Int)*(w_:Int)+(w_:Int)))=(us.drop (i*w_)).take w_:=by
        have:=cut_both (xs:=us) (i:=i*w_) (j:=w_) hiw
        rw [Int.natCast_mul] at this
        exact this
      refine ⟨_,rfl,_,rfl,_,rfl,_,rfl,_,rfl,_,_,rfl,rfl,_,rfl,l,us,rfl,SqL.of (s4 _ _ hl),fun d hd=>?_⟩
      rw [ec]
      refine ⟨d,_,rfl,.inl ⟨SqL.of upd_same,fun q hq=>?_⟩⟩
      have s5:=(Same.new (o:=.lst ((us.drop (i*w_)).take w_)) hd).trans (Same.new (o:=.tup ((us.drop (i*w_)).take w_)) hq)
      have hqq:upd (upd H' d (.lst ((us.drop (i*w_)).take w_))) q (.tup ((us.drop (i*w_)).take w_)) q=some (.tup ((us.drop (i*w_)).take w_)):=upd_same
      generalize upd (upd H' d (.lst ((us.drop (i*w_)).take w_))) q (.tup ((us.drop (i*w_)).take w_))=H5 at *
      have hD5:=s5 _ _ hq4
      have kd:∀ o,Kp H5 (upd H5 D o):=fun o=>Kp.lst hD5 KeepX.upd
      refine ⟨qs,hD5,sl_lt (by omega),h_-(i+1),(by omega),rfl,hlt,qs++[.ref q],upd_same,(by rw [List.length_append,hql];rfl),?_,fun b o e=>?_⟩
      · rw [List.take_add_one,chunk_get hlt]
        exact psnoc (Paired.imp' (fun _ _ ⟨c,e,y⟩=>⟨c,e,kd _ _ _ (s5 _ _ y)⟩) pr4) ⟨q,rfl,kd _ _ _ hqq⟩
      · rw [upd_ne (ne_of_none e hD)]
        exact s5 _ _ (s4 _ _ e)
    · have ei:i=h_:=by omega
      subst ei
      refine .inl ⟨Nat.le_refl _,D,qs,rfl,.inl ⟨SqL.of hq4,fun p hp=>k _ _ ⟨p,qs,rfl,upd_same,?_⟩ (s4.trans (Same.new hp))⟩⟩
      rw [List.take_of_length_le (Nat.le_of_eq len_chunk)] at pr4
      exact Paired.imp' (fun _ _ ⟨c,e,y⟩=>⟨c,e,Same.new hp _ _ y⟩) pr4
theorem scchosen_table:FnScope ["condition","one","other","cell","shape"] ["condition","one","other","cell"] (defScope s_chosen_table):=⟨rfl,rfl,rfl,by decide +kernel,rfl,by decide +kernel,by decide +kernel⟩
theorem ok_chosen_table (T:Txt w K mg t):FnOk P w K mg base CX0 3 t.f_chosen_table t.d_chosen_table ["condition","one","other","cell"] (spCht K):=by
  have D:=T.c_chosen_table
  refine D.fn.ok scchosen_table (fun vs H Q E h=>?_) (fun cdv A outer s H vs Q E hr h=>?_)
  · obtain ⟨u,x,y,z,v,mu,nu,m,n,w1,w2,hm,rfl,_⟩:=h
    rfl
  · obtain ⟨u,x,y,z,v,mu,nu,m,n,w1,w2,hm,rfl,hu_,hx,hy,vm,vn,rm,rn,ft,lm,ln,b1,b2,hz,k⟩:=h
    have hu:=hr.units0
    have hu1:=hu_of hr
    refine ⟨_,((pss_cons (ps_set (i:=4) scchosen_table.nd rfl (Or.inl rfl) (pe_cl T.c_fitted_shape (ok_fitted_shape T) (hr.mono (by decide)) (pa_consC (pe_cl T.c_table_shape (ok_table_shape T) (hr.mono (by decide)) (pa_consN (pv 1) pa_nil)) (pa_consC (pe_cl T.c_table_shape (ok_table_shape T) (hr.mono (by decide)) (pa_consN (pv 2) pa_nil)) pa_nil))))
      (pss_cons (ps_if (pt_cmpR op_eq (pe_ix ix_tup (pv 0) pe_int (fun _ _=>rfl)) pe_str (nomark _)) (pss_one (ps_ret (pe_cl T.c_filled_table (ok_filled_table T) (hr.mono (by decide)) (pa_consN (pv 4) (pa_consN (pv 0) pa_nil))))) pss_nil)
      (pss_cons (ps_if (pt_cmpR op_eq (pe_ix ix_tup (pv 0) pe_int (fun _ _=>rfl)) pe_str (nomark _)) (pss_one (ps_ret (pe_cl T.c_spread_table (ok_spread_table T) (hr.mono (by decide)) (pa_consN (pv 2) (pa_consN (pv 4) pa_nil))))) pss_nil)
      (pss_cons (ps_if (pt_cmpR op_eq (pe_ix ix_tup (pv 0) pe_int (fun _ _=>rfl)) pe_str (nomark _)) (pss_one (ps_ret (pe_cl T.c_spread_table (ok_spread_table T) (hr.mono (by decide)) (pa_consI (pe_ifExp (pt_val (pe_ix ix_tup (pv 0) pe_int (fun _ _=>rfl))) (pv 1) (pv 2)) (pa_consN (pv 4) pa_nil))))) pss_nil)
      (pss_one (ps_ret (pe_cl T.c_filled_table (ok_filled_table T) (hr.mono (by decide)) (pa_consN (pv 4) (pa_consT (pe_tup (pa_consK pe_str (pa_consK pe_str (pa_consN (pv 3) pa_nil)))) pa_nil)))))))))),?_⟩
    have g1:=rm.len;have g2:=rn.len;have g3:=rm.w1;have g4:=rn.w1
    have l1:mu.length=m.length:=Paired.length vm
    have l2:nu.length=n.length:=Paired.length vn
    have ewm:wd m=w1:=rm.wd
    have ewn:wd n=w2:=rn.wd
    have ft':(m.length=n.length∧w1=w2)∨(n.length=1∧w2=1)∨(m.length=1∧w1=1):=by
      rcases ft with ⟨e1,e2⟩ | ⟨e1,e2⟩ | ⟨e1,e2⟩
      · exact .inl ⟨e1,by rw [← ewm,← ewn];exact e2⟩
      · exact .inr (.inl ⟨e1,by rw [← ewn];exact e2⟩)
      · exact .inr (.inr ⟨e1,by rw [← ewm];exact e2⟩)
    obtain ⟨h_,hh⟩:∃ h,h=max m.length n.length:=⟨_,rfl⟩
    obtain ⟨w_,hw⟩:∃ w,w=max w1 w2:=⟨_,rfl⟩
    have eT:chT v m n hm=tabC (fun j k=>chV v (cy .none m j k) (cy .none n j k) hm) h_ w_:=by unfold chT;rw [hh,hw,ewm,ewn]
    rw [eT] at k
    have cm:(mu.length=h_∧w1=w_)∨(mu.length=1∧w1=1):=by
      rcases ft' with h | h | h
      · exact .inl ⟨by omega,by omega⟩
      · exact .inl ⟨by omega,by omega⟩
      · exact .inr ⟨by omega,by omega⟩
    have cn:(nu.length=h_∧w2=w_)∨(nu.length=1∧w2=1):=by
      rcases ft' with h | h | h
      · exact .inl ⟨by omega,by omega⟩
      · exact .inr ⟨by omega,by omega⟩
      · exact .inl ⟨by omega,by omega⟩
    have rmu:=paired_rect vm rm
    have rnu:=paired_rect vn rn
    refine ⟨_,rfl,x,mu,w1,rfl,hx,rmu,fun ra hra=>?_⟩
    have s1:=Same.new (o:=.tup [.int mu.length,.int w1]) hra
    have e1:upd H ra (.tup [.int mu.length,.int w1]) ra=some (.tup [.int mu.length,.int w1]):=upd_same
    generalize upd H ra (.tup [.int mu.length,.int w1])=H1 at *
    refine ⟨_,rfl,y,nu,w2,rfl,hy.kp (Kp.same s1),rnu,fun rb hrb=>?_⟩
    have s2:=Same.new (o:=.tup [.int nu.length,.int w2]) hrb
    have e2:upd H1 rb (.tup [.int nu.length,.int w2]) rb=some (.tup [.int nu.length,.int w2]):=upd_same
    have e12:=s2 _ _ e1
    generalize upd H1 rb (.tup [.int nu.length,.int w2])=H2 at *
    refine ⟨.ref ra,.ref rb,((mu.length:Int),(w1:Int)),((nu.length:Int),(w2:Int)),rfl,⟨ra,rfl,SqT.of e12⟩,⟨rb,rfl,SqT.of e2⟩,fun sh H3 hs3 s3=>?_⟩
    rw [l1,l2,fit_max ft' g1 g3 g2 g4,← hh,← hw] at hs3
    have s13:=(s1.trans s2).trans s3
    have k13:=Kp.same s13
    have hu3:=hu_.kp k13
    have hz3:=hz.kp k13
    have spr:∀ (tb:V) (mm:List (List V)) (vv:List (List Vl)) (ww:Nat) (Q':VK),RowsAt H3 tb mm→VtAt H3 mm vv→Rect vv ww→((mm.length=h_∧ww=w_)∨(mm.length=1∧ww=1))→(∀ j k,chV v (cy .none m j k) (cy .none n j k) hm=cy .none vv j k)→(∀ x H',TbAt H' x (tabC (fun j k=>chV v (cy .none m j k) (cy .none n j k) hm) h_ w_)→Same H H'→Q' x H')→spSpr K [tb,sh] H3 Q' E:=fun tb mm vv ww Q' h1 h2 h3 h4 h5 h6=>
      ⟨tb,sh,mm,ww,h_,w_,rfl,h1,paired_rect h2 h3,hs3,by omega,by omega,by omega,by omega,fun y' H' hy' s'=>h6 y' H' ⟨_,hy',spread_tab (VtAt.kp h2 (Kp.same s')) h3 h4 h5⟩ (s13.trans s')⟩
    obtain ⟨q,xs,rfl,hq,_⟩:=hu3.hd
    cases v with
    | flt wf zf rf cf=>
      refine ⟨_,rfl,q,_,_,_,rfl,rfl,SqT.of hq,atI_hd,rfl,true,(by show V.bl (decide (V.str (Str.ofString "fault")=vS "fault"))=_;decide +kernel),iteT ?_⟩
      exact ⟨_,rfl,_,rfl,sh,.ref q,h_,w_,rfl,hs3,by omega,by omega,by omega,by omega,fun x' H' hx' s'=>k x' H' ⟨_,hx',fill_tab (hu3.kp (Kp.same s')) fun _ _=>rfl⟩ (s13.trans s')⟩
    | none=>
      refine ⟨_,rfl,q,_,_,_,rfl,rfl,SqT.of hq,atI_hd,rfl,false,(by show V.bl (decide (V.str (Str.ofString "none")=vS "fault"))=_;decide +kernel),iteF ?_⟩
      refine ⟨_,rfl,q,_,_,_,rfl,rfl,SqT.of hq,atI_hd,rfl,true,(by show V.bl (decide (V.str (Str.ofString "none")=vS "none"))=_;decide +kernel),iteT ?_⟩
      exact ⟨_,rfl,_,rfl,spr y nu n w2 Q (hy.kp k13) (VtAt.kp vn k13) rn cn (fun _ _=>rfl) k⟩
    | tru b=>
      have hq':H3 q=some (.tup [vS "truth",.bl b]):=by obtain ⟨_,e,h⟩:=hu3;cases e;exact h
      refine ⟨_,rfl,q,_,_,_,rfl,rfl,SqT.of hq,atI_hd,rfl,false,(by show V.bl (decide (V.str (Str.ofString "truth")=vS "fault"))=_;decide +kernel),iteF ?_⟩
      refine ⟨_,rfl,q,_,_,_,rfl,rfl,SqT.of hq,atI_hd,rfl,false,(by show V.bl (decide (V.str (Str.ofString "truth")=vS "none"))=_;decide +kernel),iteF ?_⟩
      refine ⟨_,rfl,q,_,_,_,rfl,rfl,SqT.of hq,atI_hd,rfl,true,(by show V.bl (decide (V.str (Str.ofString "truth")=vS "truth"))=_;decide +kernel),iteT ?_⟩
      refine ⟨_,rfl,q,_,_,_,rfl,rfl,SqT.of hq',rfl,b,rfl,?_⟩
      cases b with
      | true=>exact iteT ⟨_,rfl,_,rfl,spr x mu m w1 Q (hx.kp k13) (VtAt.kp vm k13) rm cm (fun _ _=>rfl) k⟩
      | false=>exact iteF ⟨_,rfl,_,rfl,spr y nu n w2 Q (hy.kp k13) (VtAt.kp vn k13) rn cn (fun _ _=>rfl) k⟩
    | num t b=>
      refine ⟨_,rfl,q,_,_,_,rfl,rfl,SqT.of hq,atI_hd,rfl,false,(by show V.bl (decide (V.str (Str.ofString "number")=vS "fault"))=_;decide +kernel),iteF ?_⟩
      refine ⟨_,rfl,q,_,_,_,rfl,rfl,SqT.of hq,atI_hd,rfl,false,(by show V.bl (decide (V.str (Str.ofString "number")=vS "none"))=_;decide +kernel),iteF ?_⟩
      refine ⟨_,rfl,q,_,_,_,rfl,rfl,SqT.of hq,atI_hd,rfl,false,(by show V.bl (decide (V.str (Str.ofString "number")=vS "truth"))=_;decide +kernel),iteF ?_⟩
      refine ⟨_,rfl,_,rfl,three_le,fun qf hqf=>?_⟩
      exact ⟨sh,.ref qf,h_,w_,rfl,ShAt.same hs3 (Same.new hqf),by omega,by omega,by omega,by omega,fun x' H' hx' s'=>k x' H' ⟨_,hx',fill_tab ((hz3.flt hqf).kp (Kp.same s')) fun _ _=>rfl⟩ ((s13.trans (Same.new hqf)).trans s')⟩
    | txt z'=>
      refine ⟨_,rfl,q,_,_,_,rfl,rfl,SqT.of hq,atI_hd,rfl,false,(by show V.bl (decide (V.str (Str.ofString "text")=vS "fault"))=_;decide +kernel),iteF ?_⟩
      refine ⟨_,rfl,q,_,_,_,rfl,rfl,SqT.of hq,atI_hd,rfl,false,(by show V.bl (decide (V.str (Str.ofString "text")=vS "none"))=_;decide +kernel),iteF ?_⟩
      refine ⟨_,rfl,q,_,_,_,rfl,rfl,SqT.of hq,atI_hd,rfl,false,(by show V.bl (decide (V.str (Str.ofString "text")=vS "truth"))=_;decide +kernel),iteF ?_⟩
      refine ⟨_,rfl,_,rfl,three_le,fun qf hqf=>?_⟩
      exact ⟨sh,.ref qf,h_,w_,rfl,ShAt.same hs3 (Same.new hqf),by omega,by omega,by omega,by omega,fun x' H' hx' s'=>k x' H' ⟨_,hx',fill_tab ((hz3.flt hqf).kp (Kp.same s')) fun _ _=>rfl⟩ ((s13.trans (Same.new hqf)).trans s')⟩
theorem sccells_of:FnScope ["block","cells","row","column"] ["block"] (defScope s_cells_of):=⟨rfl,rfl,rfl,by decide +kernel,rfl,by decide +kernel,by decide +kernel⟩
theorem ok_cells_of (T:Txt w K mg t):FnOk P w K mg base CX0 1 t.f_cells_of t.d_cells_of ["block"] spCs:=by
  have D:=T.c_cells_of
  refine D.fn.ok sccells_of (fun vs H Q E h=>?_) (fun cdv A outer s H vs Q E hr h=>?_)
  · obtain ⟨p,z,r,c,r2,c2,rfl,_⟩:=h
    rfl
  · obtain ⟨p,z,r,c,r2,c2,rfl,hp,k⟩:=h
    have hu:=hr.units0
    have hu1:=hu_of hr
    refine ⟨_,((pss_cons (ps_set (i:=1) sccells_of.nd rfl (Or.inl rfl) (pe_lst pa_nil))
      (pss_cons (ps_for PassesOwn.never rfl (pi_range2 rfl T.range (pa_consS (pe_ix ix_tup (pv 0) pe_int (fun _ _=>rfl)) (pa_consB (pe_op op_add (pe_ix ix_tup (pv 0) pe_int (fun _ _=>rfl)) pe_int) pa_nil))) (pg_name (i:=2) sccells_of.nd rfl (Or.inl rfl))
      (pss_one (ps_for PassesOwn.never rfl (pi_range2 rfl T.range (pa_consS (pe_ix ix_tup (pv 0) pe_int (fun _ _=>rfl)) (pa_consB (pe_op op_add (pe_ix ix_tup (pv 0) pe_int (fun _ _=>rfl)) pe_int) pa_nil))) (pg_name (i:=3) sccells_of.nd rfl (Or.inl rfl))
      (pss_one (ps_expr (pe_bm PySem.F.plainAttrs_list PySem.F.slot_list_append PySem.F.type_list_append mt_append (pv 1) (pa_consT (pe_tup (pa_consS (pe_ix ix_tup (pv 0) pe_int (fun _ _=>rfl)) (pa_consN (pv 2) (pa_consN (pv 3) pa_nil)))) pa_nil)))))))
      (pss_one (ps_ret (pv 1)))))),?_⟩
    have g1:=hp.r1;have g2:=hp.r16;have g3:=hp.c1;have g4:=hp.c8;have g5:=hp.r0;have g6:=hp.c0
    have hw:(c2+1-c).toNat=(c2-c+1).toNat:=by omega
    have hh:(r2+1-r).toNat=(r2-r+1).toNat:=by omega
    generalize hwd:(c2-c+1).toNat=w at hw k
    generalize hhd:(r2-r+1).toNat=hgt at hh k
    have hw1:1≤w:=by omega
    have hw8:w≤8:=by omega
    have hh16:hgt≤16:=by omega
    refine ⟨Nat.zero_le _,fun l hl=>?_⟩
    have npl:p≠l:=ne_of_none hp.ob hl
    refine ⟨_,rfl,p,_,_,_,rfl,rfl,SqT.of (Same.new hl _ _ hp.ob),rfl,_,rfl,p,_,_,_,rfl,rfl,SqT.of (Same.new hl _ _ hp.ob),rfl,_,_,rfl,rfl,_,_,rfl,⟨by omega,by omega,by omega,by omega⟩,?_⟩
    rw [hh]
    refine for_range (fun i σ H2=>∃ x2 x3,σ=[some (.ref p),some (.ref l),x2,x3]∧Same H H2∧CsAt H2 l z r c w (i*w)) ⟨_,_,rfl,Same.new hl,⟨[],upd_same,by simp,fun k v e=>by simp at e⟩⟩ ?_ ?_
    · rintro i σ H2 hi ⟨x2,x3,rfl,s2,cs2⟩
      have hp2:=hp.same s2
      refine ⟨_,rfl,p,_,_,_,rfl,rfl,SqT.of hp2.ob,rfl,_,rfl,p,_,_,_,rfl,rfl,SqT.of hp2.ob,rfl,_,_,rfl,rfl,_,_,rfl,⟨by omega,by omega,by omega,by omega⟩,?_⟩
      rw [hw]
      refine for_range (fun j σ H3=>∃ x3,σ=[some (.ref p),some (.ref l),some (.int (r+i)),x3]∧Same H H3∧CsAt H3 l z r c w (i*w+j)) ⟨_,rfl,s2,cs2⟩ ?_ ?_
      · rintro j σ H3 hj ⟨x3,rfl,s3,vs,hv1,hv2,hv3⟩
        have hp3:=hp.same s3
        have hlen:i*w+j<1000:=by
          have:i*w≤15*w:=Nat.mul_le_mul_right w (by omega)
          omega
        refine ⟨_,rfl,.inl ⟨rfl,_,SqL.of hv1⟩,_,rfl,p,_,_,_,rfl,rfl,SqT.of hp3.ob,rfl,_,rfl,_,rfl,three_le,fun q hq=>?_⟩
        have nlq:l≠q:=ne_of_none hv1 hq
        refine ⟨l,vs,_,rfl,rfl,(by rw [upd_ne nlq];exact hv1),(by rw [hv2];exact sl_lt (by omega)),?_⟩
        refine ⟨_,rfl,Same.step s3 hl hq,CsAt.push hv1 hv2 hv3 hq ?_ ?_⟩
        · show r+(i:Int)=r+(((i*w+j) / w:Nat):Int)
          rw [Nat.mul_comm i w,Nat.mul_add_div (by omega),Nat.div_eq_of_lt hj];simp
        · show c+(j:Int)=c+(((i*w+j)%w:Nat):Int)
          rw [Nat.mul_comm i w,Nat.mul_add_mod,Nat.mod_eq_of_lt hj]
      · rintro σ H3 ⟨x3,rfl,s3,cs3⟩
        exact ⟨_,_,rfl,s3,by rw [Nat.succ_mul];exact cs3⟩
    · rintro σ H2 ⟨x2,x3,rfl,s2,cs2⟩
      exact ⟨_,rfl,k l _ hl s2 cs2⟩
theorem sctable_of_one:FnScope ["value"] ["value"] (defScope s_table_of_one):=⟨rfl,rfl,rfl,by decide +kernel,rfl,by decide +kernel,by decide +kernel⟩
theorem ok_table_of_one (T:Txt w K mg t):FnOk P w K mg base CX0 1 t.f_table_of_one t.d_table_of_one ["value"] spOne:=by
  have D:=T.c_table_of_one
  refine D.fn.ok sctable_of_one (fun vs H Q E h=>?_) (fun cdv A outer s H vs Q E hr h=>?_)
  · obtain ⟨u,rfl,_⟩:=h
    rfl
  · obtain ⟨u,rfl,k⟩:=h
    have hu:=hr.units0
    have hu1:=hu_of hr
    refine ⟨_,((pss_one (ps_ret (pe_tup (pa_consT (pe_tup (pa_consN (pv 0) pa_nil)) pa_nil))))),?_⟩
    refine ⟨_,rfl,(by show 1≤sizeLine;decide),fun p hp=>⟨(by show 1≤sizeLine;decide),fun q hq=>?_⟩⟩
    exact k _ _ ⟨q,_,rfl,upd_same,.cons ⟨p,rfl,Same.new hq _ _ upd_same⟩ .nil⟩ ((Same.new hp).trans (Same.new hq))
theorem scparts_of:FnScope ["formula"] ["formula"] (defScope s_parts_of):=⟨rfl,rfl,rfl,by decide +kernel,rfl,by decide +kernel,by decide +kernel⟩
theorem ok_parts_of (T:Txt w K mg t):FnOk P w K mg base CX0 1 t.f_parts_of t.d_parts_of ["formula"] spPrt:=by
  have D:=T.c_parts_of
  refine D.fn.ok scparts_of (fun vs H Q E h=>?_) (fun cdv A outer s H vs Q E hr h=>?_)
  · obtain ⟨v,f,pr,n,rfl,_⟩:=h
    rfl
  · obtain ⟨v,f,pr,n,rfl,hv,fo,k⟩:=h
    have hu:=hr.units0
    have hu1:=hu_of hr
    refine ⟨_,((pss_cons (ps_if (pt_cmpR op_eq (pe_ix ix_tup (pv 0) pe_int (fun _ _=>rfl)) pe_str (nomark _)) (pss_one (ps_ret (pe_callTy call_list_of (by rfl) T.list boot_list (pa_consS (pe_ix ix_tup (pv 0) pe_int (fun _ _=>rfl)) pa_nil)))) pss_nil)
      (pss_one (ps_ret (pe_comp (fv:=["formula"]) (js:=[0]) (cl:=[("formula",s.heap.objs.size+1)]) rfl (by with_unfolding_all rfl) ⟨rfl,by decide +kernel,by decide +kernel,rfl,by decide +kernel,by decide +kernel,(List.forall_mem_cons.mpr ⟨⟨rfl,rfl,rfl⟩,(List.forall_mem_nil _)⟩),(List.forall_mem_cons.mpr ⟨rfl,(List.forall_mem_nil _)⟩),(.cons rfl .nil)⟩ (pi_tup (pe_kget2 (pe_gdit T.v_PART_PLACES) (pe_ix ix_tup (pv 0) pe_int (fun _ _=>rfl)) (pe_tup pa_nil) ⟨rfl,rfl,rfl,rfl⟩)) (fun _ _ _ _ _=>pf_nil) (fun _ _ _ _ _=>(pe_ix ixc_tup (pv 1) (pv 0) (fun _ _=>rfl)))))))),?_⟩
    cases hv with
    | @lf a l hl=>
      obtain ⟨w,r,ha,h1,h2,_⟩:=hl.pp
      refine ⟨_,rfl,a,_,_,_,rfl,rfl,SqT.of ha,atI_hd,rfl,false,h1,iteF ?_⟩
      refine fun pa kvs hk hp=>⟨pa,kvs,rfl,hk,_,rfl,a,_,_,_,rfl,rfl,SqT.of ha,atI_hd,Nat.zero_le _,fun e he=>⟨Sum.inr w,rfl,?_⟩⟩
      rw [pp_none hp h2]
      have s1:=Same.new (o:=.tup []) he
      have sq:∀ ws D,upd H e (.tup []) D=none→SqT K (upd (upd H e (.tup [])) D (.lst ws)) e []:=fun ws D hD=>SqT.of (Same.new hD _ _ upd_same)
      refine ⟨e,rfl,⟨_,SqT.of upd_same⟩,fun D hD=>?_⟩
      refine ⟨fun i m H4=>i=0∧H4=upd (upd H e (.tup [])) D (.lst []),⟨0,rfl,rfl⟩,?_⟩
      rintro i m H4 ⟨rfl,rfl⟩
      refine .inl ⟨⟨[],sq _ _ hD,Nat.le_refl _⟩,?_⟩
      exact k D [] _ (Same.back0 s1 hD) upd_same .nil (s1.trans (Same.new hD))
    | @nd a t kd us ps ha ht hl hh=>
      cases fo with
      | nd ok hps=>
      obtain ⟨r0,er⟩:=lay_kw t kd us
      have ha0:H a=some (.tup (.str (kw kd)::r0)):=by rw [ha,er]
      have fm:=FmAt.parts hl hh
      cases ho:isOwn kd with
      | true=>
        obtain ⟨z,rfl⟩:∃ z,kd=.own z:=by cases kd <;> first | exact ⟨_,rfl⟩ | cases ho
        replace ha:H a=some (.tup [vS "own",.str z,.ref t]):=ha
        refine ⟨_,rfl,a,_,_,_,rfl,rfl,SqT.of ha,atI_hd,rfl,true,(by decide +kernel),iteT ?_⟩
        refine ⟨_,rfl,a,_,_,_,rfl,rfl,SqT.of ha,atI_2,t,us,rfl,.inr (SqT.of (ht rfl)),fun d hd=>?_⟩
        exact k d us _ hd upd_same (FmsAt.kp fm (Kp.same (Same.new hd))) (Same.new hd)
      | false=>
        obtain ⟨pl,hpl,lpl,hat⟩:=lay_pl (t:=t) (us:=us) (by rw [hl];exact ok) ho
        have l3:=ok.le
        refine ⟨_,rfl,a,_,_,_,rfl,rfl,SqT.of ha0,atI_hd,rfl,false,congrArg V.bl ((kw_own ok).trans ho),iteF ?_⟩
        refine fun pa kvs hk hp=>⟨pa,kvs,rfl,hk,_,rfl,a,_,_,_,rfl,rfl,SqT.of ha0,atI_hd,Nat.zero_le _,fun e he=>⟨Sum.inr (kw kd),rfl,?_⟩⟩
        obtain ⟨b,hb,hsq⟩:=pp_get hp hpl
        rw [hb]
        have s1:=Same.new (o:=.tup []) he
        have nsl:∀ {D:Addr},upd H e (.tup []) D=none→H D=none:=fun {D} h=>Same.back0 s1 h
        generalize upd H e (.tup [])=H2 at *
        refine ⟨b,rfl,⟨_,hsq _⟩,fun D hD=>?_⟩
        have sD:∀ ws,Same H2 (upd H2 D (.lst ws)):=fun ws=>Same.new hD
        refine ⟨fun i m H4=>m=us.length-i∧i≤us.length∧H4=upd H2 D (.lst (us.take i)),⟨us.length,rfl,Nat.zero_le _,rfl⟩,?_⟩
        rintro i m H4 ⟨rfl,hi,rfl⟩
        by_cases hlt:i<us.length
        · obtain ⟨p,u,hp1,hu1',hat1⟩:=hat i hlt
          have hx1:(pl.map fun (p:Nat)=>V.int p)[i]?=some (.int p):=by rw [List.getElem?_map,hp1];rfl
          refine .inr ⟨⟨_,_,hsq _,hx1⟩,fun x H' y=>?_⟩
          obtain ⟨e,y⟩:=y
          subst e
          have hx:=y _ (hsq _)
          rw [hx1] at hx
          cases hx
          refine ⟨_,rfl,_,rfl,a,_,_,_,rfl,rfl,SqT.of (sD _ _ _ (s1 _ _ ha)),hat1,_,upd_same,sl_lt (by rw [List.length_take];omega),us.length-(i+1),(by omega),rfl,hlt,?_⟩
          rw [upd_upd,List.take_add_one,hu1'];rfl
        have ei:i=us.length:=by omega
        subst ei
        refine .inl ⟨⟨_,hsq _,(by rw [List.length_map,lpl];exact Nat.le_refl _)⟩,?_⟩
        rw [List.take_length]
        have s3:=s1.trans (sD us)
        exact k D us _ (nsl hD) upd_same (FmsAt.kp fm (Kp.same s3)) s3
theorem scblock_led_to:FnScope ["reference","first","last"] ["reference"] (defScope s_block_led_to):=⟨rfl,rfl,rfl,by decide +kernel,rfl,by decide +kernel,by decide +kernel⟩
theorem ok_block_led_to (T:Txt w K mg t):FnOk P w K mg base CX0 1 t.f_block_led_to t.d_block_led_to ["reference"] spBlt:=by
  have D:=T.c_block_led_to
  refine D.fn.ok scblock_led_to (fun vs H Q E h=>?_) (fun cdv A outer s H vs Q E hr h=>?_)
  · obtain ⟨v,l,z,c,d,rfl,_⟩:=h
    rfl
  · obtain ⟨v,l,z,c,d,rfl,hv,hb,k⟩:=h
    have hu:=hr.units0
    have hu1:=hu_of hr
    refine ⟨_,((pss_cons (ps_set (i:=1) scblock_led_to.nd rfl (Or.inl rfl) (pe_ix ix_tup (pv 0) pe_int (fun _ _=>rfl)))
      (pss_cons (ps_set (i:=2) scblock_led_to.nd rfl (Or.inl rfl) (pe_ix ix_tup (pv 0) (pe_un un_neg pe_int) (fun _ _=>rfl)))
      (pss_one (ps_ret (pe_tup (pa_consS (pe_ix ix_tup (pv 0) pe_int (fun _ _=>rfl)) (pa_consS (pe_ix ix_tup (pv 1) pe_int (fun _ _=>rfl)) (pa_consS (pe_ix ix_tup (pv 1) pe_int (fun _ _=>rfl)) (pa_consS (pe_ix ix_tup (pv 2) pe_int (fun _ _=>rfl)) (pa_consS (pe_ix ix_tup (pv 2) pe_int (fun _ _=>rfl)) pa_nil))))))))))),?_⟩
    cases hv with
    | @lf a l hl=>
      obtain ⟨w_,q,u,r,ha,_,hq,hu',hlast⟩:=lfB_at hl hb
      refine ⟨_,rfl,a,_,_,_,rfl,rfl,SqT.of ha,atI_2,_,rfl,1,rfl,a,_,_,_,rfl,rfl,SqT.of ha,(show _=some (V.ref u) by rcases hlast with ⟨rfl,rfl⟩ | rfl <;> rfl),?_⟩
      refine ⟨_,rfl,a,_,_,_,rfl,rfl,SqT.of ha,atI_1,_,rfl,q,_,_,_,rfl,rfl,SqT.of hq,rfl,_,rfl,q,_,_,_,rfl,rfl,SqT.of hq,rfl,_,rfl,u,_,_,_,rfl,rfl,SqT.of hu',rfl,_,rfl,u,_,_,_,rfl,rfl,SqT.of hu',rfl,(by show 5≤sizeLine;decide),k⟩
theorem scall_parts:FnScope ["formula","waiting","row","part"] ["formula"] (defScope s_all_parts):=⟨rfl,rfl,rfl,by decide +kernel,rfl,by decide +kernel,by decide +kernel⟩
theorem ok_all_parts (T:Txt w K mg t):FnOk P w K mg base CX0 2 t.f_all_parts t.d_all_parts ["formula"] spAll:=by
  have D:=T.c_all_parts
  refine D.fn.ok scall_parts (fun vs H Q E h=>?_) (fun cdv A outer s H vs Q E hr h=>?_)
  · obtain ⟨v,f,pr,n,rfl,_⟩:=h
    rfl
  · obtain ⟨v,f,pr,n,rfl,hv,fo,h8,k⟩:=h
    have hu:=hr.units0
    have hu1:=hu_of hr
    refine ⟨_,((pss_cons (ps_set (i:=1) scall_parts.nd rfl (Or.inl rfl) (pe_lst (pa_consN (pv 0) pa_nil)))
      (pss_cons (ps_set (i:=2) scall_parts.nd rfl (Or.inl rfl) (pe_lst pa_nil))
      (pss_cons (ps_while PassesOwn.never (pt_cmpR op_gt (pe_callB call_len_seq (by rfl) T.len PySem.boot_len (pa_consN (pv 1) pa_nil)) pe_int (nomark _)) (pss_cons (ps_set (i:=3) scall_parts.nd rfl (Or.inl rfl) (pe_bm0 PySem.F.plainAttrs_list PySem.F.slot_list_pop PySem.F.type_list_pop mt_pop (pv 1)))
      (pss_cons (ps_expr (pe_bm PySem.F.plainAttrs_list PySem.F.slot_list_append PySem.F.type_list_append mt_append (pv 2) (pa_consN (pv 3) pa_nil)))
      (pss_one (ps_expr (pe_bm PySem.F.plainAttrs_list PySem.F.slot_list_extend PySem.F.type_list_extend mt_extend (pv 1) (pa_consC (pe_cl T.c_parts_of (ok_parts_of T) (hr.mono (by decide)) (pa_consN (pv 3) pa_nil)) pa_nil)))))))
      (pss_one (ps_ret (pe_listrev rfl (by rfl) T.list boot_list (by rfl) T.reversed (pv 2)))))))),?_⟩
    have bd:=szF_le fo h8
    refine ⟨_,rfl,one_le,fun l hl=>?_⟩
    have s0:=Same.new (o:=.lst [v]) hl
    have hl1:upd H l (.lst [v]) l=some (.lst [v]):=upd_same
    have hv1:=FmAt.kp hv (Kp.same s0)
    generalize upd H l (.lst [v])=H1 at *
    refine ⟨Nat.zero_le _,fun r hr'=>?_⟩
    have s1:=Same.new (o:=.lst []) hr'
    have nlr:l≠r:=fun z=>by rw [← z,hl1] at hr';cases hr'
    have hr0:H r=none:=by
      cases c:H r with
      | none=>rfl
      | some o=>rw [s0 _ _ c] at hr';cases hr'
    refine ⟨fun m σ H5=>∃ (vs rs:List V) (fs gs:List Fm) (x:Option V),σ=[some v,some (.ref l),some (.ref r),x]∧H5 l=some (.lst vs)∧H5 r=some (.lst rs)∧FmsAt H5 vs fs∧FmsAt H5 rs gs∧(∀ g∈fs,FO pr n g)∧szs fs=m∧alL fs++gs.reverse=alF f∧Same H H5,
      ⟨szF f,_,_,[f],[],none,rfl,s1 _ _ hl1,upd_same,.cons (FmAt.kp hv1 (Kp.same s1)) .nil,.nil,(fun g hg=>by rw [List.mem_singleton.mp hg];exact fo),(by rw [szs,szs];omega),(by rw [alL,alL];simp),fun b o e=>s1 _ _ (s0 _ _ e)⟩,?_⟩
    rintro m σ H5 ⟨vs,rs,fs,gs,x,rfl,hl5,hr5,fm5,gm5,good,hm,him,s5⟩
    refine ⟨_,rfl,l,_,rfl,.inl (SqL.of hl5),_,_,rfl,rfl,_,rfl,?_⟩
    rcases List.eq_nil_or_concat vs with rfl | ⟨vs',y,hvs⟩
    · have e0:fs=[]:=List.length_eq_zero_iff.mp (Paired.length fm5).symm
      subst e0
      refine iteF ⟨_,rfl,r,rs,rfl,SqL.of hr5,fun lq hlq=>?_⟩
      have e1:gs.reverse=alF f:=by rw [← him,alL,List.nil_append]
      have s6:=Same.new (o:=.lst rs.reverse) hlq
      have hq0:H lq=none:=by
        cases c:H lq with
        | none=>rfl
        | some o=>rw [s5 _ _ c] at hlq;cases hlq
      exact k lq rs.reverse _ hq0 upd_same (by rw [← e1];exact prev (FmsAt.kp gm5 (Kp.same s6))) fun b o e=>s6 _ _ (s5 _ _ e)
    have hvs:vs=vs'++[y]:=by rw [hvs,List.concat_eq_append]
    subst hvs
    obtain ⟨fs',g,rfl,fm',hg⟩:=psplit fm5
    have fg:=good g (by simp)
    have hsz:szs fs'+(1+szs (prtF g))=m:=by
      rw [← hm,szs_app,szs,szs,szF_prt g];omega
    have hne:decide ((0:Int)<((vs'++[y]).length:Int))=true:=decide_eq_true (by rw [List.length_append,List.length_singleton];omega)
    rw [hne]
    refine iteT ⟨fun σ' H'=>∃ m',m'<m∧∃ (vs rs:List V) (fs gs:List Fm) (x:Option V),σ'=[some v,some (.ref l),some (.ref r),x]∧H' l=some (.lst vs)∧H' r=some (.lst rs)∧FmsAt H' vs fs∧FmsAt H' rs gs∧(∀ g∈fs,FO pr n g)∧szs fs=m'∧alL fs++gs.reverse=alF f∧Same H H',fun _ _ z=>z,?_⟩
    refine ⟨_,rfl,.inl ⟨rfl,_,SqL.of hl5⟩,l,_,y,rfl,rfl,hl5,(by simp),?_⟩
    rw [List.dropLast_concat]
    have t7:Kp H5 (upd H5 l (.lst vs')):=Kp.lst hl5 KeepX.upd
    have hl7:upd H5 l (.lst vs') l=some (.lst vs'):=upd_same
    have hr7:upd H5 l (.lst vs') r=some (.lst rs):=by rw [upd_ne nlr.symm];exact hr5
    have fm7:=FmsAt.kp fm' t7
    have gm7:=FmsAt.kp gm5 t7
    have hg7:=FmAt.kp hg t7
    have s7:Same H (upd H5 l (.lst vs')):=fun b o e=>by rw [upd_ne (ne_of_none e hl)];exact s5 _ _ e
    generalize upd H5 l (.lst vs')=H7 at *
    have n0:(alL (fs'++[g])).length+gs.length=szF f:=by rw [← alF_len f,← him,List.length_append,List.length_reverse]
    rw [alL_len] at n0
    have n00:rs.length=gs.length:=Paired.length gm5
    refine ⟨_,rfl,.inl ⟨rfl,_,SqL.of hr7⟩,_,rfl,r,rs,y,rfl,rfl,hr7,slm (by omega),?_⟩
    have t8:Kp H7 (upd H7 r (.lst (rs++[y]))):=Kp.lst hr7 KeepX.upd
    have hl8:upd H7 r (.lst (rs++[y])) l=some (.lst vs'):=by rw [upd_ne nlr];exact hl7
    have hr8:upd H7 r (.lst (rs++[y])) r=some (.lst (rs++[y])):=upd_same
    have fm8:=FmsAt.kp fm7 t8
    have hg8:=FmAt.kp hg7 t8
    have gm8:FmsAt _ (rs++[y]) (gs++[g]):=papp (FmsAt.kp gm7 t8) (.cons hg8 .nil)
    have s8:Same H (upd H7 r (.lst (rs++[y]))):=fun b o e=>by rw [upd_ne (ne_of_none e hr0)];exact s7 _ _ e
    generalize upd H7 r (.lst (rs++[y]))=H8 at *
    refine ⟨_,rfl,.inl ⟨rfl,_,SqL.of hl8⟩,_,rfl,y,g,pr,n,rfl,hg8,fg,fun lp ws HA hlp0 hlp fmp sA=>?_⟩
    have n1:vs'.length=fs'.length:=Paired.length fm7
    have n2:ws.length=(prtF g).length:=Paired.length fmp
    have n3:=szs_len fs'
    have n4:=szs_len (prtF g)
    have n5:szs (fs'++[g])=szs fs'+(1+szs (prtF g)):=by rw [szs_app,szs,szs,szF_prt g];omega
    have hlA:=sA _ _ hl8
    have hrA:=sA _ _ hr8
    refine ⟨l,lp,vs',ws,rfl,rfl,hlA,hlp,slm (by omega),?_⟩
    have tB:Kp HA (upd HA l (.lst (vs'++ws))):=Kp.lst hlA KeepX.upd
    refine ⟨szs fs'+szs (prtF g),(by omega),vs'++ws,rs++[y],fs'++prtF g,gs++[g],_,rfl,upd_same,(by rw [upd_ne nlr.symm];exact hrA),papp (FmsAt.kp fm8 ((Kp.same sA).trans tB)) (FmsAt.kp fmp tB),FmsAt.kp gm8 ((Kp.same sA).trans tB),fun x hx=>?_,szs_app _ _,?_,fun b o e=>?_⟩
    · rcases List.mem_append.mp hx with q | q
      · exact good x (List.mem_append.mpr (.inl q))
      · exact fg.prt x q
    · rw [← him,alL_app,alL_app,alL,alL,alF_prt g];simp
    · rw [upd_ne (ne_of_none e hl)];exact sA _ _ (s8 _ _ e)
theorem sctold_by_parts:FnScope ["row","tell_one","told","formula","first","one"] ["row","tell_one"] (defScope s_told_by_parts):=⟨rfl,rfl,rfl,by decide +kernel,rfl,by decide +kernel,by decide +kernel⟩
theorem ok_told_by_parts (T:Txt w K mg t){B:Type}{L:Addr}{At:Hp→V→B→Prop}{sem:Fm→B}{lg:Fm→List Vl}{okk:Fm→Prop}{Dp:Hp→Prop}{St:Hp→List Vl→Prop}{f0:Addr}(hA:∀ H H' v b,Kp H H'→At H v b→At H' v b)(hD:DpOk L Dp)(hS:StOk L St)(G:FV P w K mg base 6 f0 (spTellE L At sem lg okk Dp St)):FnOk P w K mg base CX0 7 t.f_told_by_parts t.d_told_by_parts ["row","tell_one"] (spToldE L f0 At sem lg okk Dp St):=by
  have D:=T.c_told_by_parts
  refine D.fn.ok sctold_by_parts (fun vs H Q E h=>?_) (fun cdv A outer s H vs Q E hr h=>?_)
  · obtain ⟨l,f,ws,n,acc,rfl,_⟩:=h
    rfl
  · obtain ⟨l,f,ws,n,acc,rfl,hl,nl,fm,fo,h8,okA,hd0,hst,hbd,k⟩:=h
    have hu:=hr.units0
    have hu1:=hu_of hr
    refine ⟨_,((pss_cons (ps_set (i:=2) sctold_by_parts.nd rfl (Or.inl rfl) (pe_lst pa_nil))
      (pss_cons (ps_for PassesOwn.never rfl (pi_list (pv 0)) (pg_name (i:=3) sctold_by_parts.nd rfl (Or.inl rfl))
      (pss_cons (ps_set (i:=4) sctold_by_parts.nd rfl (Or.inl rfl) (pe_op op_sub (pe_callB call_len_seq (by rfl) T.len PySem.boot_len (pa_consN (pv 2) pa_nil)) (pe_callB call_len_seq (by rfl) T.len PySem.boot_len (pa_consC (pe_cl T.c_parts_of (ok_parts_of T) (hr.mono (by decide)) (pa_consN (pv 3) pa_nil)) pa_nil))))
      (pss_cons (ps_set (i:=5) sctold_by_parts.nd rfl (Or.inl rfl) (pe_callW (k:=6) (pv 1) (hr.mono (by decide)) (pa_consN (pv 3) (pa_consS (pe_slice sl_list (pv 2) (po_some (pv 4)) po_none) pa_nil))))
      (pss_cons (ps_set (i:=2) sctold_by_parts.nd rfl (Or.inl rfl) (pe_slice sl_list (pv 2) po_none (po_some (pv 4))))
      (pss_one (ps_expr (pe_bm PySem.F.plainAttrs_list PySem.F.slot_list_append PySem.F.type_list_append mt_append (pv 2) (pa_consN (pv 5) pa_nil))))))))
      (pss_one (ps_ret (pe_ix ix_list (pv 2) pe_int (fun _ _=>rfl))))))),?_⟩
    have bd:=szF_le fo h8
    have hwl:ws.length=szF f:=by rw [Paired.length fm,alF_len]
    obtain ⟨uL,hLo⟩:=hS.ob _ _ hst
    refine ⟨Nat.zero_le _,fun d0 hd0'=>?_⟩
    have s0:=Same.new (o:=.lst []) hd0'
    refine ⟨_,rfl,l,rfl,⟨_,SqL.of (s0 _ _ hl)⟩,?_⟩
    refine for_list (xs:=ws) (fun i σ H5=>∃ (d:Addr) (vs:List V) (x3 x4 x5:Option V),σ=[some (.ref l),some (.ref f0),some (.ref d),x3,x4,x5]∧H d=none∧H5 d=some (.lst vs)∧Paired (At H5) vs (((alF f).take i).foldl (stepG sem) [])∧KeepX L H H5∧Kp H H5∧St H5 (acc++((alF f).take i).flatMap lg))
      ⟨d0,[],none,none,none,rfl,hd0',upd_same,.nil,Same.keep s0,Kp.same s0,(by rw [List.take_zero,List.flatMap_nil,List.append_nil];exact hS.same s0 hst)⟩ ?_ ?_ ?_
    · rintro i σ H5 _ ⟨d,vs,x3,x4,x5,rfl,_,_,_,k5,_⟩
      exact SqL.of (k5 _ _ nl hl)
    · rintro i x σ H5 hx ⟨d,vs,x3,x4,x5,rfl,hd,hd5,sh5,k5,p5,st5⟩
      have nd:d≠L:=fun z=>by rw [z,hLo] at hd;cases hd
      obtain ⟨g,hg,xg⟩:=paired_at fm hx
      have xg5:=FmAt.kp xg p5
      have hgm:=List.mem_of_getElem? hg
      have fog:=FO.al f fo g hgm
      obtain ⟨st',est⟩:=pre_FG sem f [] i g hg
      have hlen:vs.length=st'.length+(prtF g).length:=by rw [Paired.length sh5,est,List.length_append,List.length_map]
      have hlen2:vs.length≤i:=by
        rw [Paired.length sh5]
        refine Nat.le_trans (foldG_len sem _ _) ?_
        rw [List.length_take,List.length_nil];omega
      have hi:i<ws.length:=(List.getElem?_eq_some_iff.mp hx).1
      refine ⟨_,rfl,d,vs,rfl,.inl (SqL.of hd5),_,rfl,x,g,0,n,rfl,xg5,fog,fun lp ps H6 hlp0 hlp fmp s6=>?_⟩
      have hpl:ps.length=(prtF g).length:=Paired.length fmp
      have ej:((vs.length:Nat):Int)-((ps.length:Nat):Int)=((st'.length:Nat):Int):=by omega
      refine ⟨lp,ps,rfl,.inl (SqL.of hlp),_,_,rfl,rfl,?_⟩
      have hd6:=s6 _ _ hd5
      have smA:∀ {H1 H2:Hp} {us:List V} {bs:List B},Paired (At H1) us bs→Kp H1 H2→Paired (At H2) us bs:=fun p s=>Paired.imp' (fun _ _ x=>hA _ _ _ _ s x) p
      have sh6:=smA sh5 (Kp.same s6)
      rw [est] at sh6
      have ec:cutV vs (some (((vs.length:Nat):Int)-((ps.length:Nat):Int))) none=vs.drop st'.length:=by rw [ej];exact cut_hi (by omega)
      have el:cutV vs none (some (((vs.length:Nat):Int)-((ps.length:Nat):Int)))=vs.take st'.length:=by rw [ej];exact cut_lo (by omega)
      have shd:Paired (At H6) (vs.drop st'.length) ((prtF g).map sem):=by
        have:=pdrop st'.length sh6
        rwa [List.drop_left] at this
      have sht:Paired (At H6) (vs.take st'.length) st':=by
        have:=ptake st'.length sh6
        rwa [List.take_left] at this
      rw [← ec] at shd
      rw [← el] at sht
      refine ⟨_,rfl,f0,_,rfl,G,_,rfl,_,rfl,_,rfl,_,rfl,d,vs,rfl,SqL.of hd6,fun dq hdq=>?_⟩
      have sq:∀ o,Same H6 (upd H6 dq o):=fun o=>Same.new hdq
      have st6:=hS.same s6 st5
      have d6:Dp H6:=hD.kx (p5.trans (Kp.same s6)) (k5.trans (Same.keep s6)) hd0
      refine ⟨x,g,dq,_,n,_,rfl,FmAt.kp (FmAt.kp xg5 (Kp.same s6)) (Kp.same (sq _)),fog,okA g hgm,hD.smd (SmD.of (sq _)) d6,hS.same (sq _) st6,(by rw [List.append_assoc,← fmap_take hg];exact Nat.le_trans (fmap_len _ _ _ _) hbd),upd_same,smA shd (Kp.same (sq _)),fun y H8 hy k8 st8=>?_⟩
      have p8:=hS.kp (hS.same (sq (.lst (cutV vs (some (((vs.length:Nat):Int)-((ps.length:Nat):Int))) none))) st6) k8
      have k68:=(Same.keep (p:=L) (sq (.lst (cutV vs (some (((vs.length:Nat):Int)-((ps.length:Nat):Int))) none)))).trans k8
      have p68:=(Kp.same (sq (.lst (cutV vs (some (((vs.length:Nat):Int)-((ps.length:Nat):Int))) none)))).trans p8
      have hd8:=k68 _ _ nd hd6
      refine ⟨_,rfl,_,rfl,_,rfl,d,vs,rfl,SqL.of hd8,fun de hde=>?_⟩
      have se:∀ o,Same H8 (upd H8 de o):=fun o=>Same.new hde
      have nde:de≠L:=hS.ne st8 hde
      have hlt:(cutV vs none (some (((vs.length:Nat):Int)-((ps.length:Nat):Int)))).length≤vs.length:=cutV_length _ _ _
      refine ⟨_,rfl,.inl ⟨rfl,_,SqL.of upd_same⟩,_,rfl,de,_,y,rfl,rfl,upd_same,slm (by omega),?_⟩
      have k08:=(k5.trans (Same.keep s6)).trans k68
      have p08:=(p5.trans (Kp.same s6)).trans p68
      have hH:H de=none:=k08.fresh nde hde
      have kk:∀ o o',Kp H8 (upd (upd H8 de (.lst o)) de (.lst o')):=fun o o'=>(Kp.same (se _)).trans (Kp.lst upd_same KeepX.upd)
      refine ⟨de,_,_,_,_,rfl,hH,upd_same,?_,fun b o hb e=>?_,p08.trans (kk _ _),?_⟩
      · have e1:((alF f).take (i+1)).foldl (stepG sem) []=st'++[sem g]:=by
          rw [List.take_add_one,hg,List.foldl_append,est]
          exact stepG_ok sem st' g
        rw [e1]
        exact psnoc (smA sht (p68.trans (kk _ _))) (hA _ _ _ _ (kk _ _) hy)
      · rw [upd_ne (ne_of_none e hH)]
        exact se _ _ _ (k08 _ _ hb e)
      · show St _ (acc++((alF f).take (i+1)).flatMap lg)
        rw [fmap_take hg,← List.append_assoc]
        exact hS.up nde upd_same (hS.same (se _) st8)
    · rintro σ H5 ⟨d,vs,x3,x4,x5,rfl,hd,hd5,sh5,k5,p5,st5⟩
      rw [hwl,← alF_len,List.take_length] at sh5 st5
      rw [fold_FG,List.nil_append] at sh5
      cases sh5 with
      | cons h5 t5=>
        cases t5
        exact ⟨_,rfl,d,_,_,_,rfl,rfl,SqL.of hd5,rfl,k _ _ h5 k5 st5⟩
theorem scblock_shape:FnScope ["block"] ["block"] (defScope s_block_shape):=⟨rfl,rfl,rfl,by decide +kernel,rfl,by decide +kernel,by decide +kernel⟩
theorem ok_block_shape (T:Txt w K mg t):FnOk P w K mg base CX0 1 t.f_block_shape t.d_block_shape ["block"] spBsh:=by
  have D:=T.c_block_shape
  refine D.fn.ok scblock_shape (fun vs H Q E h=>?_) (fun cdv A outer s H vs Q E hr h=>?_)
  · obtain ⟨q,x,a,b,c,d,rfl,_⟩:=h
    rfl
  · obtain ⟨q,x,a,b,c,d,rfl,hq,k⟩:=h
    have hu:=hr.units0
    have hu1:=hu_of hr
    refine ⟨_,((pss_one (ps_ret (pe_tup (pa_consB (pe_op op_add (pe_op op_sub (pe_ix ix_tup (pv 0) pe_int (fun _ _=>rfl)) (pe_ix ix_tup (pv 0) pe_int (fun _ _=>rfl))) pe_int) (pa_consB (pe_op op_add (pe_op op_sub (pe_ix ix_tup (pv 0) pe_int (fun _ _=>rfl)) (pe_ix ix_tup (pv 0) pe_int (fun _ _=>rfl))) pe_int) pa_nil)))))),?_⟩
    refine ⟨_,rfl,q,_,_,_,rfl,rfl,SqT.of hq,rfl,_,rfl,q,_,_,_,rfl,rfl,SqT.of hq,rfl,_,_,rfl,rfl,_,_,rfl,rfl,_,rfl,q,_,_,_,rfl,rfl,SqT.of hq,rfl,_,rfl,q,_,_,_,rfl,rfl,SqT.of hq,rfl,_,_,rfl,rfl,_,_,rfl,rfl,two_le,k⟩
theorem scshown_table:FnScope ["block","shows"] ["block","shows"] (defScope s_shown_table):=⟨rfl,rfl,rfl,by decide +kernel,rfl,by decide +kernel,by decide +kernel⟩
theorem ok_shown_table (T:Txt w K mg t){Dp:Hp→Prop}{dom:Str→Int→Int→Prop}{g:Str→Int→Int→Vl}{f:Addr}(G:FV P w K mg base 1 f (spSh Dp dom g))(hD:∀ H H',SmD H H'→Dp H→Dp H'):FnOk P w K mg base CX0 2 t.f_shown_table t.d_shown_table ["block","shows"] (spShown f Dp dom g):=by
  have D:=T.c_shown_table
  refine D.fn.ok scshown_table (fun vs H Q E h=>?_) (fun cdv A outer s H vs Q E hr h=>?_)
  · obtain ⟨b,z,r,c,r2,c2,rfl,_⟩:=h
    rfl
  · obtain ⟨b,z,r,c,r2,c2,rfl,hb,hd,hdom,k⟩:=h
    have hu:=hr.units0
    have hu1:=hu_of hr
    refine ⟨_,((pss_one (ps_ret (pe_cl T.c_table_in_rows (ok_table_in_rows T) (hr.mono (by decide)) (pa_consH (pe_comp (fv:=["shows"]) (js:=[1]) (cl:=[("shows",s.heap.objs.size+1)]) rfl (by with_unfolding_all rfl) ⟨rfl,by decide +kernel,by decide +kernel,rfl,by decide +kernel,by decide +kernel,(List.forall_mem_cons.mpr ⟨⟨rfl,rfl,rfl⟩,(List.forall_mem_nil _)⟩),(List.forall_mem_cons.mpr ⟨rfl,(List.forall_mem_nil _)⟩),(.cons rfl .nil)⟩ (pi_list (pe_cl T.c_cells_of (ok_cells_of T) (hr.mono (by decide)) (pa_consN (pv 0) pa_nil))) (fun _ _ _ _ _=>pf_nil) (fun _ _ _ _ _=>(pe_callWc (k:=1) (pv 1) (hr.mono (by decide)) (pa_consN (pv 0) pa_nil)))) (pa_consS (pe_ix ix_tup (pe_cl T.c_block_shape (ok_block_shape T) (hr.mono (by decide)) (pa_consN (pv 0) pa_nil)) pe_int (fun _ _=>rfl)) pa_nil)))))),?_⟩
    have g1:=hb.r1;have g2:=hb.r16;have g3:=hb.c1;have g4:=hb.c8;have g5:=hb.r0;have g6:=hb.c0
    refine ⟨_,rfl,b,z,r,c,r2,c2,rfl,hb,fun l H1 hl0 s1 cs=>?_⟩
    generalize hwd:(c2-c+1).toNat=w_ at *
    generalize hhd:(r2-r+1).toNat=h_ at *
    obtain ⟨cs1,hl1,hcl,hcs⟩:=cs
    have hhw:h_*w_≤16*8:=Nat.mul_le_mul (by omega) (by omega)
    refine ⟨l,rfl,⟨_,SqL.of hl1⟩,fun D hD'=>?_⟩
    have sD:∀ o,Same H1 (upd H1 D o):=fun o=>Same.new hD'
    refine ⟨fun i m H4=>m=h_*w_-i∧i≤h_*w_∧∃ us,H4 D=some (.lst us)∧VsAt H4 us ((List.range i).map fun (k:Nat)=>g z (r+((k / w_:Nat):Int)) (c+((k%w_:Nat):Int)))∧Same H1 H4,⟨h_*w_,rfl,Nat.zero_le _,[],upd_same,.nil,sD _⟩,?_⟩
    rintro i m H4 ⟨rfl,hi,us,hD4,vs4,s4⟩
    have ul:us.length=i:=by rw [Paired.length vs4,List.length_map,List.length_range]
    by_cases hlt:i<h_*w_
    · obtain ⟨x,hx⟩:∃ x,cs1[i]?=some x:=⟨cs1[i]'(by omega),List.getElem?_eq_getElem (by omega)⟩
      refine .inr ⟨⟨_,_,SqL.of (s4 _ _ hl1),hx⟩,fun x' H' y=>?_⟩
      obtain ⟨rfl,y⟩:=y
      have hx':=y _ (SqL.of (s4 _ _ hl1))
      rw [hx] at hx'
      cases hx'
      obtain ⟨a,rfl,hA⟩:=hcs i x hx
      have hw1:1≤w_:=by omega
      have d1:((i / w_:Nat):Int)<(h_:Int):=by
        have:=Nat.div_lt_of_lt_mul (show i<w_*h_ by rw [Nat.mul_comm];exact hlt)
        omega
      have d0:=Int.natCast_nonneg (i / w_)
      have d3:=Int.natCast_nonneg (i%w_)
      have d2:((i%w_:Nat):Int)<(w_:Int):=by
        have:=Nat.mod_lt i (show w_>0 by omega)
        omega
      refine ⟨_,rfl,f,_,rfl,G,_,rfl,a,z,_,_,rfl,s4 _ _ hA,hD _ _ (SmD.of (s1.trans s4)) hd,hdom _ _ (by omega) (by omega) (by omega) (by omega),fun x5 H5 hx5 s5=>?_⟩
      refine ⟨us,s5 _ _ hD4,sl_lt (by omega),h_*w_-(i+1),(by omega),rfl,hlt,us++[x5],upd_same,?_,fun b' o e=>?_⟩
      · rw [List.range_succ,List.map_append]
        have kd:Kp H5 (upd H5 D (.lst (us++[x5]))):=Kp.lst (s5 _ _ hD4) KeepX.upd
        exact psnoc (VsAt.kp (VsAt.kp vs4 (Kp.same s5)) kd) (hx5.kp kd)
      · have nb:b'≠D:=ne_of_none e hD'
        rw [upd_ne nb];exact s5 _ _ (s4 _ _ e)
    · have ei:i=h_*w_:=by omega
      subst ei
      refine .inl ⟨⟨_,SqL.of (s4 _ _ hl1),(by omega)⟩,?_⟩
      have hb4:=hb.same (s1.trans s4)
      refine ⟨_,rfl,b,_,r,c,r2,c2,rfl,hb4.ob,fun p hp=>⟨p,_,_,_,rfl,rfl,SqT.of upd_same,rfl,?_⟩⟩
      have ew:c2-c+1=(w_:Int):=by omega
      have hw1:1≤w_:=by omega
      refine ⟨D,us,w_,h_,(by rw [ew];rfl),Same.new hp _ _ hD4,ul,hw1,(by omega),(by omega),fun x H' hx s'=>k x H' ⟨_,hx,?_⟩ ((s1.trans s4).trans ((Same.new hp).trans s'))⟩
      rw [← chunk_blk hw1]
      exact chunk_paired (VsAt.kp vs4 (Kp.same ((Same.new hp).trans s')))
theorem scleaf_table:FnScope ["leaf","cell","shows"] ["leaf","cell","shows"] (defScope s_leaf_table):=⟨rfl,rfl,rfl,by decide +kernel,rfl,by decide +kernel,by decide +kernel⟩
theorem ok_leaf_table (T:Txt w K mg t){Dp:Hp→Prop}{dom:Str→Int→Int→Prop}{g:Str→Int→Int→Vl}{f:Addr}(G:FV P w K mg base 1 f (spSh Dp dom g))(hD:∀ H H',SmD H H'→Dp H→Dp H'):FnOk P w K mg base CX0 3 t.f_leaf_table t.d_leaf_table ["leaf","cell","shows"] (spLtb f Dp dom g):=by
  have D:=T.c_leaf_table
  refine D.fn.ok scleaf_table (fun vs H Q E h=>?_) (fun cdv A outer s H vs Q E hr h=>?_)
  · obtain ⟨v,u,l,z,c,d,rfl,_⟩:=h
    rfl
  · obtain ⟨v,u,l,z,c,d,rfl,hv,lg,hd,k⟩:=h
    have hu:=hr.units0
    have hu1:=hu_of hr
    refine ⟨_,((pss_cons (ps_if (pt_cmpR op_eq (pe_ix ix_tup (pv 0) pe_int (fun _ _=>rfl)) pe_str (nomark _)) (pss_one ps_never) pss_nil)
      (pss_cons (ps_if (pt_cmpR op_eq (pe_ix ix_tup (pv 0) pe_int (fun _ _=>rfl)) pe_str (nomark _)) (pss_one ps_never) pss_nil)
      (pss_one (ps_ret (pe_cl T.c_shown_table (ok_shown_table T G hD) (hr.mono (by omega)) (pa_consC (pe_cl T.c_block_led_to (ok_block_led_to T) (hr.mono (by decide)) (pa_consN (pv 0) pa_nil)) (pa_consN (pv 2) pa_nil)))))))),?_⟩
    cases id hv with
    | @lf a l hl=>
      obtain ⟨w_,q,u_,r,ha,hw,_⟩:=lfB_at hl lg.b
      have n1:decide (V.str w_=vS "value")=false:=by rcases hw with rfl | rfl <;> decide +kernel
      have n2:decide (V.str w_=vS "fault")=false:=by rcases hw with rfl | rfl <;> decide +kernel
      refine ⟨_,rfl,a,_,_,_,rfl,rfl,SqT.of ha,atI_hd,rfl,false,congrArg V.bl n1,iteF ?_⟩
      refine ⟨_,rfl,a,_,_,_,rfl,rfl,SqT.of ha,atI_hd,rfl,false,congrArg V.bl n2,iteF ?_⟩
      refine ⟨_,rfl,.ref a,l,z,c,d,rfl,hv,lg.b,fun p hp=>⟨_,rfl,?_⟩⟩
      refine ⟨p,z,c.r,c.c,d.r,d.c,rfl,⟨upd_same,lg.nm,lg.r0,lg.r1,lg.r16,lg.c0,lg.c1,lg.c8⟩,hD _ _ (SmD.of (Same.new hp)) hd,lg.dm,fun x H' hx s=>k x H' ?_ ((Same.new hp).trans s)⟩
      unfold lfT
      rw [lg.b]
      exact hx
theorem scouter_value:FnScope ["value","outer"] ["value","outer"] (defScope s_outer_value):=⟨rfl,rfl,rfl,by decide +kernel,rfl,by decide +kernel,by decide +kernel⟩
theorem ok_outer_value (T:Txt w K mg t){L o:Addr}{fo:Vl→Vl}{St:Hp→List Vl→Prop}(G2:FV P w K mg base 2 o (spOut L fo St)):FnOk P w K mg base CX0 3 t.f_outer_value t.d_outer_value ["value","outer"] (spOuv L o fo St):=by
  have D:=T.c_outer_value
  refine D.fn.ok scouter_value (fun vs H Q E h=>?_) (fun cdv A outer s H vs Q E hr h=>?_)
  · obtain ⟨u,v,acc,rfl,_⟩:=h
    rfl
  · obtain ⟨u,v,acc,rfl,hv,okv,hst,hbd,k⟩:=h
    have hu:=hr.units0
    have hu1:=hu_of hr
    refine ⟨_,((pss_one (ps_ret (pe_ifExp (pt_cmpR op_eq (pe_ix ix_tup (pv 0) pe_int (fun _ _=>rfl)) pe_str (nomark _)) (pv 0) (pe_callW (k:=2) (pv 1) (hr.mono (by decide)) (pa_consN (pv 0) pa_nil)))))),?_⟩
    obtain ⟨q,xs,rfl,hq,_⟩:=hv.hd
    unfold ouV at k;unfold ouL at k hbd
    refine ⟨_,rfl,q,_,_,_,rfl,rfl,SqT.of hq,atI_hd,rfl,isF v,rfl,ite2 (fun c=>?_) (fun c=>?_)⟩
    · rw [if_pos c,if_pos c] at k
      exact ⟨_,rfl,k _ _ hv (KeepX.refl _ _) (by rw [List.append_nil];exact hst)⟩
    · rw [if_neg c,if_neg c] at k;rw [if_neg c] at hbd
      exact ⟨_,rfl,o,_,rfl,G2,_,rfl,.ref q,v,acc,rfl,hv,okv,c,hst,hbd,k⟩
theorem scsingle_value:FnScope ["formula","tables","cell","outer","kind","first"] ["formula","tables","cell","outer"] (defScope s_single_value):=⟨rfl,rfl,rfl,by decide +kernel,rfl,by decide +kernel,by decide +kernel⟩
theorem ok_single_value (T:Txt w K mg t){L o:Addr}{fo:Vl→Vl}{St:Hp→List Vl→Prop}(G2:FV P w K mg base 2 o (spOut L fo St)):FnOk P w K mg base CX0 4 t.f_single_value t.d_single_value ["formula","tables","cell","outer"] (spSgE L o fo St):=by
  have D:=T.c_single_value
  refine D.fn.ok scsingle_value (fun vs H Q E h=>?_) (fun cdv A outer s H vs Q E hr h=>?_)
  · obtain ⟨v,y,l,a,x0,r,m,w_,acc,rfl,_⟩:=h
    rfl
  · obtain ⟨v,y,l,a,x0,r,m,w_,acc,rfl,rfl,ha,hl,t0,rm,okm,hst,hbd,k⟩:=h
    have hu:=hr.units0
    have hu1:=hu_of hr
    refine ⟨_,((pss_cons (ps_set (i:=4) scsingle_value.nd rfl (Or.inl rfl) (pe_ix ix_tup (pv 0) pe_int (fun _ _=>rfl)))
      (pss_cons (ps_set (i:=5) scsingle_value.nd rfl (Or.inl rfl) (pe_ix ix_list (pv 1) pe_int (fun _ _=>rfl)))
      (pss_cons (ps_if (pt_cmpR op_eq (pv 4) pe_str (nomark _)) (pss_one ps_never) pss_nil)
      (pss_cons (ps_if (pt_cmpR op_eq (pv 4) pe_str (nomark _)) (pss_one ps_never) pss_nil)
      (pss_cons (ps_if (pw_or (pt_cmpR op_eq (pv 4) pe_str (nomark _)) (pw_or1 (pt_cmpR op_eq (pv 4) pe_str (nomark _)))).pt (pss_one ps_never) pss_nil)
      (pss_cons (ps_if (pt_cmpR op_eq (pv 4) pe_str (nomark _)) (pss_one ps_never) pss_nil)
      (pss_cons (ps_if (pt_cmpR op_eq (pv 4) pe_str (nomark _)) (pss_one ps_never) pss_nil)
      (pss_one (ps_ret (pe_cl T.c_outer_value (ok_outer_value T G2) (hr.mono (by omega)) (pa_consS (pe_ix ix_tup (pe_ix ix_tup (pv 5) pe_int (fun _ _=>rfl)) pe_int (fun _ _=>rfl)) (pa_consN (pv 3) pa_nil))))))))))))),?_⟩
    refine ⟨_,rfl,a,_,_,_,rfl,rfl,SqT.of ha,atI_hd,?_⟩
    refine ⟨_,rfl,l,_,_,_,rfl,rfl,SqL.of hl,rfl,?_⟩
    refine ⟨_,rfl,rfl,false,(by decide +kernel),iteF ?_⟩
    refine ⟨_,rfl,rfl,false,(by decide +kernel),iteF ?_⟩
    refine ⟨_,rfl,rfl,false,(by decide +kernel),iteF ?_⟩
    refine ⟨_,rfl,rfl,false,(by decide +kernel),iteF ?_⟩
    refine ⟨_,rfl,rfl,false,(by decide +kernel),iteF ?_⟩
    refine ⟨_,rfl,rfl,false,(by decide +kernel),iteF ?_⟩
    obtain ⟨b0,u0,_,rt0,c0,y0,rfl,e1,e2,v0,rfl⟩:=t0.hd0 rm
    exact ⟨_,rfl,b0,_,_,_,rfl,rfl,SqT.of e1,atI_hd,c0,_,_,_,rfl,rfl,SqT.of e2,atI_hd,_,rfl,_,hd0 m,acc,rfl,v0,hd0_ok rm okm,hst,hbd,k⟩
theorem sctable_by_parts:FnScope ["formula","tables","cell","shows","outer","kind"] ["formula","tables","cell","shows","outer"] (defScope s_table_by_parts):=⟨rfl,rfl,rfl,by decide +kernel,rfl,by decide +kernel,by decide +kernel⟩
theorem ok_table_by_parts (T:Txt w K mg t){L:Addr}{Dp:Hp→Prop}{St:Hp→List Vl→Prop}{dom:Str→Int→Int→Prop}{g:Str→Int→Int→Vl}{fo:Vl→Vl}{sem:Hm→Fm→List (List Vl)}{lg:Hm→Fm→List Vl}{hm:Hm}{f o:Addr}(G:FV P w K mg base 1 f (spSh Dp dom g))(G2:FV P w K mg base 2 o (spOut L fo St))(hD:DpOk L Dp)(hS:StOk L St):FnOk P w K mg base CX0 5 t.f_table_by_parts t.d_table_by_parts ["formula","tables","cell","shows","outer"] (spTbE L f o Dp St (sem hm) (lg hm) (okE dom g fo sem lg hm) hm):=by
  have D:=T.c_table_by_parts
  refine D.fn.ok sctable_by_parts (fun vs H Q E h=>?_) (fun cdv A outer s H vs Q E hr h=>?_)
  · obtain ⟨v,y,fm,l,us,n,acc,rfl,_⟩:=h
    rfl
  · obtain ⟨v,y,fm,l,us,n,acc,rfl,hv,fo_,ok,hd,hst,hbd,hl,tb,hy,k⟩:=h
    have hu:=hr.units0
    have hu1:=hu_of hr
    refine ⟨_,((pss_cons (ps_set (i:=5) sctable_by_parts.nd rfl (Or.inl rfl) (pe_ix ix_tup (pv 0) pe_int (fun _ _=>rfl)))
      (pss_cons (ps_if (pt_cmpR op_eq (pe_callB call_len_seq (by rfl) T.len PySem.boot_len (pa_consN (pv 1) pa_nil)) pe_int (nomark _)) (pss_one (ps_ret (pe_cl T.c_leaf_table (ok_leaf_table T G (fun _ _ s h=>hD.smd s h)) (hr.mono (by omega)) (pa_consN (pv 0) (pa_consN (pv 2) (pa_consN (pv 3) pa_nil)))))) pss_nil)
      (pss_cons (ps_if (pt_cmpR op_eq (pv 5) pe_str (nomark _)) (pss_one ps_never) pss_nil)
      (pss_cons (ps_if (pt_cmpR op_eq (pv 5) pe_str (nomark _)) (pss_one ps_never) pss_nil)
      (pss_cons (ps_if (pt_cmpR op_eq (pv 5) pe_str (nomark _)) (pss_one (ps_ret (pe_cl T.c_chosen_table (ok_chosen_table T) (hr.mono (by decide)) (pa_consS (pe_ix ix_tup (pe_ix ix_tup (pe_ix ix_list (pv 1) pe_int (fun _ _=>rfl)) pe_int (fun _ _=>rfl)) pe_int (fun _ _=>rfl)) (pa_consS (pe_ix ix_list (pv 1) pe_int (fun _ _=>rfl)) (pa_consS (pe_ix ix_list (pv 1) pe_int (fun _ _=>rfl)) (pa_consN (pv 2) pa_nil))))))) pss_nil)
      (pss_cons (ps_if (pt_cmpR op_eq (pv 5) pe_str (nomark _)) (pss_one ps_never) pss_nil)
      (pss_cons (ps_if (pt_cmpR op_eq (pv 5) pe_str (nomark _)) (pss_one ps_never) pss_nil)
      (pss_cons (ps_if (pt_cmpR op_eq (pv 5) pe_str (nomark _)) (pss_one ps_never) pss_nil)
      (pss_one (ps_ret (pe_cl T.c_table_of_one (ok_table_of_one T) (hr.mono (by decide)) (pa_consC (pe_cl T.c_single_value (ok_single_value T G2) (hr.mono (by omega)) (pa_consN (pv 0) (pa_consN (pv 1) (pa_consN (pv 2) (pa_consN (pv 4) pa_nil))))) pa_nil))))))))))))),?_⟩
    rcases ok with ⟨lf,rfl,⟨⟨z_,c_,d_,lg_⟩,_⟩,es,el⟩ | ⟨fa,fb,fc,rfl,⟨wa,ra,_,_,oka⟩,⟨wb,rb,lb1,lb2,okb⟩,⟨wc,rc,lc1,lc2,okc⟩,ft,es,el⟩ | ⟨fa,rfl,⟨wa,ra,_,_,oka⟩,es,el⟩
    · obtain ⟨a,rfl,ha⟩:=lf_FmAt hv
      obtain ⟨w_,r,haa,_⟩:=ha.pp
      have tb':Paired (TbAt H) us []:=tb
      cases tb'
      rw [es,el,List.append_nil] at k
      refine ⟨_,rfl,a,_,_,_,rfl,rfl,SqT.of haa,atI_hd,?_⟩
      refine ⟨_,rfl,l,_,rfl,.inl (SqL.of hl),rfl,true,(by simp),iteT ?_⟩
      exact ⟨_,rfl,_,rfl,_,rfl,.ref a,y,lf,_,_,_,rfl,hv,lg_,hd,fun x H' hx s'=>k x H' hx (Same.keep s') (hS.same s' hst)⟩
    · have tb':Paired (TbAt H) us [sem hm fa,sem hm fb,sem hm fc]:=tb
      cases tb' with
      | @cons x0 _ _ _ t0 tb'=>
        cases tb' with
        | @cons x1 _ _ _ t1 tb'=>
          cases tb' with
          | @cons x2 _ _ _ t2 tb'=>
            cases tb'
            cases hv with
            | @nd a t _ us _ ha ht hl' hh=>
              have ha':H a=some (.tup (vS "if"::us)):=ha
              obtain ⟨m1,r1,v1⟩:=t1
              obtain ⟨m2,r2,v2⟩:=t2
              obtain ⟨b0,u0,_,rt0,c0,y0,rfl,e1,e2,v0,rfl⟩:=t0.hd0 ra
              rw [es,el,List.append_nil] at k
              refine ⟨_,rfl,a,_,_,_,rfl,rfl,SqT.of ha',atI_hd,?_⟩
              refine ⟨_,rfl,l,_,rfl,.inl (SqL.of hl),rfl,false,(by simp),iteF ?_⟩
              refine ⟨_,rfl,rfl,false,(by decide +kernel),iteF ?_⟩
              refine ⟨_,rfl,rfl,false,(by decide +kernel),iteF ?_⟩
              refine ⟨_,rfl,rfl,true,(by decide +kernel),iteT ?_⟩
              refine ⟨_,rfl,l,_,_,_,rfl,rfl,SqL.of hl,rfl,b0,_,_,_,rfl,rfl,SqT.of e1,atI_hd,c0,_,_,_,rfl,rfl,SqT.of e2,atI_hd,_,rfl,l,_,_,_,rfl,rfl,SqL.of hl,rfl,_,rfl,l,_,_,_,rfl,rfl,SqL.of hl,rfl,_,rfl,?_⟩
              exact ⟨_,x1,x2,y,_,m1,m2,_,_,_,_,hm,rfl,v0,r1,r2,v1,v2,rb,rc,ft,lb2,lc2,lb1,lc1,hy,fun x H' hx s'=>k x H' hx (Same.keep s') (hS.same s' hst)⟩
    · have tb':Paired (TbAt H) us [sem hm fa]:=tb
      cases tb' with
      | @cons x0 _ _ _ t0 tb'=>
        cases tb'
        cases hv with
        | @nd a t _ us _ ha ht hl' hh=>
          have ha':H a=some (.tup (vS "outer"::us)):=ha
          rw [es,el] at k
          rw [el] at hbd
          refine ⟨_,rfl,a,_,_,_,rfl,rfl,SqT.of ha',atI_hd,?_⟩
          refine ⟨_,rfl,l,_,rfl,.inl (SqL.of hl),rfl,false,(by simp),iteF ?_⟩
          refine ⟨_,rfl,rfl,false,(by decide +kernel),iteF ?_⟩
          refine ⟨_,rfl,rfl,false,(by decide +kernel),iteF ?_⟩
          refine ⟨_,rfl,rfl,false,(by decide +kernel),iteF ?_⟩
          refine ⟨_,rfl,rfl,false,(by decide +kernel),iteF ?_⟩
          refine ⟨_,rfl,rfl,false,(by decide +kernel),iteF ?_⟩
          refine ⟨_,rfl,rfl,false,(by decide +kernel),iteF ?_⟩
          refine ⟨_,rfl,_,rfl,_,rfl,_,rfl,.ref a,y,l,a,x0,us,_,_,acc,rfl,rfl,ha',hl,t0,ra,oka,hst,hbd,fun z H1 hz k1 st1=>?_⟩
          refine ⟨z,rfl,fun x H2 hx s2=>k x H2 ⟨_,hx,.cons (.cons (hz.kp (Kp.same s2)) .nil) .nil⟩ (k1.trans (Same.keep s2)) (hS.same s2 st1)⟩
theorem screckoned:FnScope ["opened","cell","shows","outer"] ["opened","cell","shows","outer"] (defScope s_reckoned):=⟨rfl,rfl,rfl,by decide +kernel,rfl,by decide +kernel,by decide +kernel⟩
theorem ok_reckoned (T:Txt w K mg t){L:Addr}{Dp:Hp→Prop}{St:Hp→List Vl→Prop}{dom:Str→Int→Int→Prop}{g:Str→Int→Int→Vl}{fo:Vl→Vl}{sem:Hm→Fm→List (List Vl)}{lg:Hm→Fm→List Vl}{f o:Addr}(G:FV P w K mg base 1 f (spSh Dp dom g))(G2:FV P w K mg base 2 o (spOut L fo St))(hD:DpOk L Dp)(hS:StOk L St)(hC:PySem.W.CodeHd base t.c_reckoned t.P_reckoned)(hB:BM mg base):FnOk P w K mg base CX0 8 t.f_reckoned t.d_reckoned ["opened","cell","shows","outer"] (spRckE t.P_reckoned L f o Dp St sem lg (okE dom g fo sem lg)):=by
  have D:=T.c_reckoned
  refine D.fn.okC screckoned (fun vs H Q E h=>?_) (fun cdv A outer s H vs Q E hcd hr h=>?_)
  · obtain ⟨v,y,fm,n,hm,acc,rfl,_⟩:=h
    rfl
  · obtain ⟨v,y,fm,n,hm,acc,rfl,hv,fo_,h8,okA,hd,hst,hbd,hy,ht,k⟩:=h
    have hu:=hr.units0
    have hu1:=hu_of hr
    refine ⟨_,((pss_one (ps_ret (pe_callL (k:=7) (hr.mono (by decide)) (by rfl) T.c_told_by_parts.gl T.c_told_by_parts.fn.kp T.c_told_by_parts.b (pa_consC (pe_cl T.c_all_parts (ok_all_parts T) (hr.mono (by decide)) (pa_consN (pv 0) pa_nil)) (pa_consZ (pe_lam (clos:=[("shows",s.heap.objs.size+2),("outer",s.heap.objs.size+3),("cell",s.heap.objs.size+1)]) rfl (by with_unfolding_all rfl) (hcd.symm.trans T.kc_reckoned) hC hB) pa_nil)))))),?_⟩
    refine ⟨_,rfl,v,fm,0,n,rfl,hv,fo_,h8,fun l ws H1 hl0 hl fms s1=>?_⟩
    refine ⟨ht.sm s1,fun lf H2 nf keep tab lam=>?_⟩
    obtain ⟨ps,hP,_⟩:=ht.sm s1
    have d2:SmD H1 H2:=SmD.tab hP keep
    have d02:SmD H H2:=(SmD.of s1).trans d2
    have dd:SmD H (L2.del qR H2):=d02.trans (SmD.del qR H2)
    obtain ⟨c',ctv,hlf,hcd'⟩:=lam
    obtain ⟨uL,eL⟩:=hS.ob _ _ (hS.smd d02 hst)
    refine ⟨qR,spToldE L lf TbAt (sem hm) (lg hm) (okE dom g fo sem lg hm) (fun H=>Dp H∧HmAt H y hm) St,fun base' W=>?_,?_⟩
    · refine ok_told_by_parts T (fun H H' v b s x=>x.kp s) (fun H H' s kp x=>⟨hD _ _ s kp x.1,x.2.kp kp⟩) hS ?_
      refine W.lam (k:=5) (ps:=["formula","tables"]) (fv:=["cell","shows","outer"]) (js:=[1,2,3]) hlf hcd' ⟨rfl,rfl,rfl,by decide +kernel,(List.forall_mem_cons.mpr ⟨rfl,(List.forall_mem_cons.mpr ⟨rfl,(List.forall_mem_nil _)⟩)⟩),by decide +kernel,by decide +kernel,(List.forall_mem_cons.mpr ⟨⟨rfl,rfl,rfl⟩,(List.forall_mem_cons.mpr ⟨⟨rfl,rfl,rfl⟩,(List.forall_mem_cons.mpr ⟨⟨rfl,rfl,rfl⟩,(List.forall_mem_nil _)⟩)⟩)⟩),(List.forall_mem_cons.mpr ⟨rfl,(List.forall_mem_cons.mpr ⟨rfl,(List.forall_mem_cons.mpr ⟨rfl,(List.forall_mem_nil _)⟩)⟩)⟩),(.cons rfl (.cons rfl (.cons rfl .nil)))⟩ (fun us hl=>by obtain ⟨_,_,rfl⟩:=len_2 hl;rfl) (fun vs H Q E h=>?_) (fun A outer s H vs Q E hr h=>?_)
      · obtain ⟨_,_,_,_,_,_,rfl,_⟩:=h
        rfl
      · obtain ⟨v',f',l',us',n',acc',rfl,hv',fo',ok',⟨hd',hy'⟩,st',hbd',hl',tb',k'⟩:=h
        refine ⟨_,(pe_cl T.c_table_by_parts (ok_table_by_parts (hm:=hm) (sem:=sem) (lg:=lg) T (W.fv G) (W.fv G2) hD hS) (hr.mono (by omega)) (pa_consN (pv 0) (pa_consN (pv 1) (pa_consN (pv 2) (pa_consN (pv 3) (pa_consN (pv 4) pa_nil)))))),?_⟩
        exact ⟨_,rfl,_,rfl,_,rfl,_,rfl,_,rfl,v',y,f',l',us',n',acc',rfl,hv',fo',ok',hd',st',hbd',hl',tb',hy',k'⟩
    · have d3:=d2.trans (SmD.del qR H2)
      have nl:l≠L:=hS.ne hst hl0
      refine ⟨l,fm,ws,n,acc,rfl,d3 _ _ hl rfl,nl,FmsAt.kp fms d3.kp,fo_,h8,okA,⟨hD.smd dd hd,hy.kp dd.kp⟩,hS.smd dd hst,hbd,fun x H3 hx k3 st3 hn=>?_⟩
      have kx:KeepX L H2 (L2.put qR H2 H3):=keep_put k3
      refine k x _ (hx.kp (Kp.back hn)) (fun b o' hb hb' e=>kx b o' hb' (keep b o' hb (s1 _ _ e))) (tab_smf tab (SmF.kx eL kx)) (hS.st _ _ _ (fun o' e=>?_) (Kp.back hn) st3)
      rw [put_out (by rw [eL];exact dat_kn rfl)]
      exact e
theorem sc_law_lowest:FnScope ["_law_top","_law_bottom","_law_one","_law_other"] ["_law_top","_law_bottom"] (defScope s__law_lowest):=⟨rfl,rfl,rfl,by decide +kernel,rfl,by decide +kernel,by decide +kernel⟩
theorem ok__law_lowest (T:Txt w K mg t):FnOk P w K mg base CX0 1 t.f__law_lowest t.d__law_lowest ["_law_top","_law_bottom"] spLoV:=by
  have D:=T.c__law_lowest
  refine D.fn.ok sc_law_lowest (fun vs H Q E h=>?_) (fun cdv A outer s H vs Q E hr h=>?_)
  · obtain ⟨t_,b,rfl,_⟩:=h
    rfl
  · obtain ⟨t_,b,rfl,hb1,hz,k⟩:=h
    have hu:=hr.units0
    have hu1:=hu_of hr
    refine ⟨_,((pss_cons (ps_set (i:=2) sc_law_lowest.nd rfl (Or.inl rfl) (pe_callB call_abs (by rfl) T.abs boot_abs (pa_consN (pv 0) pa_nil)))
      (pss_cons (ps_set (i:=3) sc_law_lowest.nd rfl (Or.inl rfl) (pv 1))
      (pss_cons (ps_while PassesOwn.never (pt_cmpR op_gt (pv 3) pe_int (nomark _)) (pss_one (ps_par (i:=2) (j:=3) rfl sc_law_lowest.nd rfl rfl (by decide) rfl rfl (pa_consN (pv 3) (pa_consB (pe_op op_mod (pv 2) (pv 3)) pa_nil)) rfl)))
      (pss_one (ps_ret (pe_tup (pa_consK pe_str (pa_consB (pe_op op_fdivW (pv 0) (pv 2)) (pa_consB (pe_op op_fdivW (pv 1) (pv 2)) pa_nil)))))))))),?_⟩
    have hb:b≠0:=by omega
    refine ⟨_,rfl,t_,rfl,?_⟩
    refine ⟨_,rfl,?_⟩
    refine while_by (fun σ H'=>H'=H∧∃ (m n:Nat),σ=[some (.int t_),some (.int b),some (.int m),some (.int n)]∧Nat.gcd m n=Nat.gcd t_.natAbs b.natAbs)
      (fun σ _=>lastN σ) ⟨rfl,t_.natAbs,b.natAbs,by rw [← abs_if t_,show ((b.natAbs:Nat):Int)=b by omega];rfl,rfl⟩ ?_ (fun σ H Q Q' hq ⟨v,e,i,j,z1,z2,c,e2,q⟩=>⟨v,e,i,j,z1,z2,c,e2,hq _ _ q⟩)
    rintro σ H' ⟨rfl,m,n,rfl,hg⟩
    refine ⟨_,rfl,_,_,rfl,rfl,_,rfl,?_⟩
    refine ite2 (fun hc=>?_) (fun hc=>?_)
    · have hn:(0:Int)<(n:Int):=by simpa using hc
      refine ⟨_,rfl,_,rfl,_,rfl,_,_,rfl,rfl,hn,_,_,rfl,?_⟩
      refine ⟨⟨rfl,n,m%n,?_,by rw [gcd_turn];exact hg⟩,?_⟩
      · rw [Int.natCast_emod];rfl
      · show ((m:Int)%(n:Int)).toNat<((n:Int)).toNat
        have h1:=Int.emod_lt_of_pos (m:Int) hn
        have h2:=Int.emod_nonneg (m:Int) (show (n:Int)≠0 by omega)
        omega
    · have hn':¬ (0:Int)<(n:Int):=by simpa using hc
      have hn:n=0:=by omega
      subst hn
      rw [Nat.gcd_zero_right] at hg
      subst hg
      have h0:=dv_ne (t:=t_) hb
      have h1:=sz_dv (t:=t_) hb hz
      unfold lowT lowB at k
      have e:dv t_ b=((Nat.gcd t_.natAbs b.natAbs:Nat):Int):=if_neg (by omega)
      rw [e] at k h0 h1
      exact ⟨_,rfl,_,rfl,_,_,rfl,rfl,⟨h0,h1⟩,_,rfl,_,rfl,_,_,rfl,rfl,⟨h0,h1⟩,three_le,k⟩
theorem sc_law_cell_at:FnScope ["_law_script","_law_k"] ["_law_script","_law_k"] (defScope s__law_cell_at):=⟨rfl,rfl,rfl,by decide +kernel,rfl,by decide +kernel,by decide +kernel⟩
theorem ok__law_cell_at (T:Txt w K mg t):FnOk P w K mg base CX0 1 t.f__law_cell_at t.d__law_cell_at ["_law_script","_law_k"] (spCat K):=by
  have D:=T.c__law_cell_at
  refine D.fn.ok sc_law_cell_at (fun vs H Q E h=>?_) (fun cdv A outer s H vs Q E hr h=>?_)
  · obtain ⟨a,ns,i,rfl,_⟩:=h
    rfl
  · obtain ⟨a,ns,i,rfl,hS,h0,k⟩:=h
    have hu:=hr.units0
    have hu1:=hu_of hr
    refine ⟨_,((pss_cons (ps_if (pt_cmpR op_lt (pv 1) (pe_callB call_len_seq (by rfl) T.len PySem.boot_len (pa_consN (pv 0) pa_nil)) (nomark _)) (pss_one (ps_ret (pe_ix ix_list (pv 0) (pv 1) (fun _ _=>rfl)))) pss_nil)
      (pss_one (ps_ret pe_int)))),?_⟩
    refine ⟨_,rfl,_,rfl,a,_,rfl,.inl hS,_,_,rfl,rfl,_,rfl,ite2 (fun c1=>?_) (fun c1=>k 0)⟩
    have hlt:i<(ns.length:Int):=by have:=of_decide_eq_true c1;rw [List.length_map] at this;exact this
    obtain ⟨v,hv⟩:=atI_ints (ns:=ns) h0 hlt
    exact ⟨_,rfl,_,rfl,a,_,_,_,rfl,rfl,hS,hv,k v⟩
theorem sc_law_pen:FnScope ["_law_script"] ["_law_script"] (defScope s__law_pen):=⟨rfl,rfl,rfl,by decide +kernel,rfl,by decide +kernel,by decide +kernel⟩
theorem ok__law_pen (T:Txt w K mg t):FnOk P w K mg base CX0 2 t.f__law_pen t.d__law_pen ["_law_script"] (spPeM K):=by
  have D:=T.c__law_pen
  refine D.fn.ok sc_law_pen (fun vs H Q E h=>?_) (fun cdv A outer s H vs Q E hr h=>?_)
  · obtain ⟨a,ns,rfl,_⟩:=h
    rfl
  · obtain ⟨a,ns,rfl,hS,h63,k⟩:=h
    have hu:=hr.units0
    have hu1:=hu_of hr
    refine ⟨_,((pss_one (ps_ret (pe_lst (pa_consN (pv 0) (pa_consM (pe_cmpR op_eq (pe_op op_mod (pe_cl T.c__law_cell_at (ok__law_cell_at T) (hr.mono (by decide)) (pa_consN (pv 0) (pa_consK pe_int pa_nil))) pe_int) pe_int (nomark _)) (pa_consK pe_int (pa_consK pe_int pa_nil)))))))),?_⟩
    refine ⟨_,rfl,_,rfl,a,ns,0,rfl,hS,(by decide),fun v=>⟨_,_,rfl,rfl,(by show (0:Int)<_;decide),rfl,(by show 4≤sizeLine;decide),fun p hp=>?_⟩⟩
    exact k p _ hp ⟨_,0,0,upd_same,(Same.new hp).seq hS,by decide,by decide,h63⟩ (Same.new hp)
theorem sc_law_take:FnScope ["_law_pen_here","_law_most","_law_count","_law_drawn","_law_mixing"] ["_law_pen_here","_law_most"] (defScope s__law_take):=⟨rfl,rfl,rfl,by decide +kernel,rfl,by decide +kernel,by decide +kernel⟩
theorem ok__law_take (T:Txt w K mg t):FnOk P w K mg base CX0 2 t.f__law_take t.d__law_take ["_law_pen_here","_law_most"] (spTkM K):=by
  have D:=T.c__law_take
  refine D.fn.ok sc_law_take (fun vs H Q E h=>?_) (fun cdv A outer s H vs Q E hr h=>?_)
  · obtain ⟨p,m,n,S,rfl,_⟩:=h
    rfl
  · obtain ⟨p,m,n,S,rfl,hm,hz,hpen,hn,k⟩:=h
    have hu:=hr.units0
    have hu1:=hu_of hr
    refine ⟨_,((pss_cons (ps_set (i:=2) sc_law_take.nd rfl (Or.inl rfl) (pe_ix ix_list (pv 0) pe_int (fun _ _=>rfl)))
      (pss_cons (ps_asg (pe_op op_add (pv 2) pe_int) (pg_sub (pv 0) pe_int set_list))
      (pss_cons (ps_if (pt_val (pe_ix ix_list (pv 0) pe_int (fun _ _=>rfl))) (pss_cons (ps_if (pt_cmpR op_eq (pe_op op_mod (pv 2) pe_int) pe_int (nomark _)) (pss_one (ps_asg (pe_cl T.c__law_cell_at (ok__law_cell_at T) (hr.mono (by decide)) (pa_consS (pe_ix ix_list (pv 0) pe_int (fun _ _=>rfl)) (pa_consB (pe_op op_add pe_int (pe_op op_fdiv (pv 2) pe_int)) pa_nil))) (pg_sub (pv 0) pe_int set_list))) pss_nil)
      (pss_cons (ps_set (i:=3) sc_law_take.nd rfl (Or.inl rfl) (pe_op op_mod (pe_ix ix_list (pv 0) pe_int (fun _ _=>rfl)) (pv 1)))
      (pss_cons (ps_asg (pe_op op_fdivW (pe_ix ix_list (pv 0) pe_int (fun _ _=>rfl)) (pv 1)) (pg_sub (pv 0) pe_int set_list))
      (pss_one (ps_ret (pv 3)))))) pss_nil)
      (pss_cons (ps_set (i:=4) sc_law_take.nd rfl (Or.inl rfl) (pe_op op_mod (pe_op op_mulW (pe_op op_add (pe_op op_mod (pe_cl T.c__law_cell_at (ok__law_cell_at T) (hr.mono (by decide)) (pa_consS (pe_ix ix_list (pv 0) pe_int (fun _ _=>rfl)) (pa_consB (pe_op op_add pe_int (pe_op op_mod (pv 2) pe_int)) pa_nil))) pe_int) pe_int) (pe_op op_add pe_int (pe_op op_mulW pe_int (pv 2)))) pe_int))
      (pss_cons (ps_set (i:=4) sc_law_take.nd rfl (Or.inl rfl) (pe_op op_mod (pe_op op_mulW (pv 4) (pe_op op_add (pe_op op_add (pe_op op_mod (pv 4) pe_int) (pv 2)) pe_int)) pe_int))
      (pss_one (ps_ret (pe_op op_mod (pe_op op_fdiv (pe_op op_mod (pe_op op_mulW (pv 4) (pe_op op_add (pe_op op_mod (pv 4) pe_int) pe_int)) pe_int) pe_int) (pv 1)))))))))),?_⟩
    obtain ⟨a,ns⟩:=S
    obtain ⟨b,c,r,hp,hS,hc0,hc1,h63⟩:=hpen
    dsimp only at hp hS h63
    refine ⟨_,rfl,p,_,_,_,rfl,rfl,SqL.of hp,rfl,?_⟩
    refine ⟨_,rfl,_,_,rfl,rfl,_,rfl,p,_,_,2,rfl,rfl,hp,rfl,?_⟩
    have hp1:upd H p (.lst [.ref a,.bl b,.int (c+1),.int r]) p=some (.lst [.ref a,.bl b,.int (c+1),.int r]):=upd_same
    have kp1:KeepX p H (upd H p (.lst [.ref a,.bl b,.int (c+1),.int r])):=KeepX.upd
    show _
    generalize hH1:upd H p (.lst [.ref a,.bl b,.int (c+1),.int r])=H1 at hp1 kp1
    have hH1':upd H p (.lst (([.ref a,.bl b,.int c,.int r]:List V).set 2 (.int (c+1))))=H1:=hH1
    have hS1:=SqL.kl hS hp kp1
    have fin:∀ (r' x:Int) (H2:Hp),0≤x→x<m→H2 p=some (.lst [.ref a,.bl b,.int (c+1),.int r'])→KeepX p H H2→Q (.int x) H2:=fun r' x H2 x0 x1 h2 kp=>
      k x H2 x0 x1 ⟨b,c+1,r',h2,SqL.kl hS hp kp,by omega,by omega,h63⟩ kp
    rw [hH1']
    refine ⟨_,rfl,p,_,_,_,rfl,rfl,SqL.of hp1,rfl,b,rfl,?_⟩
    cases b with
    | true=>
      refine iteT ?_
      have last:∀ (r':Int) (H2:Hp),H2 p=some (.lst [.ref a,.bl true,.int (c+1),.int r'])→KeepX p H H2→Q (.int (r'%m)) (upd H2 p (.lst [.ref a,.bl true,.int (c+1),.int (r'.fdiv m)])):=fun r' H2 h2 kp=>
        fin (r'.fdiv m) (r'%m) (upd H2 p (.lst [.ref a,.bl true,.int (c+1),.int (r'.fdiv m)])) (Int.emod_nonneg _ (by omega)) (Int.emod_lt_of_pos _ hm) upd_same (kp.trans KeepX.upd)
      refine ⟨_,rfl,_,_,rfl,rfl,(by show (0:Int)<_;decide),rfl,_,rfl,ite2 (fun c2=>?_) (fun c2=>?_)⟩
      · refine ⟨_,rfl,p,_,_,_,rfl,rfl,SqL.of hp1,rfl,_,rfl,_,_,rfl,rfl,⟨by decide,by decide⟩,_,_,rfl,rfl,a,ns,_,rfl,hS1,(by omega),fun v=>⟨_,rfl,p,_,_,3,rfl,rfl,hp1,rfl,?_⟩⟩
        have hp2:upd H1 p (.lst [.ref a,.bl true,.int (c+1),.int v]) p=some (.lst [.ref a,.bl true,.int (c+1),.int v]):=upd_same
        refine ⟨_,rfl,p,_,_,_,rfl,rfl,SqL.of hp2,rfl,_,rfl,_,_,rfl,rfl,hm,?_⟩
        refine ⟨_,rfl,p,_,_,_,rfl,rfl,SqL.of hp2,rfl,_,rfl,_,_,rfl,rfl,⟨by omega,hz⟩,_,rfl,p,_,_,3,rfl,rfl,hp2,rfl,?_⟩
        exact ⟨_,rfl,last v _ hp2 (kp1.trans KeepX.upd)⟩
      · refine ⟨_,rfl,p,_,_,_,rfl,rfl,SqL.of hp1,rfl,_,rfl,_,_,rfl,rfl,hm,?_⟩
        refine ⟨_,rfl,p,_,_,_,rfl,rfl,SqL.of hp1,rfl,_,rfl,_,_,rfl,rfl,⟨by omega,hz⟩,_,rfl,p,_,_,3,rfl,rfl,hp1,rfl,?_⟩
        exact ⟨_,rfl,last r _ hp1 kp1⟩
    | false=>
      refine iteF ?_
      refine ⟨_,rfl,p,_,_,_,rfl,rfl,SqL.of hp1,rfl,_,rfl,_,_,rfl,rfl,(by show (0:Int)<_;decide),_,_,rfl,rfl,a,ns,_,rfl,hS1,(by omega),fun v=>?_⟩
      have n1:=Int.emod_nonneg v (show (2147483629:Int)≠0 by decide)
      have n2:=Int.emod_lt_of_pos v (show (0:Int)<2147483629 by decide)
      refine ⟨_,_,rfl,rfl,(by show (0:Int)<_;decide),?_⟩
      generalize v%2147483629=y at n1 n2 ⊢
      have m1:=Int.emod_nonneg ((y+1)*(48271+69621*c)) (show (2147483647:Int)≠0 by decide)
      have m2:=Int.emod_lt_of_pos ((y+1)*(48271+69621*c)) (show (0:Int)<2147483647 by decide)
      refine ⟨_,_,rfl,rfl,_,rfl,_,_,rfl,rfl,⟨sz4000 (by decide) (by decide),sz4000 (by omega) (by omega)⟩,_,_,rfl,rfl,_,_,rfl,rfl,⟨sz4000 (by omega) (by omega),sz4000 (by omega) (by omega)⟩,_,_,rfl,rfl,(by show (0:Int)<_;decide),?_⟩
      generalize (y+1)*(48271+69621*c)%2147483647=x at m1 m2 ⊢
      have q1:=Int.emod_nonneg (x*(x%65521+c+3)) (show (2147483629:Int)≠0 by decide)
      have q2:=Int.emod_lt_of_pos (x*(x%65521+c+3)) (show (0:Int)<2147483629 by decide)
      refine ⟨_,rfl,_,rfl,_,_,rfl,rfl,(by show (0:Int)<_;decide),_,rfl,_,_,rfl,rfl,_,_,rfl,rfl,_,_,rfl,rfl,⟨sz4000 (by omega) (by omega),sz4000 (by omega) (by omega)⟩,_,_,rfl,rfl,(by show (0:Int)<_;decide),?_⟩
      generalize x*(x%65521+c+3)%2147483629=w' at q1 q2 ⊢
      refine ⟨_,rfl,_,rfl,_,_,rfl,rfl,(by show (0:Int)<_;decide),_,_,rfl,rfl,_,_,rfl,rfl,⟨sz4000 (by omega) (by omega),sz4000 (by omega) (by omega)⟩,_,_,rfl,rfl,(by show (0:Int)<_;decide),_,_,rfl,rfl,⟨by decide,by decide⟩,_,rfl,_,_,rfl,rfl,hm,?_⟩
      exact fin r _ H1 (Int.emod_nonneg _ (by omega)) (Int.emod_lt_of_pos _ hm) hp1 kp1
theorem sc_law_drawn_cell:FnScope ["_law_pen_here"] ["_law_pen_here"] (defScope s__law_drawn_cell):=⟨rfl,rfl,rfl,by decide +kernel,rfl,by decide +kernel,by decide +kernel⟩
theorem ok__law_drawn_cell (T:Txt w K mg t):FnOk P w K mg base CX0 3 t.f__law_drawn_cell t.d__law_drawn_cell ["_law_pen_here"] (spDcl K):=by
  have D:=T.c__law_drawn_cell
  refine D.fn.ok sc_law_drawn_cell (fun vs H Q E h=>?_) (fun cdv A outer s H vs Q E hr h=>?_)
  · obtain ⟨p,n,S,rfl,_⟩:=h
    rfl
  · obtain ⟨p,n,S,rfl,hpen,hn,k⟩:=h
    have hu:=hr.units0
    have hu1:=hu_of hr
    refine ⟨_,((pss_one (ps_ret (pe_tup (pa_consS (pe_ix ix_list (pe_lst (pa_consK pe_str (pa_consK pe_str pa_nil))) (pe_cl T.c__law_take (ok__law_take T) (hr.mono (by decide)) (pa_consN (pv 0) (pa_consK pe_int pa_nil))) (fun _ _=>rfl)) (pa_consB (pe_op op_add pe_int (pe_cl T.c__law_take (ok__law_take T) (hr.mono (by decide)) (pa_consN (pv 0) (pa_consK pe_int pa_nil)))) (pa_consB (pe_op op_add pe_int (pe_cl T.c__law_take (ok__law_take T) (hr.mono (by decide)) (pa_consN (pv 0) (pa_consK pe_int pa_nil)))) pa_nil))))))),?_⟩
    refine ⟨two_le,fun l hl=>?_⟩
    refine ⟨_,rfl,p,_,_,S,rfl,(by show (0:Int)<_;decide),sz4000 (by decide) (by decide),(hpen.same (Same.new hl)),(by omega),fun r1 H1 a1 b1 pen1 kp1=>?_⟩
    obtain ⟨hl1,kq1⟩:=kpl hpen hl kp1
    obtain ⟨v,hv,hvm⟩:=at2 (x:=vS "main") (y:=vS "b") a1 b1
    obtain ⟨z,rfl,nz⟩:∃ z,v=V.str z∧Nm z:=by
      rcases hvm with rfl | rfl
      · exact ⟨_,rfl,nm_main⟩
      · exact ⟨_,rfl,nm_b⟩
    refine ⟨l,_,_,_,rfl,rfl,SqL.of hl1,hv,?_⟩
    refine ⟨_,rfl,p,_,_,S,rfl,(by show (0:Int)<_;decide),sz4000 (by decide) (by decide),pen1,(by omega),fun r2 H2 a2 b2 pen2 kp2=>⟨_,_,rfl,rfl,?_⟩⟩
    refine ⟨_,rfl,p,_,_,S,rfl,(by show (0:Int)<_;decide),sz4000 (by decide) (by decide),pen2,(by omega),fun r3 H3 a3 b3 pen3 kp3=>⟨_,_,rfl,rfl,three_le,fun q hq=>?_⟩⟩
    exact k q ⟨z,1+r2,1+r3⟩ _ upd_same nz (by show 1≤1+r2;omega) (by show 1+r2≤16;omega) (by show 1≤1+r3;omega) (by show 1+r3≤8;omega) (pen3.same (Same.new hq)) (((kq1.trans kp2).trans kp3).trans (Same.keep (Same.new hq)))
theorem sc_law_great_value:FnScope ["_law_pen_here","_law_way","_law_edge"] ["_law_pen_here"] (defScope s__law_great_value):=⟨rfl,rfl,rfl,by decide +kernel,rfl,by decide +kernel,by decide +kernel⟩
theorem ok__law_great_value (T:Txt w K mg t):FnOk P w K mg base CX0 3 t.f__law_great_value t.d__law_great_value ["_law_pen_here"] (spGvl K):=by
  have D:=T.c__law_great_value
  refine D.fn.ok sc_law_great_value (fun vs H Q E h=>?_) (fun cdv A outer s H vs Q E hr h=>?_)
  · obtain ⟨p,n,S,rfl,_⟩:=h
    rfl
  · obtain ⟨p,n,S,rfl,hpen,hn,k⟩:=h
    have hu:=hr.units0
    have hu1:=hu_of hr
    refine ⟨_,((pss_cons (ps_set (i:=1) sc_law_great_value.nd rfl (Or.inl rfl) (pe_cl T.c__law_take (ok__law_take T) (hr.mono (by decide)) (pa_consN (pv 0) (pa_consK pe_int pa_nil))))
      (pss_cons (ps_if (pt_cmpR op_eq (pv 1) pe_int (nomark _)) (pss_one (ps_ret (pe_cl T.c__law_lowest (ok__law_lowest T) (hr.mono (by decide)) (pa_consB (pe_op op_sub (pe_cl T.c__law_take (ok__law_take T) (hr.mono (by decide)) (pa_consN (pv 0) (pa_consB (pe_op op_mulW pe_int (pe_op op_pow pe_int pe_int)) pa_nil))) (pe_op op_pow pe_int pe_int)) (pa_consB (pe_op op_add pe_int (pe_cl T.c__law_take (ok__law_take T) (hr.mono (by decide)) (pa_consN (pv 0) (pa_consB (pe_op op_pow pe_int pe_int) pa_nil)))) pa_nil))))) pss_nil)
      (pss_cons (ps_set (i:=2) sc_law_great_value.nd rfl (Or.inl rfl) (pe_op op_sub (pe_op op_sub (pe_op op_pow pe_int pe_int) pe_int) (pe_cl T.c__law_take (ok__law_take T) (hr.mono (by decide)) (pa_consN (pv 0) (pa_consK pe_int pa_nil)))))
      (pss_cons (ps_if (pt_cmpR op_eq (pv 1) pe_int (nomark _)) (pss_one (ps_ret (pe_tup (pa_consK pe_str (pa_consB (pe_op op_mulW (pv 2) (pe_ix ix_list (pe_lst (pa_consK pe_int (pa_consU (pe_un un_neg pe_int) pa_nil))) (pe_cl T.c__law_take (ok__law_take T) (hr.mono (by decide)) (pa_consN (pv 0) (pa_consK pe_int pa_nil))) (fun _ _=>rfl))) (pa_consK pe_int pa_nil)))))) pss_nil)
      (pss_one (ps_ret (pe_cl T.c__law_lowest (ok__law_lowest T) (hr.mono (by decide)) (pa_consB (pe_op op_add pe_int (pe_cl T.c__law_take (ok__law_take T) (hr.mono (by decide)) (pa_consN (pv 0) (pa_consK pe_int pa_nil)))) (pa_consN (pv 2) pa_nil)))))))))),?_⟩
    have e30:=n30
    refine ⟨_,rfl,p,_,_,S,rfl,(by show (0:Int)<_;decide),sz4000 (by decide) (by decide),hpen,(by omega),fun r1 H1 a1 b1 pen1 kp1=>⟨_,rfl,rfl,_,rfl,ite2 (fun c1=>?_) (fun c1=>?_)⟩⟩
    · refine ⟨_,rfl,_,_,rfl,rfl,⟨by decide,by decide,by decide⟩,_,_,rfl,rfl,⟨(szlit (n:=200) (by decide)).mono (by decide),(szlit (n:=200) (by decide)).mono (by decide)⟩,p,_,_,S,rfl,(by show (0:Int)<_;decide),(szlit (n:=200) (by decide)).mono (by decide),pen1,(by omega),fun r2 H2 a2 b2 pen2 kp2=>?_⟩
      refine ⟨_,_,rfl,rfl,⟨by decide,by decide,by decide⟩,_,_,rfl,rfl,_,rfl,_,_,rfl,rfl,⟨by decide,by decide,by decide⟩,p,_,_,S,rfl,(by show (0:Int)<_;decide),(szlit (n:=200) (by decide)).mono (by decide),pen2,(by omega),fun r3 H3 a3 b3 pen3 kp3=>⟨_,_,rfl,rfl,?_⟩⟩
      rw [p28] at b2 ⊢
      rw [p9] at b3
      refine ⟨_,_,rfl,(by omega),sz30 (by omega) (by omega),fun q hq=>k _ _ _ vNum (low_vl (by omega) (by omega) (by omega)) ((pen3.same (Same.new hq)).mono (by omega)) (((kp1.trans kp2).trans kp3).trans (Same.keep (Same.new hq)))⟩
    · refine ⟨_,_,rfl,rfl,⟨by decide,by decide,by decide⟩,_,_,rfl,rfl,_,rfl,p,_,_,S,rfl,(by show (0:Int)<_;decide),sz4000 (by decide) (by decide),pen1,(by omega),fun r2 H2 a2 b2 pen2 kp2=>⟨_,_,rfl,rfl,?_⟩⟩
      rw [p30]
      refine ⟨_,rfl,rfl,_,rfl,ite2 (fun c2=>?_) (fun c2=>?_)⟩
      · refine ⟨_,rfl,1,rfl,two_le,fun l hl=>⟨_,rfl,p,_,_,S,rfl,(by show (0:Int)<_;decide),sz4000 (by decide) (by decide),(pen2.same (Same.new hl)),(by omega),fun r3 H3 a3 b3 pen3 kp3=>?_⟩⟩
        obtain ⟨hl3,kq3⟩:=kpl pen2 hl kp3
        obtain ⟨v,hv,hvm⟩:=at2 (x:=.int 1) (y:=.int (-1)) a3 b3
        obtain ⟨z,rfl,nz⟩:∃ z:Int,v=V.int z∧(z=1∨z = -1):=by
          rcases hvm with rfl | rfl
          · exact ⟨_,rfl,.inl rfl⟩
          · exact ⟨_,rfl,.inr rfl⟩
        refine ⟨l,_,_,_,rfl,rfl,SqL.of hl3,hv,_,_,rfl,rfl,⟨sz30 (by omega) (by omega),sz30 (by omega) (by omega)⟩,three_le,fun q hq=>?_⟩
        refine k _ _ _ vNum (one_vl ?_) ((pen3.same (Same.new hq)).mono (by omega)) (((kp1.trans kp2).trans kq3).trans (Same.keep (Same.new hq)))
        rcases nz with rfl | rfl
        · rw [Int.mul_one];omega
        · rw [Int.mul_neg,Int.mul_one];omega
      · refine ⟨_,rfl,p,_,_,S,rfl,(by show (0:Int)<_;decide),sz4000 (by decide) (by decide),pen2,(by omega),fun r3 H3 a3 b3 pen3 kp3=>⟨_,_,rfl,rfl,_,rfl,?_⟩⟩
        exact ⟨_,_,rfl,(by omega),sz30 (by omega) (by omega),fun q hq=>k _ _ _ vNum (low_vl (by omega) (by omega) (by omega)) ((pen3.same (Same.new hq)).mono (by omega)) (((kp1.trans kp2).trans kp3).trans (Same.keep (Same.new hq)))⟩
theorem sc_law_drawn_value:FnScope ["_law_pen_here","_law_way","_law_some","_law_words"] ["_law_pen_here"] (defScope s__law_drawn_value):=⟨rfl,rfl,rfl,by decide +kernel,rfl,by decide +kernel,by decide +kernel⟩
theorem ok__law_drawn_value (T:Txt w K mg t):FnOk P w K mg base CX0 4 t.f__law_drawn_value t.d__law_drawn_value ["_law_pen_here"] (spDvl K):=by
  have D:=T.c__law_drawn_value
  refine D.fn.ok sc_law_drawn_value (fun vs H Q E h=>?_) (fun cdv A outer s H vs Q E hr h=>?_)
  · obtain ⟨p,n,S,rfl,_⟩:=h
    rfl
  · obtain ⟨p,n,S,rfl,hpen,hn,k⟩:=h
    have hu:=hr.units0
    have hu1:=hu_of hr
    refine ⟨_,((pss_cons (ps_set (i:=1) sc_law_drawn_value.nd rfl (Or.inl rfl) (pe_cl T.c__law_take (ok__law_take T) (hr.mono (by decide)) (pa_consN (pv 0) (pa_consK pe_int pa_nil))))
      (pss_cons (ps_if (pt_cmpR op_lt (pv 1) pe_int (nomark _)) (pss_one (ps_ret (pe_tup (pa_consK pe_str pa_nil)))) pss_nil)
      (pss_cons (ps_if (pt_cmpR op_lt (pv 1) pe_int (nomark _)) (pss_one (ps_ret (pe_cl T.c__law_lowest (ok__law_lowest T) (hr.mono (by decide)) (pa_consB (pe_op op_sub (pe_cl T.c__law_take (ok__law_take T) (hr.mono (by decide)) (pa_consN (pv 0) (pa_consK pe_int pa_nil))) pe_int) (pa_consB (pe_op op_add pe_int (pe_cl T.c__law_take (ok__law_take T) (hr.mono (by decide)) (pa_consN (pv 0) (pa_consK pe_int pa_nil)))) pa_nil))))) pss_nil)
      (pss_cons (ps_if (pt_cmpR op_eq (pv 1) pe_int (nomark _)) (pss_one (ps_ret (pe_cl T.c__law_great_value (ok__law_great_value T) (hr.mono (by decide)) (pa_consN (pv 0) pa_nil)))) pss_nil)
      (pss_cons (ps_if (pt_cmpR op_lt (pv 1) pe_int (nomark _)) (pss_cons (ps_set (i:=2) sc_law_drawn_value.nd rfl (Or.inl rfl) (pe_lst (pa_consK pe_str (pa_consK pe_str (pa_consK pe_str (pa_consK pe_str (pa_consK pe_str (pa_consK pe_str (pa_consK pe_str (pa_consK pe_str pa_nil))))))))))
      (pss_one (ps_ret (pe_tup (pa_consK pe_str (pa_consS (pe_ix ix_list (pv 2) (pe_cl T.c__law_take (ok__law_take T) (hr.mono (by decide)) (pa_consN (pv 0) (pa_consK pe_int pa_nil))) (fun _ _=>rfl)) pa_nil)))))) pss_nil)
      (pss_cons (ps_if (pt_cmpR op_lt (pv 1) pe_int (nomark _)) (pss_one (ps_ret (pe_tup (pa_consK pe_str (pa_consM (pe_cmpR op_eq (pe_cl T.c__law_take (ok__law_take T) (hr.mono (by decide)) (pa_consN (pv 0) (pa_consK pe_int pa_nil))) pe_int (nomark _)) pa_nil))))) pss_nil)
      (pss_cons (ps_set (i:=3) sc_law_drawn_value.nd rfl (Or.inl rfl) (pe_lst (pa_consK pe_str (pa_consK pe_str (pa_consK pe_str (pa_consK pe_str (pa_consK pe_str (pa_consK pe_str (pa_consK pe_str (pa_consK pe_str (pa_consK pe_str pa_nil)))))))))))
      (pss_one (ps_ret (pe_tup (pa_consK pe_str (pa_consS (pe_ix ix_list (pv 3) (pe_cl T.c__law_take (ok__law_take T) (hr.mono (by decide)) (pa_consN (pv 0) (pa_consK pe_int pa_nil))) (fun _ _=>rfl)) (pa_consC (pe_cl T.c__law_drawn_cell (ok__law_drawn_cell T) (hr.mono (by decide)) (pa_consN (pv 0) pa_nil)) pa_nil)))))))))))))),?_⟩
    have e30:=n30
    refine ⟨_,rfl,p,_,_,S,rfl,(by show (0:Int)<_;decide),sz4000 (by decide) (by decide),hpen,(by omega),fun r1 H1 a1 b1 pen1 kp1=>⟨_,rfl,_,_,rfl,rfl,_,rfl,ite2 (fun c1=>?_) (fun c1=>?_)⟩⟩
    · exact ⟨(by show 1≤sizeLine;decide),fun q hq=>k (.ref q) .none _ ⟨q,rfl,upd_same⟩ trivial ((pen1.same (Same.new hq)).mono (by omega)) (kp1.trans (Same.keep (Same.new hq)))⟩
    refine ⟨_,rfl,_,_,rfl,rfl,_,rfl,ite2 (fun c2=>?_) (fun c2=>?_)⟩
    · refine ⟨_,rfl,p,_,_,S,rfl,(by show (0:Int)<_;decide),sz4000 (by decide) (by decide),pen1,(by omega),fun r2 H2 a2 b2 pen2 kp2=>⟨_,_,rfl,rfl,_,rfl,p,_,_,S,rfl,(by show (0:Int)<_;decide),sz4000 (by decide) (by decide),pen2,(by omega),fun r3 H3 a3 b3 pen3 kp3=>⟨_,_,rfl,rfl,?_⟩⟩⟩
      exact ⟨_,_,rfl,(by omega),sz30 (by omega) (by omega),fun q hq=>k _ _ _ vNum (low_vl (by omega) (by omega) (by omega)) ((pen3.same (Same.new hq)).mono (by omega)) (((kp1.trans kp2).trans kp3).trans (Same.keep (Same.new hq)))⟩
    refine ⟨_,rfl,rfl,_,rfl,ite2 (fun c3=>?_) (fun c3=>?_)⟩
    · exact ⟨_,rfl,p,_,S,rfl,pen1,(by omega),fun u v H' hv ok pen' kp'=>k u v H' hv ok (pen'.mono (by omega)) (kp1.trans kp')⟩
    refine ⟨_,rfl,_,_,rfl,rfl,_,rfl,ite2 (fun c4=>?_) (fun c4=>?_)⟩
    · refine ⟨(by show 8≤sizeLine;decide),fun l hl=>⟨_,rfl,_,rfl,p,_,_,S,rfl,(by show (0:Int)<_;decide),sz4000 (by decide) (by decide),(pen1.same (Same.new hl)),(by omega),fun r2 H2 a2 b2 pen2 kp2=>?_⟩⟩
      obtain ⟨hl2,kq2⟩:=kpl pen1 hl kp2
      obtain ⟨v,hv,hvm⟩:=atR (xs:=drawnTx) a2 b2
      obtain ⟨z,rfl,nz⟩:=drawnTx_ok v hvm
      exact ⟨l,_,_,_,rfl,rfl,SqL.of hl2,hv,two_le,fun q hq=>k (.ref q) (.txt z) _ ⟨q,rfl,upd_same⟩ nz ((pen2.same (Same.new hq)).mono (by omega)) ((kp1.trans kq2).trans (Same.keep (Same.new hq)))⟩
    refine ⟨_,rfl,_,_,rfl,rfl,_,rfl,ite2 (fun c5=>?_) (fun c5=>?_)⟩
    · exact ⟨_,rfl,p,_,_,S,rfl,(by show (0:Int)<_;decide),sz4000 (by decide) (by decide),pen1,(by omega),fun r2 H2 a2 b2 pen2 kp2=>⟨rfl,two_le,fun q hq=>k (.ref q) (.tru _) _ ⟨q,rfl,upd_same⟩ trivial ((pen2.same (Same.new hq)).mono (by omega)) ((kp1.trans kp2).trans (Same.keep (Same.new hq)))⟩⟩
    · refine ⟨(by show 9≤sizeLine;decide),fun l hl=>⟨_,rfl,_,rfl,p,_,_,S,rfl,(by show (0:Int)<_;decide),sz4000 (by decide) (by decide),(pen1.same (Same.new hl)),(by omega),fun r2 H2 a2 b2 pen2 kp2=>?_⟩⟩
      obtain ⟨hl2,kq2⟩:=kpl pen1 hl kp2
      obtain ⟨v,hv,hvm⟩:=atR (xs:=faults.map V.str) a2 b2
      obtain ⟨w',rfl,nz⟩:=faults_mem hvm
      refine ⟨l,_,_,_,rfl,rfl,SqL.of hl2,hv,_,rfl,p,_,S,rfl,pen2,(by omega),fun q h H3 hq nm x1 x2 x3 x4 pen3 kp3=>⟨three_le,fun q2 hq2=>?_⟩⟩
      exact k (.ref q2) (.flt w' h.z h.r h.c) _ ⟨q2,rfl,q,upd_same,Same.new hq2 _ _ hq⟩ ⟨nz,nm,x1,x2,x3,x4⟩ ((pen3.same (Same.new hq2)).mono (by omega)) (((kp1.trans kq2).trans kp3).trans (Same.keep (Same.new hq2)))
theorem sc_law_drawn_table:FnScope ["_law_pen_here","_law_high","_law_wide"] ["_law_pen_here","_law_high","_law_wide"] (defScope s__law_drawn_table):=⟨rfl,rfl,rfl,by decide +kernel,rfl,by decide +kernel,by decide +kernel⟩
theorem ok__law_drawn_table (T:Txt w K mg t):FnOk P w K mg base CX0 5 t.f__law_drawn_table t.d__law_drawn_table ["_law_pen_here","_law_high","_law_wide"] (spDtb K):=by
  have D:=T.c__law_drawn_table
  refine D.fn.ok sc_law_drawn_table (fun vs H Q E h=>?_) (fun cdv A outer s H vs Q E hr h=>?_)
  · obtain ⟨p,h_,w_,n,S,rfl,_⟩:=h
    rfl
  · obtain ⟨p,h_,w_,n,S,rfl,h1,h6,w1,w6,hpen,hn,k⟩:=h
    have hu:=hr.units0
    have hu1:=hu_of hr
    refine ⟨_,((pss_one (ps_ret (pe_comp (fv:=["_law_pen_here","_law_wide"]) (js:=[0,2]) (cl:=[("_law_wide",s.heap.objs.size+2),("_law_pen_here",s.heap.objs.size+1)]) rfl (by with_unfolding_all rfl) ⟨rfl,by decide +kernel,by decide +kernel,rfl,by decide +kernel,by decide +kernel,(List.forall_mem_cons.mpr ⟨⟨rfl,rfl,rfl⟩,(List.forall_mem_cons.mpr ⟨⟨rfl,rfl,rfl⟩,(List.forall_mem_nil _)⟩)⟩),(List.forall_mem_cons.mpr ⟨rfl,(List.forall_mem_cons.mpr ⟨rfl,(List.forall_mem_nil _)⟩)⟩),(.cons rfl (.cons rfl .nil))⟩ (pi_range1 rfl T.range (pa_consN (pv 1) pa_nil)) (fun _ _ _ _ _=>pf_nil) (fun _ _ _ _ _=>(pe_comp (fv:=["_law_pen_here"]) (js:=[1]) (cl:=[("_law_pen_here",s.heap.objs.size+1)]) rfl (by with_unfolding_all rfl) ⟨rfl,by decide +kernel,by decide +kernel,rfl,by decide +kernel,by decide +kernel,(List.forall_mem_cons.mpr ⟨⟨rfl,rfl,rfl⟩,(List.forall_mem_nil _)⟩),(List.forall_mem_cons.mpr ⟨rfl,(List.forall_mem_nil _)⟩),(.cons rfl .nil)⟩ (pi_range1 rfl T.range (pa_consN (pv 2) pa_nil)) (fun _ _ _ _ _=>pf_nil) (fun _ _ _ _ _=>(pe_cl T.c__law_drawn_value (ok__law_drawn_value T) (hr.mono (by decide)) (pa_consN (pv 1) pa_nil))))))))),?_⟩
    refine ⟨_,rfl,_,rfl,(by omega),(by omega),fun D hD=>?_⟩
    have hDp:=hpen.ne hD
    have pen0:PenM K S (upd H D (.lst [])) p n:=hpen.same (Same.new hD)
    refine ⟨fun i m H4=>m=h_-i∧i≤h_∧∃ (bs:List Addr) (rows:List (List V)) (ms:List (List Vl)),H4 D=some (.lst (bs.map V.ref))∧bs.Nodup∧(∀ b∈bs,H b=none∧b≠D)∧LsAt H4 bs rows∧VtAt H4 rows ms∧ms.length=i∧Oks ms w_∧PenM K S H4 p (n+i*60)∧KeepX p H H4,
      ⟨h_,rfl,Nat.zero_le _,[],[],[],upd_same,List.nodup_nil,fun b z=>absurd z (by simp),.nil,.nil,rfl,fun r z=>absurd z (by simp),pen0.mono (by omega),Same.keep (Same.new hD)⟩,?_⟩
    rintro i m H4 ⟨rfl,hi,bs,rows,ms,hD4,nd4,fr4,ls4,vt4,len4,ok4,pen4,kp4⟩
    have bl:bs.length=i:=by rw [Paired.length ls4,Paired.length vt4,len4]
    have hi60:i*60≤6*60:=Nat.mul_le_mul_right 60 (by omega)
    by_cases hlt:i<h_
    · refine .inr ⟨hlt,fun x H' y=>?_⟩
      obtain ⟨e4,rfl⟩:=y
      subst e4
      refine ⟨_,rfl,_,rfl,(by omega),(by omega),fun D2 hD2=>?_⟩
      have n2:=pen4.ne hD2
      have nDD:D2≠D:=fun z=>by rw [z,hD4] at hD2;cases hD2
      have hD2b:D2∉bs:=fun z=>by
        obtain ⟨j,hj⟩:=List.getElem?_of_mem z
        obtain ⟨row,_,e⟩:=paired_at ls4 hj
        rw [hD2] at e;cases e
      refine ⟨fun j m H5=>m=w_-j∧j≤w_∧∃ (us:List V) (vs:List Vl),H5 D2=some (.lst us)∧VsAt H5 us vs∧vs.length=j∧(∀ v∈vs,VlOk v)∧PenM K S H5 p (n+i*60+j*8)∧KeepX p H' H5,
        ⟨w_,rfl,Nat.zero_le _,[],[],upd_same,.nil,rfl,fun r z=>absurd z (by simp),(pen4.same (Same.new hD2)).mono (by omega),Same.keep (Same.new hD2)⟩,?_⟩
      rintro j m H5 ⟨rfl,hj,us,vs,hD5,vs5,len5,ok5,pen5,kp5⟩
      have ul:us.length=j:=by rw [Paired.length vs5,len5]
      have hj8:j*8≤6*8:=Nat.mul_le_mul_right 8 (by omega)
      by_cases hlt2:j<w_
      · refine .inr ⟨hlt2,fun x H6 y=>?_⟩
        obtain ⟨e6,rfl⟩:=y
        subst e6
        refine ⟨_,rfl,p,_,S,rfl,pen5,(by omega),fun u v H7 hv okv pen7 kp7=>?_⟩
        have hD7:=kp7 _ _ n2 hD5
        refine ⟨us,hD7,sl_lt (by omega),w_-(j+1),(by omega),rfl,hlt2,us++[u],vs++[v],upd_same,?_,(by rw [List.length_append,len5];rfl),fun z hz=>?_,?_,fun b o hb e=>?_⟩
        · exact psnoc (VsAt.kp (VsAt.kp vs5 (pen5.kp kp7)) (kp_upd hD7)) (hv.kp (kp_upd hD7))
        · rcases List.mem_append.mp hz with z1 | z1
          · exact ok5 z z1
          · rw [List.mem_singleton.mp z1];exact okv
        · exact (pen4.put hD2 pen7).mono (by omega)
        · rw [upd_ne (ne_of_none e hD2)];exact kp7 _ _ hb (kp5 _ _ hb e)
      · have ej:j=w_:=by omega
        subst ej
        have kpa:=kp4.trans kp5
        refine .inl ⟨Nat.le_refl _,bs.map V.ref,kp5 _ _ hDp hD4,sl_lt (by rw [List.length_map];omega),h_-(i+1),(by omega),rfl,hlt,bs++[D2],rows++[us],ms++[vs],?_,?_,fun b hb=>?_,?_,?_,(by rw [List.length_append,len4];rfl),fun r hr'=>?_,?_,fun b o hb e=>?_⟩
        · rw [upd_same,List.map_append];rfl
        · exact List.nodup_append.mpr ⟨nd4,by simp,fun a ha b hb=>by rw [List.mem_singleton.mp hb];exact fun z=>hD2b (z▸ha)⟩
        · rcases List.mem_append.mp hb with z | z
          · exact fr4 b z
          · rw [List.mem_singleton.mp z];exact ⟨kp4.fresh n2 hD2,nDD⟩
        · refine psnoc (pmem ls4 fun b row hb e=>?_) (by rw [upd_ne nDD];exact hD5)
          rw [upd_ne (fr4 b hb).2]
          exact kp5 _ _ (fun z=>by have:=(fr4 b hb).1;rw [z] at this;obtain ⟨_,eo⟩:=hpen.ob;rw [this] at eo;cases eo) e
        · have kk:Kp H' (upd H5 D (.lst (bs.map V.ref++[.ref D2]))):=(pen4.kp kp5).trans (kp_upd (kp5 _ _ hDp hD4))
          exact psnoc (VtAt.kp vt4 kk) (VsAt.kp vs5 (kp_upd (kp5 _ _ hDp hD4)))
        · rcases List.mem_append.mp hr' with z | z
          · exact ok4 r z
          · rw [List.mem_singleton.mp z];exact ⟨len5,ok5⟩
        · exact (hpen.put hD pen5).mono (by omega)
        · rw [upd_ne (ne_of_none e hD)];exact kpa _ _ hb e
    · have ei:i=h_:=by omega
      subst ei
      refine .inl ⟨Nat.le_refl _,k D bs rows ms H4 hD (fun b hb=>(fr4 b hb).1) ⟨hD4,nd4,fun z=>?_,fun z=>(fr4 D z).2 rfl,hDp,ls4,vt4⟩ len4 ok4 (pen4.mono (by omega)) kp4⟩
      have:=(fr4 p z).1
      obtain ⟨_,eo⟩:=hpen.ob
      rw [this] at eo;cases eo
theorem sc_law_laid:FnScope ["_law_known","_law_sheet","_law_table","_law_high","_law_wide","_law_j","_law_row","_law_k","_law_one","_law_first"] ["_law_known","_law_sheet","_law_table","_law_high","_law_wide"] (defScope s__law_laid):=⟨rfl,rfl,rfl,by decide +kernel,rfl,by decide +kernel,by decide +kernel⟩
theorem ok__law_laid (T:Txt w K mg t):FnOk P w K mg base CX0 1 t.f__law_laid t.d__law_laid ["_law_known","_law_sheet","_law_table","_law_high","_law_wide"] (spLai K):=by
  have D:=T.c__law_laid
  refine D.fn.ok sc_law_laid (fun vs H Q E h=>?_) (fun cdv A outer s H vs Q E hr h=>?_)
  · obtain ⟨kn,l,z,hi,wi,kvs,bs,rows,h_,w_,rfl,_⟩:=h
    rfl
  · obtain ⟨kn,l,z,hi,wi,kvs,bs,rows,h_,w_,rfl,hkn,hk5,hl,ls,hlen,h1,h16,w1,w8,hw,k⟩:=h
    have hu:=hr.units0
    have hu1:=hu_of hr
    refine ⟨_,((pss_cons (ps_for PassesOwn.never rfl (pi_enum rfl T.enumerate bt_enumerate (pa_consN (pv 2) pa_nil)) (pg_tup rfl (pgs_cons (pg_name (i:=5) sc_law_laid.nd rfl (Or.inl rfl)) (pgs_cons (pg_name (i:=6) sc_law_laid.nd rfl (Or.inl rfl)) pgs_nil)))
      (pss_one (ps_for PassesOwn.never rfl (pi_enum rfl T.enumerate bt_enumerate (pa_consN (pv 6) pa_nil)) (pg_tup rfl (pgs_cons (pg_name (i:=7) sc_law_laid.nd rfl (Or.inl rfl)) (pgs_cons (pg_name (i:=8) sc_law_laid.nd rfl (Or.inl rfl)) pgs_nil)))
      (pss_one (ps_dput hu1 (pv 0) (pe_tup (pa_consN (pv 1) (pa_consB (pe_op op_add (pe_op op_add (pv 3) (pv 5)) pe_int) (pa_consB (pe_op op_add (pe_op op_add (pv 4) (pv 7)) pe_int) pa_nil)))) (pv 8) rfl)))))
      (pss_cons (ps_set (i:=9) sc_law_laid.nd rfl (Or.inl rfl) (pe_tup (pa_consB (pe_op op_add (pv 3) pe_int) (pa_consB (pe_op op_add (pv 4) pe_int) (pa_consK pe_bl (pa_consK pe_bl pa_nil))))))
      (pss_cons (ps_if (pw_and (pt_cmpR op_eq (pe_callB call_len_seq (by rfl) T.len PySem.boot_len (pa_consN (pv 2) pa_nil)) pe_int (nomark _)) (pw_and1 (pt_cmpR op_eq (pe_callB call_len_seq (by rfl) T.len PySem.boot_len (pa_consS (pe_ix ix_list (pv 2) pe_int (fun _ _=>rfl)) pa_nil)) pe_int (nomark _)))).pt (pss_one (ps_ret (pe_tup (pa_consK pe_str (pa_consN (pv 1) (pa_consN (pv 9) pa_nil)))))) pss_nil)
      (pss_one (ps_ret (pe_tup (pa_consK pe_str (pa_consN (pv 1) (pa_consN (pv 9) (pa_consT (pe_tup (pa_consB (pe_op op_add (pv 3) (pe_callB call_len_seq (by rfl) T.len PySem.boot_len (pa_consN (pv 2) pa_nil))) (pa_consB (pe_op op_add (pv 4) (pe_callB call_len_seq (by rfl) T.len PySem.boot_len (pa_consS (pe_ix ix_list (pv 2) pe_int (fun _ _=>rfl)) pa_nil))) (pa_consK pe_bl (pa_consK pe_bl pa_nil))))) pa_nil))))))))))),?_⟩
    have bl:bs.length=h_:=by rw [Paired.length ls,hlen]
    have nkl:l≠kn:=ne_of hl hkn (by intro z;cases z)
    have nkb:∀ b row,H b=some (.lst row)→b≠kn:=fun b row e=>ne_of e hkn (by intro z;cases z)
    refine ⟨_,rfl,l,rfl,⟨_,SqL.of hl⟩,?_⟩
    refine for_enum (xs:=bs.map V.ref) (fun i σ H2=>∃ x5 x6 x7 x8 kv2,σ=[some (.ref kn),some (.str z),some (.ref l),some (.int hi),some (.int wi),x5,x6,x7,x8,none]∧H2 kn=some (.dT kv2)∧kv2.length≤kvs.length+i*w_∧Laid kv2 z hi wi rows i 0∧Else kvs kv2 z∧KeepX kn H H2)
      ⟨none,none,none,none,kvs,rfl,hkn,by omega,fun a b row v _ _ h3=>by omega,fun _ _=>rfl,KeepX.refl _ _⟩ ?_ ?_ ?_
    · rintro i σ H2 _ ⟨x5,x6,x7,x8,kv2,rfl,_,_,_,_,kp2⟩
      exact SqL.of (kp2 _ _ nkl hl)
    · rintro i x σ H2 b hx ⟨x5,x6,x7,x8,kv2,rfl,hk2,len2,la2,el2,kp2⟩ hb
      rw [List.getElem?_map] at hx
      obtain ⟨b0,hb0,rfl⟩:∃ b0,bs[i]?=some b0∧x=.ref b0:=by
        cases e:bs[i]? with
        | none=>rw [e] at hx;cases hx
        | some b0=>rw [e] at hx;cases hx;exact ⟨b0,rfl,rfl⟩
      obtain ⟨row,hrow,hbr⟩:=paired_at ls hb0
      have hi16:i<h_:=by have:=(List.getElem?_eq_some_iff.mp hb0).1;omega
      have hiw:i*w_≤16*8:=Nat.mul_le_mul (by omega) w8
      have rl:=hw row (List.mem_of_getElem? hrow)
      have s3:Same H2 (upd H2 b (.tup [.int i,.ref b0])):=Same.new hb
      have hb3:upd H2 b (.tup [.int i,.ref b0]) b=some (.tup [.int i,.ref b0]):=upd_same
      generalize upd H2 b (.tup [.int i,.ref b0])=H3 at *
      have hk3:=s3 _ _ hk2
      have kp3:KeepX kn H H3:=kp2.trans (Same.keep s3)
      refine ⟨b,_,rfl,SqT.of hb3,rfl,_,_,rfl,_,_,rfl,rfl,?_⟩
      refine ⟨_,rfl,b0,rfl,⟨_,SqL.of (kp3 _ _ (nkb _ _ hbr) hbr)⟩,?_⟩
      refine for_enum (xs:=row) (fun j σ H4=>∃ x7 x8 kv4,σ=[some (.ref kn),some (.str z),some (.ref l),some (.int hi),some (.int wi),some (.int i),some (.ref b0),x7,x8,none]∧H4 kn=some (.dT kv4)∧kv4.length≤kvs.length+i*w_+j∧Laid kv4 z hi wi rows i j∧Else kvs kv4 z∧KeepX kn H H4)
        ⟨x7,x8,kv2,rfl,hk3,by omega,la2,el2,kp3⟩ ?_ ?_ ?_
      · rintro j σ H4 _ ⟨x7,x8,kv4,rfl,_,_,_,_,kp4⟩
        exact SqL.of (kp4 _ _ (nkb _ _ hbr) hbr)
      · rintro j v σ H4 b4 hv ⟨x7,x8,kv4,rfl,hk4,len4,la4,el4,kp4⟩ hb4
        have hj:j<w_:=by have:=(List.getElem?_eq_some_iff.mp hv).1;omega
        have s5:Same H4 (upd H4 b4 (.tup [.int j,v])):=Same.new hb4
        have hb5:upd H4 b4 (.tup [.int j,v]) b4=some (.tup [.int j,v]):=upd_same
        generalize upd H4 b4 (.tup [.int j,v])=H5 at *
        have hk5':=s5 _ _ hk4
        refine ⟨b4,_,rfl,SqT.of hb5,rfl,_,_,rfl,_,_,rfl,rfl,?_⟩
        refine ⟨_,rfl,_,rfl,_,rfl,_,rfl,_,rfl,_,_,rfl,rfl,_,_,rfl,rfl,_,rfl,_,rfl,_,_,rfl,rfl,_,_,rfl,rfl,three_le,fun q hq=>?_⟩
        have nq:kn≠q:=ne_of_none hk5' hq
        refine ⟨kn,_,rfl,DPut.t (k:=cK z (hi+i+1) (wi+j+1)) (Same.new hq _ _ hk5') upd_same (sl_lt (by omega)),?_⟩
        refine ⟨_,_,_,rfl,upd_same,?_,la4.next hrow hv,el4.put,fun b' o hb' e=>?_⟩
        · have:=length_putK kv4 (cK z (hi+i+1) (wi+j+1)) v
          omega
        · rw [upd_ne hb'];exact Same.new hq _ _ (s5 _ _ (kp4 _ _ hb' e))
      · rintro σ H4 ⟨x7,x8,kv4,rfl,hk4,len4,la4,el4,kp4⟩
        exact ⟨_,_,_,_,kv4,rfl,hk4,by rw [Nat.succ_mul];omega,la4.row hrow (Nat.le_refl _),el4,kp4⟩
    · rintro σ H2 ⟨x5,x6,x7,x8,kv2,rfl,hk2,len2,la2,el2,kp2⟩
      rw [List.length_map,bl] at len2 la2
      have hl2:=kp2 _ _ nkl hl
      refine ⟨_,rfl,_,_,rfl,rfl,_,rfl,_,_,rfl,rfl,(by show 4≤sizeLine;decide),fun q hq=>?_⟩
      have s3:Same H2 (upd H2 q (.tup (corV ⟨hi+1,wi+1,true,false⟩))):=Same.new hq
      have hq3:upd H2 q (.tup (corV ⟨hi+1,wi+1,true,false⟩)) q=some (.tup (corV ⟨hi+1,wi+1,true,false⟩)):=upd_same
      generalize upd H2 q (.tup (corV ⟨hi+1,wi+1,true,false⟩))=H3 at *
      have hl3:=s3 _ _ hl2
      obtain ⟨b0,bt,rfl⟩:=cons_of (l:=bs) (by omega)
      obtain ⟨r0,rt,rfl⟩:=cons_of (l:=rows) (by omega)
      have hb0:H b0=some (.lst r0):=by cases ls with | cons h _=>exact h
      have hb3:=s3 _ _ (kp2 _ _ (nkb _ _ hb0) hb0)
      have r0l:=hw r0 List.mem_cons_self
      have kp3:KeepX kn H H3:=kp2.trans (Same.keep s3)
      refine ⟨_,rfl,l,_,rfl,.inl (SqL.of hl3),rfl,_,rfl,?_⟩
      refine ite2 (fun c1=>?_) (fun c1=>iteF ?_)
      · refine ⟨_,rfl,l,_,_,_,rfl,rfl,SqL.of hl3,atI_hd,b0,_,rfl,.inl (SqL.of hb3),rfl,_,rfl,ite2 (fun c2=>?_) (fun c2=>?_)⟩
        · have e1:(((b0::bt).map V.ref).length:Int)=1:=by have:=of_decide_eq_true c1;injection this
          have e2:(r0.length:Int)=1:=by have:=of_decide_eq_true c2;injection this
          rw [List.length_map] at e1
          refine ⟨_,rfl,_,rfl,three_le,fun a ha=>?_⟩
          exact k a (.cell (some z) ⟨hi+1,wi+1,true,false⟩) _ _ kv2 _ (Same.new ha _ _ (s3 _ _ hk2)) len2 la2 el2 ⟨q,upd_same,Same.new ha _ _ hq3⟩ rfl rfl rfl (by show hi+1=hi+h_;omega) (by show wi+1=wi+w_;omega) (kp3.trans (Same.keep (Same.new ha)))
        · refine ⟨_,rfl,_,rfl,_,rfl,_,rfl,l,_,rfl,.inl (SqL.of hl3),_,_,rfl,rfl,_,rfl,_,rfl,l,_,_,_,rfl,rfl,SqL.of hl3,atI_hd,b0,_,rfl,.inl (SqL.of hb3),_,_,rfl,rfl,(by show 4≤sizeLine;decide),fun u hu'=>⟨(by show 4≤sizeLine;decide),fun a ha=>?_⟩⟩
          have e1:(((b0::bt).map V.ref).length:Int)=h_:=by rw [List.length_map];omega
          have e2:(r0.length:Int)=w_:=by omega
          exact k a (.rng (some z) ⟨hi+1,wi+1,true,false⟩ ⟨hi+((b0::bt).map V.ref).length,wi+r0.length,false,false⟩) _ _ kv2 _ (Same.new ha _ _ (Same.new hu' _ _ (s3 _ _ hk2))) len2 la2 el2 ⟨q,u,upd_same,Same.new ha _ _ (Same.new hu' _ _ hq3),Same.new ha _ _ upd_same⟩ rfl rfl rfl (by show hi+_=hi+h_;rw [e1]) (by show wi+_=wi+w_;rw [e2]) (kp3.trans (Same.keep ((Same.new hu').trans (Same.new ha))))
      · refine ⟨_,rfl,_,rfl,_,rfl,_,rfl,l,_,rfl,.inl (SqL.of hl3),_,_,rfl,rfl,_,rfl,_,rfl,l,_,_,_,rfl,rfl,SqL.of hl3,atI_hd,b0,_,rfl,.inl (SqL.of hb3),_,_,rfl,rfl,(by show 4≤sizeLine;decide),fun u hu'=>⟨(by show 4≤sizeLine;decide),fun a ha=>?_⟩⟩
        have e1:(((b0::bt).map V.ref).length:Int)=h_:=by rw [List.length_map];omega
        have e2:(r0.length:Int)=w_:=by omega
        exact k a (.rng (some z) ⟨hi+1,wi+1,true,false⟩ ⟨hi+((b0::bt).map V.ref).length,wi+r0.length,false,false⟩) _ _ kv2 _ (Same.new ha _ _ (Same.new hu' _ _ (s3 _ _ hk2))) len2 la2 el2 ⟨q,u,upd_same,Same.new ha _ _ (Same.new hu' _ _ hq3),Same.new ha _ _ upd_same⟩ rfl rfl rfl (by show hi+_=hi+h_;rw [e1]) (by show wi+_=wi+w_;rw [e2]) (kp3.trans (Same.keep ((Same.new hu').trans (Same.new ha))))
theorem sc_law_put_down:FnScope ["_law_pen_here","_law_known","_law_sheet","_law_table"] ["_law_pen_here","_law_known","_law_sheet","_law_table"] (defScope s__law_put_down):=⟨rfl,rfl,rfl,by decide +kernel,rfl,by decide +kernel,by decide +kernel⟩
theorem ok__law_put_down (T:Txt w K mg t):FnOk P w K mg base CX0 3 t.f__law_put_down t.d__law_put_down ["_law_pen_here","_law_known","_law_sheet","_law_table"] (spPut K):=by
  have D:=T.c__law_put_down
  refine D.fn.ok sc_law_put_down (fun vs H Q E h=>?_) (fun cdv A outer s H vs Q E hr h=>?_)
  · obtain ⟨p,kn,l,z,kvs,bs,rows,h_,w_,n,S,rfl,_⟩:=h
    rfl
  · obtain ⟨p,kn,l,z,kvs,bs,rows,h_,w_,n,S,rfl,hpen,hn,hkn,hk8,hl,lp,npb,ls,hlen,h1,h16,w1,w8,hw,k⟩:=h
    have hu:=hr.units0
    have hu1:=hu_of hr
    refine ⟨_,((pss_one (ps_ret (pe_cl T.c__law_laid (ok__law_laid T) (hr.mono (by decide)) (pa_consN (pv 1) (pa_consN (pv 2) (pa_consN (pv 3) (pa_consC (pe_cl T.c__law_take (ok__law_take T) (hr.mono (by decide)) (pa_consN (pv 0) (pa_consB (pe_op op_sub pe_int (pe_callB call_len_seq (by rfl) T.len PySem.boot_len (pa_consN (pv 3) pa_nil))) pa_nil))) (pa_consC (pe_cl T.c__law_take (ok__law_take T) (hr.mono (by decide)) (pa_consN (pv 0) (pa_consB (pe_op op_sub pe_int (pe_callB call_len_seq (by rfl) T.len PySem.boot_len (pa_consS (pe_ix ix_list (pv 3) pe_int (fun _ _=>rfl)) pa_nil))) pa_nil))) pa_nil))))))))),?_⟩
    have bl:bs.length=h_:=by rw [Paired.length ls,hlen]
    have nkp:kn≠p:=by obtain ⟨_,eo⟩:=hpen.ob;exact ne_of hkn eo (by intro z;cases z)
    have e1:(((bs.map V.ref).length:Nat):Int)=h_:=by rw [List.length_map];omega
    refine ⟨_,rfl,_,rfl,_,rfl,_,rfl,_,rfl,l,_,rfl,.inl (SqL.of hl),_,_,rfl,rfl,p,_,_,S,rfl,(by rw [e1];omega),(by rw [e1];exact sz4000 (by omega) (by omega)),hpen,(by omega),fun r1 H1 a1 b1 pen1 kp1=>?_⟩
    rw [e1] at b1
    have hl1:=kp1 _ _ lp hl
    obtain ⟨b0,bt,rfl⟩:=cons_of (l:=bs) (by omega)
    obtain ⟨r0,rt,rfl⟩:=cons_of (l:=rows) (by omega)
    have ls1:LsAt H1 (b0::bt) (r0::rt):=pmem ls fun b row hb e=>kp1 _ _ (fun z=>npb (z▸hb)) e
    have hb0:H1 b0=some (.lst r0):=by cases ls1 with | cons h _=>exact h
    have r0l:=hw r0 List.mem_cons_self
    refine ⟨_,rfl,_,rfl,l,_,_,_,rfl,rfl,SqL.of hl1,atI_hd,b0,_,rfl,.inl (SqL.of hb0),_,_,rfl,rfl,p,_,_,S,rfl,(by rw [r0l];omega),(by rw [r0l];exact sz4000 (by omega) (by omega)),pen1,(by omega),fun r2 H2 a2 b2 pen2 kp2=>?_⟩
    rw [r0l] at b2
    have kp12:=kp1.trans kp2
    have ls2:LsAt H2 (b0::bt) (r0::rt):=pmem ls fun b row hb e=>kp12 _ _ (fun z=>npb (z▸hb)) e
    have hk2:=kp12 _ _ nkp hkn
    refine ⟨kn,l,z,r1,r2,kvs,b0::bt,r0::rt,h_,w_,rfl,hk2,hk8,kp12 _ _ lp hl,ls2,hlen,h1,h16,w1,w8,hw,fun a lf c d kvs' H' x1 x2 x3 x4 x5 x6 x7 x8 x9 x10 kp'=>?_⟩
    exact k a lf c d r1 r2 kvs' H' x1 x2 x3 x4 x5 x6 x7 x8 x9 x10 a1 (by omega) a2 (by omega) (pen2.kx hk2 kp') (fun b o hb hb' e=>kp' _ _ hb' (kp12 _ _ hb e))
theorem sc_law_typed_alike:FnScope ["_law_told","_law_due"] ["_law_told","_law_due"] (defScope s__law_typed_alike):=⟨rfl,rfl,rfl,by decide +kernel,rfl,by decide +kernel,by decide +kernel⟩
theorem ok__law_typed_alike (T:Txt w K mg t):∀ n:Nat,FnOk P w K mg base CX0 (n+1) t.f__law_typed_alike t.d__law_typed_alike ["_law_told","_law_due"] (spTya n):=by
  have D:=T.c__law_typed_alike
  intro n
  induction n with
  | zero=>
    refine D.fn.ok sc_law_typed_alike (fun vs H Q E h=>?_) (fun cdv A outer s H vs Q E hr h=>?_)
    · obtain ⟨u,v,tr,rfl,_⟩:=h
      rfl
    · obtain ⟨u,v,tr,rfl,h1,h2,k⟩:=h
      have hu:=hr.units0
      have hu1:=hu_of hr
      have ih:FnOk P w K mg base CX0 0 t.f__law_typed_alike t.d__law_typed_alike ["_law_told","_law_due"] (fun _ _ _ _=>False):=⟨fun _ _ _ _ z=>z.elim,fun _ _ _ _ _ _ _ _ _ _ _ _ _ z=>z.elim⟩
      refine ⟨_,((pss_cons (ps_if (pt_val (pe_callB call_isinst (by rfl) T.isinstance boot_isinstance (pa_consN (pv 1) (pa_consN (pe_typ T.tuple boot_tuple) pa_nil)))) (pss_cons (ps_if (pw_or (pt_not (pt_val (pe_callB call_isinst (by rfl) T.isinstance boot_isinstance (pa_consN (pv 0) (pa_consN (pe_typ T.tuple boot_tuple) pa_nil))))) (pw_or1 (pt_cmpR op_ne (pe_callB call_len_seq (by rfl) T.len PySem.boot_len (pa_consN (pv 0) pa_nil)) (pe_callB call_len_seq (by rfl) T.len PySem.boot_len (pa_consN (pv 1) pa_nil)) (nomark _)))).pt (pss_one (ps_ret pe_bl)) pss_nil)
      (pss_one (ps_ret (pe_callB (call_all rfl) (by rfl) T.all boot_all (pa_consH (pe_comp (fv:=["_law_told","_law_due"]) (js:=[0,1]) (cl:=[("_law_told",s.heap.objs.size+1),("_law_due",s.heap.objs.size+2)]) rfl (by with_unfolding_all rfl) ⟨rfl,by decide +kernel,by decide +kernel,rfl,by decide +kernel,by decide +kernel,(List.forall_mem_cons.mpr ⟨⟨rfl,rfl,rfl⟩,(List.forall_mem_cons.mpr ⟨⟨rfl,rfl,rfl⟩,(List.forall_mem_nil _)⟩)⟩),(List.forall_mem_cons.mpr ⟨rfl,(List.forall_mem_cons.mpr ⟨rfl,(List.forall_mem_nil _)⟩)⟩),(.cons rfl (.cons rfl .nil))⟩ (pi_range1 rfl T.range (pa_consC (pe_callB call_len_seq (by rfl) T.len PySem.boot_len (pa_consN (pv 1) pa_nil)) pa_nil)) (fun _ _ _ _ _=>pf_nil) (fun _ _ _ _ _=>(pe_cl T.c__law_typed_alike ih (hr.mono (by omega)) (pa_consS (pe_ix ixc_tup (pv 1) (pv 0) (fun _ _=>rfl)) (pa_consS (pe_ix ixc_tup (pv 2) (pv 0) (fun _ _=>rfl)) pa_nil))))) pa_nil))))) pss_nil)
      (pss_cons (ps_if (pw_or (pt_val (pe_callB call_isinst (by rfl) T.isinstance boot_isinstance (pa_consN (pv 1) (pa_consN (pe_typ T.bool boot_bool) pa_nil)))) (pw_or1 (pt_val (pe_callB call_isinst (by rfl) T.isinstance boot_isinstance (pa_consN (pv 0) (pa_consN (pe_typ T.bool boot_bool) pa_nil)))))).pt (pss_one (ps_ret (pe_and (pe_callB call_isinst (by rfl) T.isinstance boot_isinstance (pa_consN (pv 1) (pa_consN (pe_typ T.bool boot_bool) pa_nil))) (pe_and (pe_callB call_isinst (by rfl) T.isinstance boot_isinstance (pa_consN (pv 0) (pa_consN (pe_typ T.bool boot_bool) pa_nil))) (pe_one (pe_cmpR op_eq (pv 0) (pv 1) (nomark _))))))) pss_nil)
      (pss_cons (ps_if (pt_val (pe_callB call_isinst (by rfl) T.isinstance boot_isinstance (pa_consN (pv 1) (pa_consN (pe_typ T.int boot_int) pa_nil)))) (pss_one (ps_ret (pe_and (pe_callB call_isinst (by rfl) T.isinstance boot_isinstance (pa_consN (pv 0) (pa_consN (pe_typ T.int boot_int) pa_nil))) (pe_one (pe_cmpR op_eq (pv 0) (pv 1) (nomark _)))))) pss_nil)
      (pss_one (ps_ret (pe_and (pe_callB call_isinst (by rfl) T.isinstance boot_isinstance (pa_consN (pv 0) (pa_consN (pe_typ T.str boot_str) pa_nil))) (pe_one (pe_cmpR op_eq (pv 0) (pv 1) (nomark _)))))))))),?_⟩
      cases h1 with
      | bl b=>
        cases h2
        refine ⟨_,rfl,_,_,_,_,false,rfl,.bl _,rfl,(fun _=>.inr trivial),T.ki_bt,false,rfl,iteF ?_⟩
        refine ⟨_,rfl,_,_,_,_,true,rfl,.bl _,rfl,(fun _=>.inr trivial),kit_tt _ _,true,rfl,iteT (iteT ?_)⟩
        refine ⟨_,rfl,_,_,_,_,true,rfl,.bl _,rfl,(fun _=>.inr trivial),kit_tt _ _,true,rfl,iteT ?_⟩
        refine ⟨_,rfl,_,_,_,_,true,rfl,.bl _,rfl,(fun _=>.inr trivial),kit_tt _ _,true,rfl,iteT ?_⟩
        exact ⟨_,rfl,_,rfl,rfl,rtv (by simp) (k _ (Same.refl _))⟩
      | int i=>
        cases h2
        refine ⟨_,rfl,_,_,_,_,false,rfl,.int _,rfl,(fun _=>.inr trivial),T.kiit,false,rfl,iteF ?_⟩
        refine ⟨_,rfl,_,_,_,_,false,rfl,.int _,rfl,(fun _=>.inr trivial),T.kib,false,rfl,iteF ?_⟩
        refine ⟨_,rfl,_,_,_,_,false,rfl,.int _,rfl,(fun _=>.inr trivial),T.kib,false,rfl,iteF ?_⟩
        refine ⟨_,rfl,_,_,_,_,true,rfl,.int _,rfl,(fun _=>.inr trivial),kit_tt _ _,true,rfl,iteT ?_⟩
        refine ⟨_,rfl,_,_,_,_,true,rfl,.int _,rfl,(fun _=>.inr trivial),kit_tt _ _,true,rfl,iteT ?_⟩
        exact ⟨_,rfl,_,rfl,rfl,rtv (by simp) (k _ (Same.refl _))⟩
      | str z=>
        cases h2
        refine ⟨_,rfl,_,_,_,_,false,rfl,.str _,rfl,(fun _=>.inr trivial),T.kist,false,rfl,iteF ?_⟩
        refine ⟨_,rfl,_,_,_,_,false,rfl,.str _,rfl,(fun _=>.inr trivial),T.ki_sb,false,rfl,iteF ?_⟩
        refine ⟨_,rfl,_,_,_,_,false,rfl,.str _,rfl,(fun _=>.inr trivial),T.ki_sb,false,rfl,iteF ?_⟩
        refine ⟨_,rfl,_,_,_,_,false,rfl,.str _,rfl,(fun _=>.inr trivial),T.ki_si,false,rfl,iteF ?_⟩
        refine ⟨_,rfl,_,_,_,_,true,rfl,.str _,rfl,(fun _=>.inr trivial),kit_tt _ _,true,rfl,iteT ?_⟩
        exact ⟨_,rfl,_,rfl,rfl,rtv (by simp) (k _ (Same.refl _))⟩
  | succ n ih=>
    refine D.fn.ok sc_law_typed_alike (fun vs H Q E h=>?_) (fun cdv A outer s H vs Q E hr h=>?_)
    · obtain ⟨u,v,tr,rfl,_⟩:=h
      rfl
    · obtain ⟨u,v,tr,rfl,h1,h2,k⟩:=h
      have hu:=hr.units0
      have hu1:=hu_of hr
      refine ⟨_,((pss_cons (ps_if (pt_val (pe_callB call_isinst (by rfl) T.isinstance boot_isinstance (pa_consN (pv 1) (pa_consN (pe_typ T.tuple boot_tuple) pa_nil)))) (pss_cons (ps_if (pw_or (pt_not (pt_val (pe_callB call_isinst (by rfl) T.isinstance boot_isinstance (pa_consN (pv 0) (pa_consN (pe_typ T.tuple boot_tuple) pa_nil))))) (pw_or1 (pt_cmpR op_ne (pe_callB call_len_seq (by rfl) T.len PySem.boot_len (pa_consN (pv 0) pa_nil)) (pe_callB call_len_seq (by rfl) T.len PySem.boot_len (pa_consN (pv 1) pa_nil)) (nomark _)))).pt (pss_one (ps_ret pe_bl)) pss_nil)
      (pss_one (ps_ret (pe_callB (call_all rfl) (by rfl) T.all boot_all (pa_consH (pe_comp (fv:=["_law_told","_law_due"]) (js:=[0,1]) (cl:=[("_law_told",s.heap.objs.size+1),("_law_due",s.heap.objs.size+2)]) rfl (by with_unfolding_all rfl) ⟨rfl,by decide +kernel,by decide +kernel,rfl,by decide +kernel,by decide +kernel,(List.forall_mem_cons.mpr ⟨⟨rfl,rfl,rfl⟩,(List.forall_mem_cons.mpr ⟨⟨rfl,rfl,rfl⟩,(List.forall_mem_nil _)⟩)⟩),(List.forall_mem_cons.mpr ⟨rfl,(List.forall_mem_cons.mpr ⟨rfl,(List.forall_mem_nil _)⟩)⟩),(.cons rfl (.cons rfl .nil))⟩ (pi_range1 rfl T.range (pa_consC (pe_callB call_len_seq (by rfl) T.len PySem.boot_len (pa_consN (pv 1) pa_nil)) pa_nil)) (fun _ _ _ _ _=>pf_nil) (fun _ _ _ _ _=>(pe_cl T.c__law_typed_alike ih (hr.mono (by omega)) (pa_consS (pe_ix ixc_tup (pv 1) (pv 0) (fun _ _=>rfl)) (pa_consS (pe_ix ixc_tup (pv 2) (pv 0) (fun _ _=>rfl)) pa_nil))))) pa_nil))))) pss_nil)
      (pss_cons (ps_if (pw_or (pt_val (pe_callB call_isinst (by rfl) T.isinstance boot_isinstance (pa_consN (pv 1) (pa_consN (pe_typ T.bool boot_bool) pa_nil)))) (pw_or1 (pt_val (pe_callB call_isinst (by rfl) T.isinstance boot_isinstance (pa_consN (pv 0) (pa_consN (pe_typ T.bool boot_bool) pa_nil)))))).pt (pss_one (ps_ret (pe_and (pe_callB call_isinst (by rfl) T.isinstance boot_isinstance (pa_consN (pv 1) (pa_consN (pe_typ T.bool boot_bool) pa_nil))) (pe_and (pe_callB call_isinst (by rfl) T.isinstance boot_isinstance (pa_consN (pv 0) (pa_consN (pe_typ T.bool boot_bool) pa_nil))) (pe_one (pe_cmpR op_eq (pv 0) (pv 1) (nomark _))))))) pss_nil)
      (pss_cons (ps_if (pt_val (pe_callB call_isinst (by rfl) T.isinstance boot_isinstance (pa_consN (pv 1) (pa_consN (pe_typ T.int boot_int) pa_nil)))) (pss_one (ps_ret (pe_and (pe_callB call_isinst (by rfl) T.isinstance boot_isinstance (pa_consN (pv 0) (pa_consN (pe_typ T.int boot_int) pa_nil))) (pe_one (pe_cmpR op_eq (pv 0) (pv 1) (nomark _)))))) pss_nil)
      (pss_one (ps_ret (pe_and (pe_callB call_isinst (by rfl) T.isinstance boot_isinstance (pa_consN (pv 0) (pa_consN (pe_typ T.str boot_str) pa_nil))) (pe_one (pe_cmpR op_eq (pv 0) (pv 1) (nomark _)))))))))),?_⟩
      cases h1 with
      | bl b=>
        cases h2
        refine ⟨_,rfl,_,_,_,_,false,rfl,.bl _,rfl,(fun _=>.inr trivial),T.ki_bt,false,rfl,iteF ?_⟩
        refine ⟨_,rfl,_,_,_,_,true,rfl,.bl _,rfl,(fun _=>.inr trivial),kit_tt _ _,true,rfl,iteT (iteT ?_)⟩
        refine ⟨_,rfl,_,_,_,_,true,rfl,.bl _,rfl,(fun _=>.inr trivial),kit_tt _ _,true,rfl,iteT ?_⟩
        refine ⟨_,rfl,_,_,_,_,true,rfl,.bl _,rfl,(fun _=>.inr trivial),kit_tt _ _,true,rfl,iteT ?_⟩
        exact ⟨_,rfl,_,rfl,rfl,rtv (by simp) (k _ (Same.refl _))⟩
      | int i=>
        cases h2
        refine ⟨_,rfl,_,_,_,_,false,rfl,.int _,rfl,(fun _=>.inr trivial),T.kiit,false,rfl,iteF ?_⟩
        refine ⟨_,rfl,_,_,_,_,false,rfl,.int _,rfl,(fun _=>.inr trivial),T.kib,false,rfl,iteF ?_⟩
        refine ⟨_,rfl,_,_,_,_,false,rfl,.int _,rfl,(fun _=>.inr trivial),T.kib,false,rfl,iteF ?_⟩
        refine ⟨_,rfl,_,_,_,_,true,rfl,.int _,rfl,(fun _=>.inr trivial),kit_tt _ _,true,rfl,iteT ?_⟩
        refine ⟨_,rfl,_,_,_,_,true,rfl,.int _,rfl,(fun _=>.inr trivial),kit_tt _ _,true,rfl,iteT ?_⟩
        exact ⟨_,rfl,_,rfl,rfl,rtv (by simp) (k _ (Same.refl _))⟩
      | str z=>
        cases h2
        refine ⟨_,rfl,_,_,_,_,false,rfl,.str _,rfl,(fun _=>.inr trivial),T.kist,false,rfl,iteF ?_⟩
        refine ⟨_,rfl,_,_,_,_,false,rfl,.str _,rfl,(fun _=>.inr trivial),T.ki_sb,false,rfl,iteF ?_⟩
        refine ⟨_,rfl,_,_,_,_,false,rfl,.str _,rfl,(fun _=>.inr trivial),T.ki_sb,false,rfl,iteF ?_⟩
        refine ⟨_,rfl,_,_,_,_,false,rfl,.str _,rfl,(fun _=>.inr trivial),T.ki_si,false,rfl,iteF ?_⟩
        refine ⟨_,rfl,_,_,_,_,true,rfl,.str _,rfl,(fun _=>.inr trivial),kit_tt _ _,true,rfl,iteT ?_⟩
        exact ⟨_,rfl,_,rfl,rfl,rtv (by simp) (k _ (Same.refl _))⟩
      | @tup a us ts _ e1 l1 n1 hh1=>
        cases h2 with
        | @tup b vs _ _ e2 l2 n2 hh2=>
          have ll:us.length=vs.length:=n1.trans n2.symm
          refine ⟨_,rfl,_,_,_,_,true,rfl,.tup e2,rfl,(fun _=>.inr trivial),kit_tt _ _,true,rfl,iteT ?_⟩
          refine ⟨_,rfl,_,_,_,_,true,rfl,.tup e1,rfl,(fun _=>.inr trivial),kit_tt _ _,true,rfl,iteF ?_⟩
          refine ⟨_,rfl,a,us,rfl,.inr (SqT.of e1),_,rfl,b,vs,rfl,.inr (SqT.of e2),rfl,false,(by simp [ll]),iteF ?_⟩
          refine ⟨_,rfl,b,vs,rfl,.inr (SqT.of e2),_,rfl,(by omega),(by omega),fun D hD=>?_⟩
          have sD:∀ o,Same H (upd H D o):=fun o=>Same.new hD
          refine ⟨fun i m H4=>m=vs.length-i∧i≤vs.length∧H4 D=some (.lst ((List.replicate i true).map V.bl))∧Same H H4,⟨vs.length,rfl,Nat.zero_le _,upd_same,sD _⟩,?_⟩
          rintro i m H4 ⟨rfl,hi,hD4,s4⟩
          by_cases hlt:i<vs.length
          · refine .inr ⟨(by show i<(vs.length:Int).toNat;omega),fun x H' y=>?_⟩
            obtain ⟨e4,rfl⟩:=y
            subst e4
            have hu1:us[i]?=some (us[i]'(by omega)):=List.getElem?_eq_getElem (by omega)
            have hv1:vs[i]?=some (vs[i]):=List.getElem?_eq_getElem hlt
            have ht1:ts[i]?=some (ts[i]'(by omega)):=List.getElem?_eq_getElem (by omega)
            refine ⟨_,rfl,_,rfl,a,_,_,_,rfl,rfl,SqT.of (s4 _ _ e1),(by rw [Int.zero_add];exact atI_nat hu1),_,rfl,_,rfl,b,_,_,_,rfl,rfl,SqT.of (s4 _ _ e2),(by rw [Int.zero_add];exact atI_nat hv1),?_⟩
            refine ⟨_,_,_,rfl,(hh1 _ _ _ hu1 ht1).kp (Kp.same s4),(hh2 _ _ _ hv1 ht1).kp (Kp.same s4),fun H5 s5=>?_⟩
            refine ⟨_,s5 _ _ hD4,sl_lt (by rw [List.length_map,List.length_replicate];omega),vs.length-(i+1),(by omega),rfl,hlt,?_,fun b' o e=>?_⟩
            · rw [upd_same,List.replicate_succ',List.map_append];rfl
            · rw [upd_ne (ne_of_none e hD)];exact s5 _ _ (s4 _ _ e)
          · have ei:i=vs.length:=by omega
            subst ei
            refine .inl ⟨(by show (vs.length:Int).toNat≤vs.length;omega),D,List.replicate vs.length true,rfl,SqL.of hD4,?_⟩
            rw [all_true]
            exact k _ s4
theorem sc_law_tabled:FnScope ["_law_rows"] ["_law_rows"] (defScope s__law_tabled):=⟨rfl,rfl,rfl,by decide +kernel,rfl,by decide +kernel,by decide +kernel⟩
theorem ok__law_tabled (T:Txt w K mg t):FnOk P w K mg base CX0 1 t.f__law_tabled t.d__law_tabled ["_law_rows"] spTbd:=by
  have D:=T.c__law_tabled
  refine D.fn.ok sc_law_tabled (fun vs H Q E h=>?_) (fun cdv A outer s H vs Q E hr h=>?_)
  · obtain ⟨l,bs,rows,rfl,_⟩:=h
    rfl
  · obtain ⟨l,bs,rows,rfl,hl,ls,h100,k⟩:=h
    have hu:=hr.units0
    have hu1:=hu_of hr
    refine ⟨_,((pss_one (ps_ret (pe_callTy call_tuple_of (by rfl) T.tuple boot_tuple (pa_consH (pe_comp (fv:=[]) (js:=[]) (cl:=[]) rfl (by with_unfolding_all rfl) ⟨rfl,by decide +kernel,by decide +kernel,rfl,by decide +kernel,by decide +kernel,(List.forall_mem_nil _),(List.forall_mem_nil _),.nil⟩ (pi_list (pv 0)) (fun _ _ _ _ _=>pf_nil) (fun _ _ _ _ _=>(pe_callTy call_tuple_ofc (by rfl) T.tuple boot_tuple (pa_consN (pv 0) pa_nil)))) pa_nil))))),?_⟩
    have bl:bs.length=rows.length:=Paired.length ls
    refine ⟨_,rfl,l,rfl,⟨_,SqL.of hl⟩,fun D hD=>?_⟩
    have sD:∀ o,Same H (upd H D o):=fun o=>Same.new hD
    refine ⟨fun i m H4=>m=bs.length-i∧i≤bs.length∧∃ qs,H4 D=some (.lst qs)∧qs.length=i∧Paired (RsAt H4) qs (rows.take i)∧Same H H4,⟨bs.length,rfl,Nat.zero_le _,[],upd_same,rfl,.nil,sD _⟩,?_⟩
    rintro i m H4 ⟨rfl,hi,qs,hq4,hql,pr4,s4⟩
    by_cases hlt:i<bs.length
    · have hb:bs[i]?=some (bs[i]):=List.getElem?_eq_getElem hlt
      obtain ⟨row,hrow,hbr⟩:=paired_at ls hb
      have hx:(bs.map V.ref)[i]?=some (.ref bs[i]):=by rw [List.getElem?_map,hb];rfl
      refine .inr ⟨⟨_,_,SqL.of (s4 _ _ hl),hx⟩,fun x H' y=>?_⟩
      obtain ⟨e4,y⟩:=y
      subst e4
      have hx':=y _ (SqL.of (s4 _ _ hl))
      rw [hx] at hx'
      cases hx'
      refine ⟨_,rfl,bs[i],_,rfl,.inl ⟨SqL.of (s4 _ _ hbr),fun q hq=>?_⟩⟩
      have s5:=Same.new (o:=.tup row) hq
      have hqq:upd H' q (.tup row) q=some (.tup row):=upd_same
      generalize upd H' q (.tup row)=H5 at *
      have hD5:=s5 _ _ hq4
      refine ⟨qs,hD5,sl_lt (by omega),bs.length-(i+1),(by omega),rfl,hlt,qs++[.ref q],upd_same,(by rw [List.length_append,hql];rfl),?_,fun b o e=>?_⟩
      · rw [List.take_add_one,hrow]
        exact psnoc (Paired.imp' (fun _ _ ⟨c,e,y⟩=>⟨c,e,kp_upd hD5 _ _ (s5 _ _ y)⟩) pr4) ⟨q,rfl,kp_upd hD5 _ _ hqq⟩
      · rw [upd_ne (ne_of_none e hD)]
        exact s5 _ _ (s4 _ _ e)
    · have ei:i=bs.length:=by omega
      subst ei
      refine .inl ⟨⟨_,SqL.of (s4 _ _ hl),by rw [List.length_map];exact Nat.le_refl _⟩,D,qs,rfl,.inl ⟨SqL.of hq4,fun p hp=>k _ _ ⟨p,qs,rfl,upd_same,?_⟩ (s4.trans (Same.new hp))⟩⟩
      rw [List.take_of_length_le (Nat.le_of_eq bl.symm)] at pr4
      exact Paired.imp' (fun _ _ ⟨c,e,y⟩=>⟨c,e,Same.new hp _ _ y⟩) pr4
theorem sc_law_note:FnScope ["_law_asked","_law_one"] ["_law_asked","_law_one"] (defScope s__law_note):=⟨rfl,rfl,rfl,by decide +kernel,rfl,by decide +kernel,by decide +kernel⟩
theorem ok__law_note (T:Txt w K mg t):FnOk P w K mg base CX0 1 t.f__law_note t.d__law_note ["_law_asked","_law_one"] spNote:=by
  have D:=T.c__law_note
  refine D.fn.ok sc_law_note (fun vs H Q E h=>?_) (fun cdv A outer s H vs Q E hr h=>?_)
  · obtain ⟨L,us,u,v,rfl,_⟩:=h
    rfl
  · obtain ⟨L,us,u,v,rfl,hL,hl,hv,k⟩:=h
    have hu:=hr.units0
    have hu1:=hu_of hr
    refine ⟨_,((pss_cons (ps_expr (pe_bm PySem.F.plainAttrs_list PySem.F.slot_list_append PySem.F.type_list_append mt_append (pv 0) (pa_consN (pv 1) pa_nil)))
      (pss_one (ps_ret (pe_tup (pa_consK pe_str (pa_consM (pe_cmpR op_eq (pe_ix ix_tup (pv 1) pe_int (fun _ _=>rfl)) pe_str (nomark _)) pa_nil))))))),?_⟩
    have kL:Kp H (upd H L (.lst (us++[u]))):=kp_upd hL
    refine ⟨_,rfl,.inl ⟨rfl,_,SqL.of hL⟩,_,rfl,L,us,_,rfl,rfl,hL,sl_lt (by omega),?_⟩
    obtain ⟨q,xs,rfl,hq,_⟩:=(hv.kp kL).hd
    refine ⟨_,rfl,q,_,_,_,rfl,rfl,SqT.of hq,atI_hd,rfl,two_le,fun x hx=>?_⟩
    have ne:L≠x:=fun z=>by rw [← z,upd_same] at hx;cases hx
    exact k _ _ ⟨x,rfl,upd_same⟩ (by rw [upd_ne ne,upd_same]) fun b o hb e=>by
      rw [upd_ne (ne_of_none (show upd H L _ b=some o by rw [upd_ne hb];exact e) hx),upd_ne hb];exact e
theorem sc_law_both_asked:FnScope ["_law_pen_here","_law_condition","_law_known","_law_home","_law_asked","_law_pair","_law_parts","_law_formula"] ["_law_pen_here","_law_condition","_law_known","_law_home"] (defScope s__law_both_asked):=⟨rfl,rfl,rfl,by decide +kernel,rfl,by decide +kernel,by decide +kernel⟩
theorem ok__law_both_asked (T:Txt w K mg t)(hC:∀ q∈[(t.c_reckoned,t.P_reckoned),(t.c__law_both_asked,t.P__law_both_asked),(t.c_law,t.P_law)],PySem.W.CodeHd base q.1 q.2)(hB:BM mg base):FnOk P w K mg base CX0 12 t.f__law_both_asked t.d__law_both_asked ["_law_pen_here","_law_condition","_law_known","_law_home"] (spBA K t.P_reckoned t.P__law_both_asked):=by
  have D:=T.c__law_both_asked
  refine D.fn.okC sc_law_both_asked (fun vs H Q E h=>?_) (fun cdv A outer s H vs Q E hcd hr h=>?_)
  · obtain ⟨p,kn,qh,u,k_,S,kvs,hm,rows,m,h_,w_,rfl,_⟩:=h
    rfl
  · obtain ⟨p,kn,qh,u,n0,S,kvs0,hm,rows,m,h_,w_,rfl,pen0,hn0,hkn0,lk0,lay0,vt0,ml0,okm,h1,h16,w1,w8,hh0,tR0,tB0,k⟩:=h
    have hu:=hr.units0
    have hu1:=hu_of hr
    have hu2:=hu2_of hr
    have hCB:=hC (t.c__law_both_asked,t.P__law_both_asked) (by simp)
    have hCR:=hC (t.c_reckoned,t.P_reckoned) (by simp)
    refine ⟨_,((pss_cons (ps_set (i:=4) sc_law_both_asked.nd rfl (Or.inr rfl) (pe_lst pa_nil))
      (pss_cons (ps_set (i:=5) sc_law_both_asked.nd rfl (Or.inr rfl) (pe_lst (pa_consC (pe_cl T.c__law_drawn_value (ok__law_drawn_value T) (hr.mono (by decide)) (pa_consN (pv 0) pa_nil)) (pa_consC (pe_cl T.c__law_drawn_value (ok__law_drawn_value T) (hr.mono (by decide)) (pa_consN (pv 0) pa_nil)) pa_nil))))
      (pss_cons (ps_setC (i:=6) sc_law_both_asked.nd rfl rfl (fv:=["_law_pen_here","_law_known","_law_pair"]) (js:=[0,2,5]) (cl:=[("_law_pen_here",s.heap.objs.size+1),("_law_pair",s.heap.objs.size+3),("_law_known",s.heap.objs.size+2)]) rfl (by with_unfolding_all rfl) ⟨rfl,by decide +kernel,by decide +kernel,rfl,by decide +kernel,by decide +kernel,(List.forall_mem_cons.mpr ⟨⟨rfl,rfl,rfl⟩,(List.forall_mem_cons.mpr ⟨⟨rfl,rfl,rfl⟩,(List.forall_mem_cons.mpr ⟨⟨rfl,rfl,rfl⟩,(List.forall_mem_nil _)⟩)⟩)⟩),(List.forall_mem_cons.mpr ⟨rfl,(List.forall_mem_cons.mpr ⟨rfl,(List.forall_mem_cons.mpr ⟨rfl,(List.forall_mem_nil _)⟩)⟩)⟩),(.cons rfl (.cons rfl (.cons rfl .nil)))⟩ (pi_range1 rfl T.range (pa_consK pe_int pa_nil)) (fun _ _ _ _ _=>pf_nil) (fun _ _ _ _ _=>(by exact (pe_tup (pa_consK pe_str (pa_consC (pe_cl T.c__law_put_down (ok__law_put_down T) (hr.mono (by decide)) (pa_consN (pv 1) (pa_consN (pv 2) (pa_consS (pe_ix ixc_list (pe_lst (pa_consK pe_str (pa_consK pe_str pa_nil))) (pv 0) (fun _ _=>rfl)) (pa_consL (pe_lst (pa_consL (pe_lst (pa_consS (pe_ix ixc_list (pv 3) (pv 0) (fun _ _=>rfl)) pa_nil)) pa_nil)) pa_nil))))) pa_nil))))))
      (pss_cons (ps_set (i:=7) sc_law_both_asked.nd rfl (Or.inl rfl) (pe_tup (pa_consK pe_str (pa_consN (pv 1) (pa_consS (pe_ix ix_list (pv 6) pe_int (fun _ _=>rfl)) (pa_consS (pe_ix ix_list (pv 6) pe_int (fun _ _=>rfl)) pa_nil))))))
      (pss_cons (ps_expr (pe_callL (k:=8) (hr.mono (by decide)) (by rfl) T.c_reckoned.gl T.c_reckoned.fn.kp T.c_reckoned.b (pa_consN (pv 7) (pa_consN (pv 3) (pa_consZ (pe_lam (clos:=[("_law_known",s.heap.objs.size+2)]) rfl (by with_unfolding_all rfl) (hcd.symm.trans T.kc__law_both_asked) hCB hB) (pa_consZ (pe_lam (clos:=[("_law_asked",s.heap.objs.size+4)]) rfl (by with_unfolding_all rfl) (hcd.symm.trans T.kc__law_both_asked) hCB hB) pa_nil))))))
      (pss_cons (ps_if (pt_cmpR op_gt (pe_callB call_len_seq (by rfl) T.len PySem.boot_len (pa_consH (pe_comp (fv:=["_law_pair"]) (js:=[5]) (cl:=[("_law_pair",s.heap.objs.size+3)]) rfl (by with_unfolding_all rfl) ⟨rfl,by decide +kernel,by decide +kernel,rfl,by decide +kernel,by decide +kernel,(List.forall_mem_cons.mpr ⟨⟨rfl,rfl,rfl⟩,(List.forall_mem_nil _)⟩),(List.forall_mem_cons.mpr ⟨rfl,(List.forall_mem_nil _)⟩),(.cons rfl .nil)⟩ (pi_list (pv 4)) (fun _ _ _ _ _=>(pf_one (pw_or (pt_cmpR op_eq (pe_ix ixc_tup (pv 0) pe_int (fun _ _=>rfl)) pe_str (nomark _)) (pw_or1 (pt_cmpR (by exact op_ninT hu2) (pv 0) (pv 1) rfl))).pt)) (fun _ _ _ _ _=>(by exact (pv 0)))) pa_nil)) pe_int (nomark _)) (pss_one (ps_ret pe_bl)) pss_nil)
      (pss_one (ps_ret (pe_callB (call_all rfl) (by rfl) T.all boot_all (pa_consH (pe_comp (fv:=["_law_asked"]) (js:=[4]) (cl:=[("_law_asked",s.heap.objs.size+4)]) rfl (by with_unfolding_all rfl) ⟨rfl,by decide +kernel,by decide +kernel,rfl,by decide +kernel,by decide +kernel,(List.forall_mem_cons.mpr ⟨⟨rfl,rfl,rfl⟩,(List.forall_mem_nil _)⟩),(List.forall_mem_cons.mpr ⟨rfl,(List.forall_mem_nil _)⟩),(.cons rfl .nil)⟩ (pi_list (pv 5)) (fun _ _ _ _ _=>pf_nil) (fun _ _ _ _ _=>(by exact (pe_or (pe_cmpR (by exact op_inT hu2) (pv 0) (pv 1) rfl) (pe_one (pe_cmpR op_eq (pe_ix ixc_tup (pv 0) pe_int (fun _ _=>rfl)) pe_str (nomark _))))))) pa_nil))))))))))),?_⟩
    have nkp:kn≠p:=by obtain ⟨_,eo⟩:=pen0.ob;exact ne_of hkn0 eo (by intro z;cases z)
    refine ⟨Nat.zero_le _,fun L hL=>?_⟩
    have nLp:L≠p:=pen0.ne hL
    have nLk:L≠kn:=fun z=>by rw [z,hkn0] at hL;cases hL
    have s1:=Same.new (o:=.lst []) hL
    have hL1:upd H L (.lst []) L=some (.lst []):=upd_same
    generalize upd H L (.lst [])=H1 at *
    refine ⟨_,rfl,p,_,_,rfl,pen0.same s1,(by omega),fun u0 v0 H2 hv0 ok0 pen2 kp2=>?_⟩
    refine ⟨_,rfl,p,_,_,rfl,pen2,(by omega),fun u1 v1 H3 hv1 ok1 pen3 kp3=>⟨two_le,fun lp hlp=>?_⟩⟩
    have hv0':=hv0.kp ((pen2.kp kp3).trans (Kp.same (Same.new (o:=.lst [u0,u1]) hlp)))
    have hv1':=hv1.kp (Kp.same (Same.new (o:=.lst [u0,u1]) hlp))
    have kx4:KeepX p H (upd H3 lp (.lst [u0,u1])):=((Same.keep s1).trans (kp2.trans kp3)).trans (Same.keep (Same.new hlp))
    have k14:KeepX p H1 (upd H3 lp (.lst [u0,u1])):=(kp2.trans kp3).trans (Same.keep (Same.new hlp))
    have pen4:=pen3.same (Same.new (o:=.lst [u0,u1]) hlp)
    have nlp:lp≠p:=pen3.ne hlp
    have hlp4:upd H3 lp (.lst [u0,u1]) lp=some (.lst [u0,u1]):=upd_same
    generalize upd H3 lp (.lst [u0,u1])=H4 at *
    have kk4:Kp H H4:=pen0.kp kx4
    have hkn4:=kx4 _ _ nkp hkn0
    have hL4:=k14 _ _ nLp hL1
    have nlk:lp≠kn:=ne_of hlp4 hkn4 (by intro z;cases z)
    have nlL:lp≠L:=ne_of hlp4 hL4 (by intro z;cases z)
    refine ⟨_,rfl,(by decide),(by decide),fun Dl hDl=>?_⟩
    have nDp:Dl≠p:=pen4.ne hDl
    have nDk:Dl≠kn:=fun z=>by rw [z,hkn4] at hDl;cases hDl
    have ndz:([Str.ofString "d",Str.ofString "e"]:List Str).Nodup:=by decide +kernel
    refine ⟨fun j mm H=>mm=2-j∧j≤2∧∃ (as:List V) (kvs:List (List Key×V)),H Dl=some (.lst as)∧as.length=j∧H kn=some (.dT kvs)∧kvs.length≤512+j∧LayAt H kvs (Str.ofString "c") rows h_ w_ u∧(∀ (i':Nat) (y:V),as[i']?=some y→∃ (tq:Addr) (y':V) (z:Str) (x:V),y=.ref tq∧H tq=some (.tup [vS "outer",y'])∧[Str.ofString "d",Str.ofString "e"][i']?=some z∧[u0,u1][i']?=some x∧LayAt H kvs z [[x]] 1 1 y')∧PenM K S H p (n0+16+2*j)∧Keep2 p kn H4 H,
      ⟨2,rfl,Nat.zero_le _,[],kvs0,upd_same,rfl,Same.new hDl _ _ hkn4,lk0,lay0.kp (kk4.trans (Kp.same (Same.new hDl))),fun i' y z=>by simp at z,(pen4.same (Same.new hDl)).mono (by omega),Keep2.of (Same.new hDl)⟩,?_⟩
    rintro j mm H20 ⟨rfl,hj2,as,kvs,hD20,las,hkn20,lk20,layc,lay20,pen20,kp20⟩
    by_cases hlt:j<2
    · refine .inr ⟨hlt,fun x H21 y=>?_⟩
      obtain ⟨e21,rfl⟩:=y
      subst e21
      obtain ⟨zj,hzj⟩:∃ z,([Str.ofString "d",Str.ofString "e"]:List Str)[j]?=some z:=⟨_,List.getElem?_eq_getElem hlt⟩
      obtain ⟨xj,hxj⟩:∃ z,([u0,u1]:List V)[j]?=some z:=⟨_,List.getElem?_eq_getElem hlt⟩
      obtain ⟨vj,hvj,okj⟩:∃ v,VvAt H4 xj v∧VlOk v:=by
        have:j=0∨j=1:=by omega
        rcases this with rfl | rfl
        · cases hxj;exact ⟨_,hv0',ok0⟩
        · cases hxj;exact ⟨_,hv1',ok1⟩
      refine ⟨_,rfl,_,rfl,two_le,fun lz hlz=>?_⟩
      have sz':=Same.new (o:=.lst [vS "d",vS "e"]) hlz
      have elz:upd H21 lz (.lst [vS "d",vS "e"]) lz=some (.lst [vS "d",vS "e"]):=upd_same
      generalize upd H21 lz (.lst [vS "d",vS "e"])=H22 at *
      have hlp22:=sz' _ _ (kp20 _ _ nlp nlk hlp4)
      refine ⟨_,rfl,lz,_,_,_,rfl,rfl,SqL.of elz,(by rw [Int.zero_add];exact atI_nat (j:=j) (v:=V.str zj) (by rw [show ([vS "d",vS "e"]:List V)=([Str.ofString "d",Str.ofString "e"]:List Str).map V.str from rfl,List.getElem?_map,hzj];rfl)),?_⟩
      refine ⟨_,rfl,_,rfl,lp,_,_,_,rfl,rfl,SqL.of hlp22,(by rw [Int.zero_add];exact atI_nat hxj),(by show 1≤sizeLine;decide),fun bn hbn=>⟨(by show 1≤sizeLine;decide),fun ln hln=>?_⟩⟩
      have g1:=Same.new (o:=.lst [xj]) hbn
      have g2:=Same.new (o:=.lst [.ref bn]) hln
      have sg:=sz'.trans (g1.trans g2)
      have pen22:=pen20.same sz'
      have nbn:=pen22.ne hbn
      have nln:=(pen22.same g1).ne hln
      have ebn:=g2 _ _ (upd_same (H:=H22) (a:=bn) (o:=.lst [xj]))
      have eln:=upd_same (H:=upd H22 bn (.lst [xj])) (a:=ln) (o:=.lst [.ref bn])
      have pen23:=(pen22.same g1).same g2
      generalize upd (upd H22 bn (.lst [xj])) ln (.lst [.ref bn])=H23 at *
      obtain ⟨pv4,hpv4⟩:=pen4.ob
      have kk20:Kp H4 H21:=Keep2.kp kp20 hpv4 hkn4
      have t1:=TT.one (p:=p) eln ebn (hvj.kp (kk20.trans (Kp.same sg))) okj nln nbn
      refine ⟨p,kn,ln,zj,kvs,[bn],[[xj]],1,1,_,S,rfl,pen23,(by omega),sg _ _ hkn20,(by omega),eln,nln,t1.d.np,t1.d.ls,rfl,by decide,by decide,by decide,by decide,t1.d.row,fun aa lf c d hi'_ wi' kvs' H24 k1 k2 k3 k4 k5 k6 k7 k8 k9 k10 k11 k12 k13 k14 pen24 kp24=>?_⟩
      refine ⟨two_le,fun tq htq=>?_⟩
      have s25:=Same.new (o:=.tup [vS "outer",.ref aa]) htq
      have htq25:upd H24 tq (.tup [vS "outer",.ref aa]) tq=some (.tup [vS "outer",.ref aa]):=upd_same
      generalize upd H24 tq (.tup [vS "outer",.ref aa])=H25 at *
      obtain ⟨pvs,hpv⟩:=pen23.ob
      have kq:Keep2 p kn H21 H25:=(Keep2.of sg).trans ((show Keep2 p kn H23 H24 from kp24).trans (Keep2.of s25))
      have hD25:=kq _ _ nDp nDk hD20
      have kp125:Kp H21 H25:=((Kp.same sg).trans (Keep2.kp kp24 hpv (sg _ _ hkn20))).trans (Kp.same s25)
      have kD:Kp H25 (upd H25 Dl (.lst (as++[.ref tq]))):=kp_upd hD25
      have ntD:tq≠Dl:=ne_of htq25 hD25 (by intro z;cases z)
      refine ⟨as,hD25,sl_lt (by omega),2-(j+1),(by omega),rfl,hlt,as++[.ref tq],kvs',upd_same,(by rw [List.length_append,las];rfl),(by rw [upd_ne (Ne.symm nDk)];exact s25 _ _ k1),(by omega),layc.step (kp125.trans kD) k4 (fun z=>?_),fun i' y hy'=>?_,?_,fun b o hb hb' e=>?_⟩
      · have:Str.ofString "c"∈([Str.ofString "d",Str.ofString "e"]:List Str):=z▸List.mem_of_getElem? hzj
        exact absurd this (by decide +kernel)
      · by_cases hi':i'<as.length
        · rw [List.getElem?_append_left hi'] at hy'
          obtain ⟨tq',y',z,x,rfl,q1,q2,q3,lx⟩:=lay20 i' y hy'
          refine ⟨tq',y',z,x,rfl,(kp125.trans kD) _ _ q1,q2,q3,lx.step (kp125.trans kD) k4 fun zz=>?_⟩
          have:=nodup_ix ndz (i:=i') (j:=j) (x:=z) q2 (by rw [hzj,zz])
          omega
        · have:i'<(as++[V.ref tq]).length:=(List.getElem?_eq_some_iff.mp hy').1
          rw [List.length_append,List.length_singleton] at this
          have ei:i'=j:=by omega
          subst ei
          rw [List.getElem?_append_right (by omega),las,Nat.sub_self] at hy'
          cases hy'
          exact ⟨tq,.ref aa,zj,xj,rfl,by rw [upd_ne ntD];exact htq25,hzj,hxj,aa,lf,c,d,hi'_,wi',rfl,LfAt.kp (LfAt.kp k5 (Kp.same s25)) kD,k6,k7,k8,k9,k10,k11,k12,k13,k14,k3⟩
      · exact (pen4.put hDl (pen24.same s25)).mono (by omega)
      · rw [upd_ne (ne_of_none e hDl)];exact kq _ _ hb hb' (kp20 _ _ hb hb' e)
    have ej:j=2:=by omega
    subst ej
    refine .inl ⟨Nat.le_refl _,?_⟩
    obtain ⟨y0,y1,rfl⟩:=len_2 las
    obtain ⟨t0,y0',z0,x0,rfl,ht0,e1,e2,ly0⟩:=lay20 0 y0 rfl
    obtain ⟨t1,y1',z1,x1,rfl,ht1,e3,e4,ly1⟩:=lay20 1 y1 rfl
    cases e1;cases e2;cases e3;cases e4
    obtain ⟨pv4,hpv4⟩:=pen4.ob
    have kk20:Kp H4 H20:=Keep2.kp kp20 hpv4 hkn4
    have hh20:=hh0.kp (kk4.trans kk20)
    have hv20:=hv0'.kp kk20
    have hv21:=hv1'.kp kk20
    have hL20:=kp20 _ _ nLp nLk hL4
    have hlp20:=kp20 _ _ nlp nlk hlp4
    have vt20:=VtAt.kp vt0 (kk4.trans kk20)
    have kH20:Keep2 p kn H H20:=fun b o hb hb' e=>kp20 _ _ hb hb' (kx4 _ _ hb e)
    obtain ⟨ac,lfc,sC,rfl,gC,zC',mC,ldC,useC⟩:=lay_sh layc nm_c vt20 ml0 (fun r hr=>(okm r hr).1) h1 w1
    obtain ⟨a0,lf0,sA,rfl,g0,zA',mA,ldA,useA⟩:=lay_sh (m:=[[v0]]) ly0 nm_d (.cons (.cons hv20 .nil) .nil) rfl (by simp) (by decide) (by decide)
    obtain ⟨a1,lf1,sB,rfl,g1,zB',mB,ldB,useB⟩:=lay_sh (m:=[[v1]]) ly1 nm_e (.cons (.cons hv21 .nil) .nil) rfl (by simp) (by decide) (by decide)
    have ndT:(([sC,sA,sB]:List Sht).map fun s=>s.z).Nodup:=by show [sC.z,sA.z,sB.z].Nodup;rw [zC',zA',zB'];decide +kernel
    obtain ⟨dom,hdom⟩:∃ dom,dom=domS [sC,sA,sB]:=⟨_,rfl⟩
    obtain ⟨g,hg⟩:∃ g,g=gS [sC,sA,sB]:=⟨_,rfl⟩
    obtain ⟨⟨zc,cc,dc,lgc⟩,ec⟩:=useC [sC,sA,sB] ndT (by simp)
    obtain ⟨⟨z0,c0,d0,lg0⟩,e0⟩:=useA [sC,sA,sB] ndT (by simp)
    obtain ⟨⟨z1,c1,d1,lg1⟩,e1⟩:=useB [sC,sA,sB] ndT (by simp)
    have dp20:DpF kn dom g H20:=by
      rw [hdom,hg]
      exact dp_S hkn20 ndT (List.forall_mem_cons.mpr ⟨ldC,List.forall_mem_cons.mpr ⟨ldA,List.forall_mem_cons.mpr ⟨ldB,List.forall_mem_nil _⟩⟩⟩)
    rw [← hdom] at lgc lg0 lg1
    rw [← hg] at ec e0 e1
    have kc:okl2 dom g lfc:=⟨⟨_,_,_,lgc⟩,by rw [ec];exact fun r hr=>(okm r hr).2⟩
    have k0:okl2 dom g lf0:=⟨⟨_,_,_,lg0⟩,by rw [e0];simpa using ok0⟩
    have k1:okl2 dom g lf1:=⟨⟨_,_,_,lg1⟩,by rw [e1];simpa using ok1⟩
    have gdc:Gd (lfT g lfc):=by rw [ec];exact ⟨w_,⟨fun z=>by rw [z] at ml0;simp at ml0;omega,w1,fun r hr=>(okm r hr).1⟩,by omega,by omega,fun r hr=>(okm r hr).2⟩
    have gd0:Gd (lfT g lf0):=by rw [e0];exact gd_one ok0
    have gd1:Gd (lfT g lf1):=by rw [e1];exact gd_one ok1
    refine ⟨_,rfl,_,rfl,Dl,_,_,_,rfl,rfl,SqL.of hD20,rfl,_,rfl,Dl,_,_,_,rfl,rfl,SqL.of hD20,rfl,(by show 4≤sizeLine;decide),fun qf hqf=>?_⟩
    have s5:=Same.new (o:=.tup [vS "if",.ref ac,.ref t0,.ref t1]) hqf
    have hf5:upd H20 qf (.tup [vS "if",.ref ac,.ref t0,.ref t1]) qf=some (.tup [vS "if",.ref ac,.ref t0,.ref t1]):=upd_same
    generalize upd H20 qf (.tup [vS "if",.ref ac,.ref t0,.ref t1])=H5 at *
    have kk5:=Kp.same s5
    have fm5:FmAt H5 (.ref qf) (.nd (.wd (zS "if")) [.lf lfc,.nd (.wd (zS "outer")) [.lf lf0],.nd (.wd (zS "outer")) [.lf lf1]]):=
      mk3 (t:=qf) hf5 rfl (.lf (LfAt.kp gC kk5)) (mk1 (t:=qf) (s5 _ _ ht0) rfl (.lf (LfAt.kp g0 kk5))) (mk1 (t:=qf) (s5 _ _ ht1) rfl (.lf (LfAt.kp g1 kk5)))
    have dp5:=DpF.smd (SmD.of s5) dp20
    have hh5:=hh20.kp kk5
    have pen5:=pen20.same s5
    have hL5:=s5 _ _ hL20
    have kH5:Keep2 p kn H H5:=kH20.trans (Keep2.of s5)
    obtain ⟨pv0,hpv0⟩:=pen0.ob
    have sF5:SmF H H5:=fun b o e' d=>kH5 b o (fun z=>by subst z;rw [hpv0] at e';cases e';cases d) (fun z=>by subst z;rw [hkn0] at e';cases e';cases d) e'
    have tR5:=tab_smf tR0 sF5
    have tB5:=tab_smf tB0 sF5
    obtain ⟨psB,hPB,_⟩:=id tB5
    refine ⟨_,rfl,_,rfl,tB5,fun f1 HA nf1 keep1 tab1 lam1=>⟨tab1,fun f2 HB nf2 keep2 tab2 lam2=>?_⟩⟩
    obtain ⟨psM,hPM,_⟩:=id tab1
    obtain ⟨cc1,ctv1,hf1,hc1⟩:=lam1
    obtain ⟨cc2,ctv2,hf2,hc2⟩:=lam2
    have hf1':=keep2 _ _ (ne_of hf1 hPM (by intro z;cases z)) hf1
    have hc1':CodeK HB qB cc1:=hc1.keep fun b o e=>keep2 _ _ (ne_of e hPM (by intro z;cases z)) e
    have sd:=(SmD.tab hPB keep1).trans (SmD.tab hPM keep2)
    have sdd:=sd.trans (SmD.del qB HB)
    have tR6:TabAt HB t.P_reckoned qR:=tab_kx (tab_kx tR5 T.ne_reckoned__law_both_asked hPB keep1) T.ne_reckoned__law_both_asked hPM keep2
    refine ⟨qB,spRckE t.P_reckoned L f1 f2 (DpF kn dom g) (AskL L) (sem31 ntV g) (lg31 g) (okE dom g ntV (sem31 ntV g) (lg31 g)),fun base' W=>?_,?_⟩
    · refine ok_reckoned (fo:=ntV) T ?_ ?_ (dpF_ok (Ne.symm nLk)) (ask_st L) (hCR.keeps W.sub) (hB.keep W.sub)
      · refine W.lam (k:=0) (ps:=["_law_spot"]) (fv:=["_law_known"]) (js:=[2]) hf1' hc1' ⟨rfl,rfl,rfl,by decide +kernel,(List.forall_mem_cons.mpr ⟨rfl,(List.forall_mem_nil _)⟩),by decide +kernel,by decide +kernel,(List.forall_mem_cons.mpr ⟨⟨rfl,rfl,rfl⟩,(List.forall_mem_nil _)⟩),(List.forall_mem_cons.mpr ⟨rfl,(List.forall_mem_nil _)⟩),(.cons rfl .nil)⟩ (fun us hl=>by obtain ⟨_,rfl⟩:=len_1 hl;rfl) (fun vs H Q E h=>?_) (fun A outer s H vs Q E hr h=>?_)
        · obtain ⟨_,_,_,_,rfl,_⟩:=h
          rfl
        · obtain ⟨q,z,r,c,rfl,hq,⟨kv,hkv,dk⟩,dm,k'⟩:=h
          have hu1:=hu_of hr
          obtain ⟨x,hx,vx⟩:=dk z r c dm
          refine ⟨_,(pe_dget hu1 (pv 1) (pv 0) (fun _ _=>rfl)),?_⟩
          exact ⟨_,rfl,_,rfl,kn,x,rfl,hx▸DGet.t (k:=cK z r c) hkv hq,k' x H vx (Same.refl _)⟩
      · refine W.lam (k:=1) (ps:=["_law_own"]) (fv:=["_law_asked"]) (js:=[4]) hf2 hc2 ⟨rfl,rfl,rfl,by decide +kernel,(List.forall_mem_cons.mpr ⟨rfl,(List.forall_mem_nil _)⟩),by decide +kernel,by decide +kernel,(List.forall_mem_cons.mpr ⟨⟨rfl,rfl,rfl⟩,(List.forall_mem_nil _)⟩),(List.forall_mem_cons.mpr ⟨rfl,(List.forall_mem_nil _)⟩),(.cons rfl .nil)⟩ (fun us hl=>by obtain ⟨_,rfl⟩:=len_1 hl;rfl) (fun vs H Q E h=>?_) (fun A outer s H vs Q E hr h=>?_)
        · obtain ⟨_,_,_,rfl,_⟩:=h
          rfl
        · obtain ⟨x,v,acc,rfl,hv,okv,nf,⟨us,hus,vus⟩,hbd,k'⟩:=h
          have hul:us.length=acc.length:=Paired.length vus
          rw [List.length_append] at hbd
          refine ⟨_,(pe_cl T.c__law_note (ok__law_note T) (hr.mono (by decide)) (pa_consN (pv 1) (pa_consN (pv 0) pa_nil))),?_⟩
          exact ⟨_,rfl,_,rfl,L,us,x,v,rfl,hus,(by omega),hv,fun y H' hy hL' kx=>k' y H' hy kx ⟨_,hL',psnoc (VsAt.kp vus (Kp.lst hus kx)) (hv.kp (Kp.lst hus kx))⟩⟩
    have l0:=ouL_len (v:=v0)
    have l1:=ouL_len (v:=v1)
    refine ⟨.ref qf,.ref qh,(.nd (.wd (zS "if")) [.lf lfc,.nd (.wd (zS "outer")) [.lf lf0],.nd (.wd (zS "outer")) [.lf lf1]]),3,hm,[],rfl,FmAt.kp fm5 sdd.kp,
      (.nd wd_if (List.forall_mem_cons.mpr ⟨.lf (lf_ok lgc),List.forall_mem_cons.mpr ⟨.nd wd_outer (List.forall_mem_cons.mpr ⟨.lf (lf_ok lg0),List.forall_mem_nil _⟩),List.forall_mem_cons.mpr ⟨.nd wd_outer (List.forall_mem_cons.mpr ⟨.lf (lf_ok lg1),List.forall_mem_nil _⟩),List.forall_mem_nil _⟩⟩⟩)),(by decide),
      (fun f hf=>ok31O (fun _ _=>trivial) kc k0 k1 gdc gd0 gd1 hf),DpF.smd sdd dp5,⟨[],sdd _ _ hL5 rfl,.nil⟩,(by rw [lg31O,e0,e1,List.nil_append,List.length_append];show (ouL v0).length+(ouL v1).length≤1000;omega),hh5.kp sdd.kp,tab_del tR6 qRB,fun x HC hx keep3 tab3 ask3 hn=>?_⟩
    rw [lg31O,e0,e1,List.nil_append] at ask3
    obtain ⟨us,hus3,vus3⟩:=ask3
    obtain ⟨psR,hPR,_⟩:=id tR6
    have hL6:HB L=some (.lst []):=sd _ _ hL5 rfl
    have kx:∀ b o,b≠t.P_reckoned→b≠L→HB b=some o→L2.put qB HB HC b=some o:=keep_put2 keep3
    have husD:L2.put qB HB HC L=some (.lst us):=by rw [put_out (by rw [hL6];exact dat_kn rfl)];exact hus3
    have vusD:VsAt (L2.put qB HB HC) us (ouL v0++ouL v1):=VsAt.kp vus3 (Kp.back hn)
    have tRD:TabAt (L2.put qB HB HC) t.P_reckoned qR:=tab_back tab3 hn
    have tBD:TabAt (L2.put qB HB HC) t.P__law_both_asked qB:=tab_k2 tab2 (Ne.symm T.ne_reckoned__law_both_asked) hPR hL6 kx
    have penD:PenM K S (L2.put qB HB HC) p (n0+16+2*2):=pen0.lz hL (pen5.smd sd) hPR kx
    have kpD:Kp HB (L2.put qB HB HC):=fun a xs e=>kx a _ (ne_of e hPR (by intro z;cases z)) (ne_of e hL6 (by intro z;cases z)) e
    have hv0D:=(hv20.kp kk5).kp (sd.kp.trans kpD)
    have hv1D:=(hv21.kp kk5).kp (sd.kp.trans kpD)
    have hlpD:=kx _ _ (ne_of (sd _ _ (s5 _ _ hlp20) rfl) hPR (by intro z;cases z)) nlL (sd _ _ (s5 _ _ hlp20) rfl)
    have fin:∀ b o,b≠p→b≠kn→b≠t.P_reckoned→b≠t.P__law_both_asked→H b=some o→L2.put qB HB HC b=some o:=fun b o n1 n2 n3 n4 e=>
      kx b o n3 (ne_of_none e hL) (keep2 _ _ n4 (keep1 _ _ n4 (kH5 _ _ n1 n2 e)))
    generalize L2.put qB HB HC=HD at *
    have vp:VsAt HD [u0,u1] [v0,v1]:=.cons hv0D (.cons hv1D .nil)
    refine ⟨_,rfl,L,rfl,⟨_,SqL.of husD⟩,fun D hD=>?_⟩
    refine ⟨fun j mm H=>mm=us.length-j∧j≤us.length∧H D=some (.lst [])∧Same HD H,⟨us.length,rfl,Nat.zero_le _,upd_same,Same.new hD⟩,?_⟩
    rintro j mm H51 ⟨rfl,hj,hD51,s51⟩
    have hus51:=s51 _ _ husD
    by_cases hlt:j<us.length
    · obtain ⟨xo,hxo⟩:∃ x,us[j]?=some x:=⟨_,List.getElem?_eq_getElem hlt⟩
      refine .inr ⟨⟨_,_,SqL.of hus51,hxo⟩,fun x' H' y=>?_⟩
      obtain ⟨e4,y⟩:=y
      subst e4
      have hx':=y _ (SqL.of hus51)
      rw [hxo] at hx'
      cases hx'
      obtain ⟨vo,hvo,xv⟩:=paired_at vusD hxo
      have mo:=List.mem_of_getElem? hvo
      obtain ⟨nfo,mp⟩:isF vo=false∧vo∈[v0,v1]:=by
        rcases List.mem_append.mp mo with z | z
        · obtain ⟨rfl,e⟩:=ouL_mem z;exact ⟨e,by simp⟩
        · obtain ⟨rfl,e⟩:=ouL_mem z;exact ⟨e,by simp⟩
      have xv51:=VvAt.kp xv (Kp.same s51)
      obtain ⟨q,xs,rfl,hq,hit⟩:=xv51.hd
      have vp51:=VsAt.kp vp (Kp.same s51)
      have hlp51:=s51 _ _ hlpD
      refine ⟨_,rfl,q,_,_,_,rfl,rfl,SqT.of hq,atI_hd,rfl,false,congrArg V.bl nfo,iteF ?_⟩
      refine ⟨_,rfl,_,rfl,q,lp,_,_,_,rfl,rfl,hlp51,hq,hit,vp51.tps,false,(by rw [any_self vp51 mp];rfl),iteF ?_⟩
      exact ⟨us.length-(j+1),(by omega),rfl,hlt,hD51,s51⟩
    · have ej:j=us.length:=by omega
      subst ej
      refine .inl ⟨⟨_,SqL.of hus51,Nat.le_refl _⟩,?_⟩
      refine ⟨D,_,rfl,.inl (SqL.of hD51),_,_,rfl,rfl,false,(by decide),iteF ?_⟩
      have hlp51:=s51 _ _ hlpD
      have vp51:=VsAt.kp vp (Kp.same s51)
      have vus51:=VsAt.kp vusD (Kp.same s51)
      refine ⟨_,rfl,lp,rfl,⟨_,SqL.of hlp51⟩,fun D2 hD2=>?_⟩
      refine ⟨fun j mm H=>mm=2-j∧j≤2∧H D2=some (.lst ((List.replicate j true).map V.bl))∧Same H51 H,⟨2,rfl,Nat.zero_le _,upd_same,Same.new hD2⟩,?_⟩
      rintro j mm H61 ⟨rfl,hj6,hD61,s61⟩
      have hlp61:=s61 _ _ hlp51
      by_cases hlt6:j<2
      · obtain ⟨xo,hxo⟩:∃ x,([u0,u1]:List V)[j]?=some x:=⟨_,List.getElem?_eq_getElem hlt6⟩
        refine .inr ⟨⟨_,_,SqL.of hlp61,hxo⟩,fun x' H' y=>?_⟩
        obtain ⟨e4,y⟩:=y
        subst e4
        have hx':=y _ (SqL.of hlp61)
        rw [hxo] at hx'
        cases hx'
        obtain ⟨vo,hvo,xv⟩:=paired_at vp51 hxo
        have mo:=List.mem_of_getElem? hvo
        have xv61:=VvAt.kp xv (Kp.same s61)
        obtain ⟨q,xs,rfl,hq,hit⟩:=xv61.hd
        have vus61:=VsAt.kp vus51 (Kp.same s61)
        have hus61:=s61 _ _ hus51
        have hno:¬ isF vo=true→vo∈ouL v0++ouL v1:=fun z=>by
          rcases List.mem_cons.mp mo with rfl | mo
          · refine List.mem_append.mpr (.inl ?_);unfold ouL;rw [if_neg z];simp
          · rcases List.mem_singleton.mp mo with rfl
            refine List.mem_append.mpr (.inr ?_);unfold ouL;rw [if_neg z];simp
        have st2:∀ c:Bool,c=true→upd H' D2 (.lst ((List.replicate j true).map V.bl++[.bl c])) D2=some (.lst ((List.replicate (j+1) true).map V.bl)):=fun c e=>by
          rw [upd_same,e,List.replicate_succ',List.map_append];rfl
        refine ⟨_,rfl,_,rfl,q,L,_,_,_,rfl,rfl,hus61,hq,hit,vus61.tps,_,rfl,ite2 (fun c=>?_) (fun c=>?_)⟩
        · exact ⟨_,hD61,sl_lt (by rw [List.length_map,List.length_replicate];omega),2-(j+1),(by omega),rfl,hlt6,st2 _ rfl,fun b o e=>by rw [upd_ne (ne_of_none e hD2)];exact s61 _ _ e⟩
        · have isf:isF vo=true:=Classical.byContradiction fun z=>c (any_self vus61 (hno z))
          refine ⟨_,rfl,q,_,_,_,rfl,rfl,SqT.of hq,atI_hd,rfl,?_⟩
          exact ⟨_,hD61,sl_lt (by rw [List.length_map,List.length_replicate];omega),2-(j+1),(by omega),rfl,hlt6,st2 _ isf,fun b o e=>by rw [upd_ne (ne_of_none e hD2)];exact s61 _ _ e⟩
      · have ej:j=2:=by omega
        subst ej
        refine .inl ⟨⟨_,SqL.of hlp61,Nat.le_refl _⟩,D2,[true,true],rfl,SqL.of hD61,?_⟩
        exact k _ ((penD.same (s51.trans s61)).mono (by omega)) (tab_smf tRD (fun b o e _=>(s51.trans s61) _ _ e)) (tab_smf tBD (fun b o e _=>(s51.trans s61) _ _ e)) fun b o n1 n2 n3 n4 e=>(s51.trans s61) _ _ (fin b o n1 n2 n3 n4 e)
theorem sclaw:FnScope ["_law_script","_law_pen_here","_law_turn","_law_known","_law_high","_law_wide","_law_tables","_law_alone","_law_condition","_law_home","_law_three","_law_leaves","_law_rows","_law_j","_law_row","_law_k","_law_pair","_law_one","_law_formula","_law_told"] ["_law_script"] (defScope s_law):=⟨rfl,rfl,rfl,by decide +kernel,rfl,by decide +kernel,by decide +kernel⟩
theorem ok_law (T:Txt w K mg t)(hC:∀ q∈[(t.c_reckoned,t.P_reckoned),(t.c__law_both_asked,t.P__law_both_asked),(t.c_law,t.P_law)],PySem.W.CodeHd base q.1 q.2)(hB:BM mg base):FnOk P w K mg base CX0 14 t.f_law t.d_law ["_law_script"] (spLawT K t.P_reckoned t.P__law_both_asked t.P_law):=by
  have D:=T.c_law
  refine D.fn.okC sclaw (fun vs H Q E h=>?_) (fun cdv A outer s H vs Q E hcd hr h=>?_)
  · obtain ⟨a,ns,rfl,_⟩:=h
    rfl
  · obtain ⟨a,ns,rfl,hS,h63,hP1,hP2,hP3,k⟩:=h
    have hu:=hr.units0
    have hu1:=hu_of hr
    have hCL:=hC (t.c_law,t.P_law) (by simp)
    have hCR:=hC (t.c_reckoned,t.P_reckoned) (by simp)
    refine ⟨_,((pss_cons (ps_set (i:=1) sclaw.nd rfl (Or.inr rfl) (pe_cl T.c__law_pen (ok__law_pen T) (hr.mono (by decide)) (pa_consN (pv 0) pa_nil)))
      (pss_cons (ps_for PassesOwn.never rfl (pi_range1 rfl T.range (pa_consK pe_int pa_nil)) (pg_name (i:=2) sclaw.nd rfl (Or.inl rfl))
      (pss_cons (ps_set (i:=3) sclaw.nd rfl (Or.inr rfl) pe_dnewT)
      (pss_cons (ps_set (i:=4) sclaw.nd rfl (Or.inl rfl) (pe_op op_add pe_int (pe_cl T.c__law_take (ok__law_take T) (hr.mono (by decide)) (pa_consN (pv 1) (pa_consK pe_int pa_nil)))))
      (pss_cons (ps_set (i:=5) sclaw.nd rfl (Or.inl rfl) (pe_op op_add pe_int (pe_cl T.c__law_take (ok__law_take T) (hr.mono (by decide)) (pa_consN (pv 1) (pa_consK pe_int pa_nil)))))
      (pss_cons (ps_set (i:=6) sclaw.nd rfl (Or.inl rfl) (pe_lst (pa_consC (pe_cl T.c__law_drawn_table (ok__law_drawn_table T) (hr.mono (by decide)) (pa_consN (pv 1) (pa_consN (pv 4) (pa_consN (pv 5) pa_nil)))) (pa_consC (pe_cl T.c__law_drawn_table (ok__law_drawn_table T) (hr.mono (by decide)) (pa_consN (pv 1) (pa_consN (pv 4) (pa_consN (pv 5) pa_nil)))) pa_nil))))
      (pss_cons (ps_set (i:=7) sclaw.nd rfl (Or.inl rfl) (pe_cl T.c__law_take (ok__law_take T) (hr.mono (by decide)) (pa_consN (pv 1) (pa_consK pe_int pa_nil))))
      (pss_cons (ps_if (pt_cmpR op_lt (pv 7) pe_int (nomark _)) (pss_one (ps_asg (pe_lst (pa_consL (pe_lst (pa_consS (pe_ix ix_list (pe_ix ix_list (pe_ix ix_list (pv 6) (pv 7) (fun _ _=>rfl)) pe_int (fun _ _=>rfl)) pe_int (fun _ _=>rfl)) pa_nil)) pa_nil)) (pg_sub (pv 6) (pv 7) set_list))) pss_nil)
      (pss_cons (ps_set (i:=8) sclaw.nd rfl (Or.inl rfl) (pe_cl T.c__law_drawn_value (ok__law_drawn_value T) (hr.mono (by decide)) (pa_consN (pv 1) pa_nil)))
      (pss_cons (ps_if (pt_cmpR op_eq (pe_cl T.c__law_take (ok__law_take T) (hr.mono (by decide)) (pa_consN (pv 1) (pa_consK pe_int pa_nil))) pe_int (nomark _)) (pss_one (ps_set (i:=8) sclaw.nd rfl (Or.inl rfl) (pe_ix ix_list (pe_lst (pa_consT (pe_tup (pa_consK pe_str (pa_consK pe_bl pa_nil))) (pa_consT (pe_tup (pa_consK pe_str (pa_consK pe_bl pa_nil))) (pa_consT (pe_tup (pa_consK pe_str pa_nil)) pa_nil)))) (pe_cl T.c__law_take (ok__law_take T) (hr.mono (by decide)) (pa_consN (pv 1) (pa_consK pe_int pa_nil))) (fun _ _=>rfl)))) pss_nil)
      (pss_cons (ps_set (i:=9) sclaw.nd rfl (Or.inl rfl) (pe_cl T.c__law_drawn_cell (ok__law_drawn_cell T) (hr.mono (by decide)) (pa_consN (pv 1) pa_nil)))
      (pss_cons (ps_set (i:=10) sclaw.nd rfl (Or.inr rfl) (pe_op op_cat (pe_lst (pa_consL (pe_lst (pa_consL (pe_lst (pa_consN (pv 8) pa_nil)) pa_nil)) pa_nil)) (pv 6)))
      (pss_cons (ps_setC (i:=11) sclaw.nd rfl rfl (fv:=["_law_pen_here","_law_known","_law_three"]) (js:=[1,3,10]) (cl:=[("_law_three",s.heap.objs.size+2),("_law_pen_here",s.heap.objs.size+1),("_law_known",s.heap.objs.size+5)]) rfl (by with_unfolding_all rfl) ⟨rfl,by decide +kernel,by decide +kernel,rfl,by decide +kernel,by decide +kernel,(List.forall_mem_cons.mpr ⟨⟨rfl,rfl,rfl⟩,(List.forall_mem_cons.mpr ⟨⟨rfl,rfl,rfl⟩,(List.forall_mem_cons.mpr ⟨⟨rfl,rfl,rfl⟩,(List.forall_mem_nil _)⟩)⟩)⟩),(List.forall_mem_cons.mpr ⟨rfl,(List.forall_mem_cons.mpr ⟨rfl,(List.forall_mem_cons.mpr ⟨rfl,(List.forall_mem_nil _)⟩)⟩)⟩),(.cons rfl (.cons rfl (.cons rfl .nil)))⟩ (pi_range1 rfl T.range (pa_consK pe_int pa_nil)) (fun _ _ _ _ _=>pf_nil) (fun _ _ _ _ _=>(by exact (pe_cl T.c__law_put_down (ok__law_put_down T) (hr.mono (by decide)) (pa_consN (pv 1) (pa_consN (pv 2) (pa_consS (pe_ix ixc_list (pe_lst (pa_consK pe_str (pa_consK pe_str (pa_consK pe_str pa_nil)))) (pv 0) (fun _ _=>rfl)) (pa_consS (pe_ix ixc_list (pv 3) (pv 0) (fun _ _=>rfl)) pa_nil))))))))
      (pss_cons (ps_set (i:=12) sclaw.nd rfl (Or.inl rfl) (pe_lst pa_nil))
      (pss_cons (ps_for PassesOwn.never rfl (pi_range1 rfl T.range (pa_consN (pv 4) pa_nil)) (pg_name (i:=13) sclaw.nd rfl (Or.inr rfl))
      (pss_cons (ps_set (i:=14) sclaw.nd rfl (Or.inl rfl) (pe_lst pa_nil))
      (pss_cons (ps_for PassesOwn.never rfl (pi_range1 rfl T.range (pa_consN (pv 5) pa_nil)) (pg_name (i:=15) sclaw.nd rfl (Or.inr rfl))
      (pss_cons (ps_setC (i:=16) sclaw.nd rfl rfl (fv:=["_law_j","_law_k"]) (js:=[13,15]) (cl:=[("_law_k",s.heap.objs.size+3),("_law_j",s.heap.objs.size+4)]) rfl (by with_unfolding_all rfl) ⟨rfl,by decide +kernel,by decide +kernel,rfl,by decide +kernel,by decide +kernel,(List.forall_mem_cons.mpr ⟨⟨rfl,rfl,rfl⟩,(List.forall_mem_cons.mpr ⟨⟨rfl,rfl,rfl⟩,(List.forall_mem_nil _)⟩)⟩),(List.forall_mem_cons.mpr ⟨rfl,(List.forall_mem_cons.mpr ⟨rfl,(List.forall_mem_nil _)⟩)⟩),(.cons rfl (.cons rfl .nil))⟩ (pi_list (pv 6)) (fun _ _ _ _ _=>pf_nil) (fun _ _ _ _ _=>(by exact (pe_ix ixc_list (pe_ix ixc_list (pv 0) (pe_op op_mod (pv 1) (pe_callB call_len_seqc (by rfl) T.len PySem.boot_len (pa_consN (pv 0) pa_nil))) (fun _ _=>rfl)) (pe_op op_mod (pv 2) (pe_callB call_len_seqc (by rfl) T.len PySem.boot_len (pa_consS (pe_ix ixc_list (pv 0) pe_int (fun _ _=>rfl)) pa_nil))) (fun _ _=>rfl)))))
      (pss_cons (ps_set (i:=17) sclaw.nd rfl (Or.inl rfl) (pe_tup (pa_consK pe_str (pa_consK pe_str (pa_consN (pv 9) pa_nil)))))
      (pss_cons (ps_if (pt_cmpR op_eq (pe_ix ix_tup (pv 8) pe_int (fun _ _=>rfl)) pe_str (nomark _)) (pss_one (ps_set (i:=17) sclaw.nd rfl (Or.inl rfl) (pv 8))) pss_nil)
      (pss_cons (ps_if (pt_cmpR op_in_seq (pe_ix ix_tup (pv 8) pe_int (fun _ _=>rfl)) (pe_tup (pa_consK pe_str (pa_consK pe_str pa_nil))) rfl) (pss_one (ps_set (i:=17) sclaw.nd rfl (Or.inl rfl) (pe_ix ix_list (pv 16) (pe_callTy call_int1 (by rfl) T.int boot_int (pa_consM (pe_cmpR (op_neT hu) (pv 8) (pe_tup (pa_consK pe_str (pa_consK pe_bl pa_nil))) (nomark _)) pa_nil)) (fun _ _=>rfl)))) pss_nil)
      (pss_one (ps_expr (pe_bm PySem.F.plainAttrs_list PySem.F.slot_list_append PySem.F.type_list_append mt_append (pv 14) (pa_consN (pv 17) pa_nil)))))))))
      (pss_one (ps_expr (pe_bm PySem.F.plainAttrs_list PySem.F.slot_list_append PySem.F.type_list_append mt_append (pv 12) (pa_consN (pv 14) pa_nil)))))))
      (pss_cons (ps_set (i:=18) sclaw.nd rfl (Or.inl rfl) (pe_tup (pa_consK pe_str (pa_consS (pe_ix ix_list (pv 11) pe_int (fun _ _=>rfl)) (pa_consS (pe_ix ix_list (pv 11) pe_int (fun _ _=>rfl)) (pa_consS (pe_ix ix_list (pv 11) pe_int (fun _ _=>rfl)) pa_nil))))))
      (pss_cons (ps_set (i:=19) sclaw.nd rfl (Or.inl rfl) (pe_callL (k:=8) (hr.mono (by decide)) (by rfl) T.c_reckoned.gl T.c_reckoned.fn.kp T.c_reckoned.b (pa_consN (pv 18) (pa_consN (pv 9) (pa_consZ (pe_lam (clos:=[("_law_known",s.heap.objs.size+5)]) rfl (by with_unfolding_all rfl) (hcd.symm.trans T.kc_law) hCL hB) (pa_consZ (pe_lam (clos:=[]) rfl (by with_unfolding_all rfl) (hcd.symm.trans T.kc_law) hCL hB) pa_nil))))))
      (pss_cons (ps_if (pt_not (pt_val (pe_cl T.c__law_typed_alike (ok__law_typed_alike T 4) (hr.mono (by omega)) (pa_consN (pv 19) (pa_consC (pe_cl T.c__law_tabled (ok__law_tabled T) (hr.mono (by decide)) (pa_consN (pv 12) pa_nil)) pa_nil))))) (pss_one (ps_ret pe_bl)) pss_nil)
      (pss_one (ps_if (pt_not (pt_val (pe_cl T.c__law_both_asked (ok__law_both_asked T hC hB) (hr.mono (by omega)) (pa_consN (pv 1) (pa_consS (pe_ix ix_list (pv 11) pe_int (fun _ _=>rfl)) (pa_consN (pv 3) (pa_consN (pv 9) pa_nil))))))) (pss_one (ps_ret pe_bl)) pss_nil)))))))))))))))))))
      (pss_one (ps_ret pe_bl))))),?_⟩
    refine ⟨_,rfl,a,ns,rfl,hS,h63,fun p H1 hp0 pen1 s1=>?_⟩
    have ev1:Env9 K (a,ns) t.P_reckoned t.P__law_both_asked t.P_law H1 p 0:=⟨pen1,TabAt.nil (s1 _ _ hP1),TabAt.nil (s1 _ _ hP2),TabAt.nil (s1 _ _ hP3)⟩
    refine ⟨_,rfl,(by decide),(by decide),?_⟩
    refine for_range (fun i σ H2=>∃ x2 x3 x4 x5 x6 x7 x8 x9 x10 x11 x12 x13 x14 x15 x16 x17 x18 x19,σ=[some (.ref a),some (.ref p),x2,x3,x4,x5,x6,x7,x8,x9,x10,x11,x12,x13,x14,x15,x16,x17,x18,x19]∧Env9 K (a,ns) t.P_reckoned t.P__law_both_asked t.P_law H2 p (i*2000))
      ⟨_,_,_,_,_,_,_,_,_,_,_,_,_,_,_,_,_,_,rfl,ev1⟩ ?_ ?_
    · rintro i σ H2 hi ⟨x2,x3,x4,x5,x6,x7,x8,x9,x10,x11,x12,x13,x14,x15,x16,x17,x18,x19,rfl,ev2⟩
      have hi6:i<6:=hi
      refine fun kn hkn=>?_
      have ev3:=ev2.same (Same.new (o:=.dT []) hkn)
      have hkn3:upd H2 kn (.dT []) kn=some (.dT []):=upd_same
      generalize upd H2 kn (.dT [])=H3 at *
      have nkp:kn≠p:=by obtain ⟨_,eo⟩:=ev3.pen.ob;exact ne_of hkn3 eo (by intro z;cases z)
      refine ⟨_,rfl,p,_,_,_,rfl,(by show (0:Int)<_;decide),sz4000 (by decide) (by decide),ev3.pen,(by omega),fun r1 H1 a1 b1 pen1 kp1=>⟨_,_,rfl,rfl,_,rfl,p,_,_,_,rfl,(by show (0:Int)<_;decide),sz4000 (by decide) (by decide),pen1,(by omega),fun r2 H2 a2 b2 pen2 kp2=>⟨_,_,rfl,rfl,?_⟩⟩⟩
      obtain ⟨j1,rfl⟩:=Int.eq_ofNat_of_zero_le a1
      obtain ⟨j2,rfl⟩:=Int.eq_ofNat_of_zero_le a2
      have ev5:=(ev3.kx pen1 kp1).kx pen2 kp2
      have hkn5:=(kp1.trans kp2) _ _ nkp hkn3
      refine ⟨_,rfl,_,rfl,_,rfl,p,1+j1,1+j2,_,_,rfl,(by omega),(by omega),(by omega),(by omega),pen2,(by omega),fun l0 bs0 rows0 m0 H6 hl60 hb60 lt6 ml6 ok6 pen6 kp6=>?_⟩
      refine ⟨_,rfl,_,rfl,_,rfl,p,1+j1,1+j2,_,_,rfl,(by omega),(by omega),(by omega),(by omega),pen6,(by omega),fun l1 bs1 rows1 m1 H7 hl70 hb70 lt7 ml7 ok7 pen7 kp7=>?_⟩
      generalize eh:1+j1=h_ at *
      generalize ew:1+j2=w_ at *
      refine ⟨two_le,fun lt hlt=>?_⟩
      have tt0:TT H7 p l0 bs0 rows0 m0 h_ w_:=(TT.of lt6 ml6 ok6 (by omega) (by omega) (by omega) (by omega)).kx kp7 (pen6.kp kp7)
      have tt1:TT H7 p l1 bs1 rows1 m1 h_ w_:=TT.of lt7 ml7 ok7 (by omega) (by omega) (by omega) (by omega)
      have w8:W3 K (a,ns) t.P_reckoned t.P__law_both_asked t.P_law (upd H7 lt (.lst [.ref l0,.ref l1])) p kn lt ⟨Str.ofString "main",l0,bs0,rows0,h_,w_⟩ ⟨Str.ofString "b",l1,bs1,rows1,h_,w_⟩ m0 m1 (i*2000+802):=
        ⟨(((ev5.kx pen6 kp6).kx pen7 kp7).same (Same.new hlt)).mono (by omega),Same.new hlt _ _ ((kp6.trans kp7) _ _ nkp hkn5),upd_same,pen7.ne hlt,tt0.same (Same.new hlt),tt1.same (Same.new hlt),tt0.new hlt,tt1.new hlt⟩
      generalize upd H7 lt (.lst [.ref l0,.ref l1])=H8 at *
      refine ⟨_,rfl,p,_,_,_,rfl,(by show (0:Int)<_;decide),sz4000 (by decide) (by decide),w8.e.pen,(by omega),fun r9 H9 a9 b9 pen9 kp9=>?_⟩
      have w9:=w8.kx pen9 kp9
      refine ⟨_,rfl,_,_,rfl,rfl,_,rfl,?_⟩
      refine iteJ (fun σ H=>∃ A B m n,σ=[some (.ref a),some (.ref p),some (.int (0+(i:Int))),some (.ref kn),some (.int (1+(j1:Int))),some (.int (1+(j2:Int))),some (.ref lt),some (.int r9),x8,x9,x10,x11,x12,x13,x14,x15,x16,x17,x18,x19]∧W3 K (a,ns) t.P_reckoned t.P__law_both_asked t.P_law H p kn lt A B m n (i*2000+803)∧okSh A B h_ w_∧A.z=Str.ofString "main"∧B.z=Str.ofString "b") (fun _=>⟨_,_,m0,m1,rfl,w9,.inl ⟨rfl,rfl,rfl,rfl⟩,rfl,rfl⟩) (fun c9 rest=>?_) ?_
      · have hr9:r9<2:=of_decide_eq_true c9
        have cse:r9=0∨r9=1:=by omega
        rcases cse with rfl | rfl
        · obtain ⟨b0,r0,hb0,hbr,lr,hr0,hv0⟩:=w9.a.at 0 0
          rw [Nat.zero_mod] at hb0 hr0
          have okv:=cy_ok w9.a.rect (fun r hr=>(w9.a.ok r hr).2) 0 0
          refine ⟨_,rfl,_,rfl,lt,_,_,_,rfl,rfl,SqL.of w9.tb,rfl,l0,_,_,_,rfl,rfl,SqL.of w9.a.d.ob,atI_nat (j:=0) (v:=.ref b0) (by rw [List.getElem?_map,hb0];rfl),b0,_,_,_,rfl,rfl,SqL.of hbr,atI_nat (j:=0) hr0,(by show 1≤sizeLine;decide),fun bn hbn=>⟨(by show 1≤sizeLine;decide),fun ln hln=>?_⟩⟩
          have g1:=Same.new (o:=.lst [cy .non rows0 0 0]) hbn
          have g2:=Same.new (o:=.lst [.ref bn]) hln
          have w10:=(w9.same g1).same g2
          have nbn:=w9.e.pen.ne hbn
          have nln:=(w9.same g1).e.pen.ne hln
          have hv10:=hv0.kp (Kp.same (g1.trans g2))
          have ebn:=g2 _ _ (upd_same (H:=H9) (a:=bn) (o:=.lst [cy .non rows0 0 0]))
          have eln:=upd_same (H:=upd H9 bn (.lst [cy .non rows0 0 0])) (a:=ln) (o:=.lst [.ref bn])
          have q1:lt≠bn:=fun z=>by rw [← z,w9.tb] at hbn;cases hbn
          have q2:lt≠ln:=fun z=>by rw [← z,(w9.same g1).tb] at hln;cases hln
          generalize upd (upd H9 bn (.lst [cy .non rows0 0 0])) ln (.lst [.ref bn])=H10 at *
          refine ⟨_,rfl,_,rfl,lt,_,_,0,rfl,rfl,w10.tb,ixN_0 (by simp),?_⟩
          have t1:=TT.one (p:=p) eln ebn hv10 okv nln nbn
          exact rest _ _ ⟨⟨Str.ofString "main",ln,[bn],[[cy .non rows0 0 0]],1,1⟩,⟨Str.ofString "b",l1,bs1,rows1,h_,w_⟩,_,m1,rfl,⟨(w10.e.row w10.tb w10.lp).mono (by omega),by rw [upd_ne (ne_of w10.k w10.tb (by intro z;cases z))];exact w10.k,upd_same,w10.lp,t1.st w10.tb q2 (by simpa using q1),w10.b.st w10.tb w10.nb.1 w10.nb.2,⟨q2,by simpa using q1⟩,w10.nb⟩,.inr (.inl ⟨rfl,rfl,rfl,rfl⟩),rfl,rfl⟩
        · obtain ⟨b0,r0,hb0,hbr,lr,hr0,hv0⟩:=w9.b.at 0 0
          rw [Nat.zero_mod] at hb0 hr0
          have okv:=cy_ok w9.b.rect (fun r hr=>(w9.b.ok r hr).2) 0 0
          refine ⟨_,rfl,_,rfl,lt,_,_,_,rfl,rfl,SqL.of w9.tb,rfl,l1,_,_,_,rfl,rfl,SqL.of w9.b.d.ob,atI_nat (j:=0) (v:=.ref b0) (by rw [List.getElem?_map,hb0];rfl),b0,_,_,_,rfl,rfl,SqL.of hbr,atI_nat (j:=0) hr0,(by show 1≤sizeLine;decide),fun bn hbn=>⟨(by show 1≤sizeLine;decide),fun ln hln=>?_⟩⟩
          have g1:=Same.new (o:=.lst [cy .non rows1 0 0]) hbn
          have g2:=Same.new (o:=.lst [.ref bn]) hln
          have w10:=(w9.same g1).same g2
          have nbn:=w9.e.pen.ne hbn
          have nln:=(w9.same g1).e.pen.ne hln
          have hv10:=hv0.kp (Kp.same (g1.trans g2))
          have ebn:=g2 _ _ (upd_same (H:=H9) (a:=bn) (o:=.lst [cy .non rows1 0 0]))
          have eln:=upd_same (H:=upd H9 bn (.lst [cy .non rows1 0 0])) (a:=ln) (o:=.lst [.ref bn])
          have q1:lt≠bn:=fun z=>by rw [← z,w9.tb] at hbn;cases hbn
          have q2:lt≠ln:=fun z=>by rw [← z,(w9.same g1).tb] at hln;cases hln
          generalize upd (upd H9 bn (.lst [cy .non rows1 0 0])) ln (.lst [.ref bn])=H10 at *
          refine ⟨_,rfl,_,rfl,lt,_,_,1,rfl,rfl,w10.tb,ixN_1 (by simp),?_⟩
          have t1:=TT.one (p:=p) eln ebn hv10 okv nln nbn
          exact rest _ _ ⟨⟨Str.ofString "main",l0,bs0,rows0,h_,w_⟩,⟨Str.ofString "b",ln,[bn],[[cy .non rows1 0 0]],1,1⟩,m0,_,rfl,⟨(w10.e.row w10.tb w10.lp).mono (by omega),by rw [upd_ne (ne_of w10.k w10.tb (by intro z;cases z))];exact w10.k,upd_same,w10.lp,w10.a.st w10.tb w10.na.1 w10.na.2,t1.st w10.tb q2 (by simpa using q1),w10.na,⟨q2,by simpa using q1⟩⟩,.inr (.inr ⟨rfl,rfl,rfl,rfl⟩),rfl,rfl⟩
      rintro σ H11 ⟨A_,B_,m,n,rfl,w11,sh,zA,zB⟩
      refine ⟨_,rfl,p,_,_,rfl,w11.e.pen,(by omega),fun uc vc H14 hvc okc pen14 kp14=>?_⟩
      have w14:=w11.kx pen14 kp14
      refine ⟨_,rfl,p,_,_,_,rfl,(by show (0:Int)<_;decide),sz4000 (by decide) (by decide),w14.e.pen,(by omega),fun r15 H15 a15 b15 pen15 kp15=>?_⟩
      have w15:=w14.kx pen15 kp15
      have hvc15:=hvc.kp (w14.e.pen.kp kp15)
      refine ⟨rfl,_,rfl,?_⟩
      refine iteJ (fun σ H=>∃ uc vc,σ=[some (.ref a),some (.ref p),some (.int (0+(i:Int))),some (.ref kn),some (.int (1+(j1:Int))),some (.int (1+(j2:Int))),some (.ref lt),some (.int r9),some uc,x9,x10,x11,x12,x13,x14,x15,x16,x17,x18,x19]∧W3 K (a,ns) t.P_reckoned t.P__law_both_asked t.P_law H p kn lt A_ B_ m n (i*2000+820)∧VvAt H uc vc∧VlOk vc) (fun _=>⟨uc,vc,rfl,w15.mono (by omega),hvc15,okc⟩) (fun c15 rest=>?_) ?_
      · refine ⟨two_le,fun q1 hq1=>⟨two_le,fun q2 hq2=>⟨(by show 1≤sizeLine;decide),fun q3 hq3=>⟨(by show 3≤sizeLine;decide),fun lx hlx=>?_⟩⟩⟩⟩
        have g1:=Same.new (o:=.tup [vS "truth",.bl true]) hq1
        have e1:upd H15 q1 (.tup [vS "truth",.bl true]) q1=some (.tup [vS "truth",.bl true]):=upd_same
        generalize upd H15 q1 (.tup [vS "truth",.bl true])=G1 at *
        have g2:=Same.new (o:=.tup [vS "truth",.bl false]) hq2
        have e2:upd G1 q2 (.tup [vS "truth",.bl false]) q2=some (.tup [vS "truth",.bl false]):=upd_same
        generalize upd G1 q2 (.tup [vS "truth",.bl false])=G2 at *
        have g3:=Same.new (o:=.tup [vS "none"]) hq3
        have e3:upd G2 q3 (.tup [vS "none"]) q3=some (.tup [vS "none"]):=upd_same
        generalize upd G2 q3 (.tup [vS "none"])=G3 at *
        have g4:=Same.new (o:=.lst [.ref q1,.ref q2,.ref q3]) hlx
        have e4:upd G3 lx (.lst [.ref q1,.ref q2,.ref q3]) lx=some (.lst [.ref q1,.ref q2,.ref q3]):=upd_same
        generalize upd G3 lx (.lst [.ref q1,.ref q2,.ref q3])=G4 at *
        have w16:=((((w15.same g1).same g2).same g3).same g4)
        refine ⟨_,rfl,p,_,_,_,rfl,(by show (0:Int)<_;decide),sz4000 (by decide) (by decide),w16.e.pen,(by omega),fun r17 H17 a17 b17 pen17 kp17=>?_⟩
        have w17:=w16.kx pen17 kp17
        have kk17:=w16.e.pen.kp kp17
        have nlx:lx≠p:=(((w15.same g1).same g2).same g3).e.pen.ne hlx
        have key:∀ (j:Nat) (x:V),[V.ref q1,V.ref q2,V.ref q3][j]?=some x→∃ v,VvAt H17 x v∧VlOk v:=fun j x hx=>by
          have hj:j<3:=(List.getElem?_eq_some_iff.mp hx).1
          have hc:j=0∨j=1∨j=2:=by omega
          rcases hc with rfl | rfl | rfl
          · cases hx;exact ⟨.tru true,⟨q1,rfl,kk17 _ _ (g4 _ _ (g3 _ _ (g2 _ _ e1)))⟩,trivial⟩
          · cases hx;exact ⟨.tru false,⟨q2,rfl,kk17 _ _ (g4 _ _ (g3 _ _ e2))⟩,trivial⟩
          · cases hx;exact ⟨.none,⟨q3,rfl,kk17 _ _ (g4 _ _ e3)⟩,trivial⟩
        obtain ⟨j17,rfl⟩:=Int.eq_ofNat_of_zero_le a17
        obtain ⟨xc,hxc⟩:∃ x,[V.ref q1,V.ref q2,V.ref q3][j17]?=some x:=⟨_,List.getElem?_eq_getElem (by show j17<3;omega)⟩
        obtain ⟨v17,hv17,ok17⟩:=key j17 xc hxc
        refine ⟨lx,_,_,_,rfl,rfl,SqL.of (kp17 _ _ nlx e4),atI_nat hxc,?_⟩
        exact rest _ _ ⟨xc,v17,rfl,w17.mono (by omega),hv17,ok17⟩
      rintro σ H18 ⟨uc,vc,rfl,w18,hvc18,okc⟩
      refine ⟨_,rfl,p,_,_,rfl,w18.e.pen,(by omega),fun qh hm H12 hq12 nm12 y1 y2 y3 y4 pen12 kp12=>?_⟩
      have w12:=w18.kx pen12 kp12
      have hvc12:=hvc18.kp (w18.e.pen.kp kp12)
      refine ⟨_,rfl,(by show 1≤sizeLine;decide),fun b1 hb1=>⟨(by show 1≤sizeLine;decide),fun b2 hb2=>⟨(by show 1≤sizeLine;decide),fun b3 hb3=>?_⟩⟩⟩
      have g1:=Same.new (o:=.lst [uc]) hb1
      have e1:upd H12 b1 (.lst [uc]) b1=some (.lst [uc]):=upd_same
      have nb1:=w12.e.pen.ne hb1
      generalize upd H12 b1 (.lst [uc])=G1 at *
      have nb2:=(w12.same g1).e.pen.ne hb2
      have g2:=Same.new (o:=.lst [.ref b1]) hb2
      have e2:upd G1 b2 (.lst [.ref b1]) b2=some (.lst [.ref b1]):=upd_same
      generalize upd G1 b2 (.lst [.ref b1])=G2 at *
      have g3:=Same.new (o:=.lst [.ref b2]) hb3
      have e3:upd G2 b3 (.lst [.ref b2]) b3=some (.lst [.ref b2]):=upd_same
      generalize upd G2 b3 (.lst [.ref b2])=G3 at *
      have w19:=(((w12.same g1).same g2).same g3)
      have g13:=g1.trans (g2.trans g3)
      refine ⟨_,rfl,b3,lt,_,_,rfl,rfl,e3,w19.tb,(by show 3≤sizeLine;decide),fun l3 hl3=>?_⟩
      have g4:=Same.new (o:=.lst ([.ref b2]++[.ref A_.l,.ref B_.l])) hl3
      have nl3:=w19.e.pen.ne hl3
      have ctt:TT G3 p b2 [b1] [[uc]] [[vc]] 1 1:=TT.one (g3 _ _ e2) (g3 _ _ (g2 _ _ e1)) (hvc12.kp (Kp.same g13)) okc nb2 nb1
      obtain ⟨C_,hC_⟩:∃ C:Dt,C=⟨Str.ofString "c",b2,[b1],[[uc]],1,1⟩:=⟨_,rfl⟩
      have c13:TT (upd G3 l3 (.lst ([.ref b2]++[.ref A_.l,.ref B_.l]))) p C_.l C_.bs C_.rows [[vc]] C_.h C_.w:=by rw [hC_];exact ctt.same g4
      have zC:C_.z=Str.ofString "c":=by rw [hC_]
      have elC:C_.l=b2:=by rw [hC_]
      have w13:=w19.same g4
      have tb13:upd G3 l3 (.lst ([.ref b2]++[.ref A_.l,.ref B_.l])) l3=some (.lst [.ref C_.l,.ref A_.l,.ref B_.l]):=by rw [elC];exact upd_same
      have hh13:HmAt (upd G3 l3 (.lst ([.ref b2]++[.ref A_.l,.ref B_.l]))) (.ref qh) hm:=HmAt.kp ⟨qh,rfl,hq12⟩ (Kp.same (g13.trans g4))
      have hvc13:=hvc12.kp (Kp.same (g13.trans g4))
      generalize upd G3 l3 (.lst ([.ref b2]++[.ref A_.l,.ref B_.l]))=H13 at *
      have nk3:l3≠kn:=ne_of tb13 w13.k (by intro z;cases z)
      refine ⟨_,rfl,(by decide),(by decide),fun Dl hDl=>?_⟩
      obtain ⟨T3,hT3⟩:∃ T3:List Dt,T3=[C_,A_,B_]:=⟨_,rfl⟩
      have good:∀ x∈T3,D3 H13 p x.l x.bs x.rows x.h x.w:=by
        rw [hT3]
        exact List.forall_mem_cons.mpr ⟨c13.d,List.forall_mem_cons.mpr ⟨w13.a.d,List.forall_mem_cons.mpr ⟨w13.b.d,List.forall_mem_nil _⟩⟩⟩
      have hz3:[vS "c",vS "main",vS "b"]=T3.map fun x=>V.str x.z:=by rw [hT3];show _=[V.str C_.z,V.str A_.z,V.str B_.z];rw [zC,zA,zB]
      have hlT:[V.ref C_.l,V.ref A_.l,V.ref B_.l]=T3.map fun x=>V.ref x.l:=by rw [hT3];rfl
      have nd3:(T3.map fun x=>x.z).Nodup:=by rw [hT3];show [C_.z,A_.z,B_.z].Nodup;rw [zC,zA,zB];decide +kernel
      have len3:T3.length=3:=by rw [hT3];rfl
      have nDp:Dl≠p:=w13.e.pen.ne hDl
      have nDk:Dl≠kn:=fun z=>by rw [z,w13.k] at hDl;cases hDl
      refine ⟨fun j mm H=>mm=3-j∧j≤3∧∃ (as:List V) (kvs:List (List Key×V)),H Dl=some (.lst as)∧as.length=j∧H kn=some (.dT kvs)∧kvs.length≤j*128∧(∀ (i':Nat) (u:V),as[i']?=some u→∃ x,T3[i']?=some x∧LayAt H kvs x.z x.rows x.h x.w u)∧PenM K (a,ns) H p (i*2000+830+2*j)∧Keep2 p kn H13 H,
        ⟨3,rfl,Nat.zero_le _,[],[],upd_same,rfl,Same.new hDl _ _ w13.k,Nat.zero_le _,fun i' u z=>by simp at z,(w13.e.pen.same (Same.new hDl)).mono (by omega),Keep2.of (Same.new hDl)⟩,?_⟩
      rintro j mm H20 ⟨rfl,hj2,as,kvs,hD20,las,hkn20,lk20,lay20,pen20,kp20⟩
      by_cases hlt:j<3
      · refine .inr ⟨hlt,fun x H21 y=>?_⟩
        obtain ⟨e21,rfl⟩:=y
        subst e21
        obtain ⟨dt,hdt⟩:∃ dt,T3[j]?=some dt:=⟨T3[j]'(by omega),List.getElem?_eq_getElem (by omega)⟩
        have gd:=(good dt (List.mem_of_getElem? hdt)).k2 kp20 w13.k
        refine ⟨_,rfl,_,rfl,(by show 3≤sizeLine;decide),fun lz hlz=>?_⟩
        have sz':=Same.new (o:=.lst [vS "c",vS "main",vS "b"]) hlz
        have elz:upd H21 lz (.lst [vS "c",vS "main",vS "b"]) lz=some (.lst [vS "c",vS "main",vS "b"]):=upd_same
        generalize upd H21 lz (.lst [vS "c",vS "main",vS "b"])=H22 at *
        refine ⟨_,rfl,lz,_,_,_,rfl,rfl,SqL.of elz,(by rw [Int.zero_add,hz3];exact atI_nat (j:=j) (v:=V.str dt.z) (by rw [List.getElem?_map,hdt];rfl)),_,rfl,_,rfl,l3,_,_,_,rfl,rfl,SqL.of (sz' _ _ (kp20 _ _ nl3 nk3 tb13)),(by rw [Int.zero_add,hlT];exact atI_nat (j:=j) (v:=V.ref dt.l) (by rw [List.getElem?_map,hdt];rfl)),?_⟩
        have gd2:=gd.k2 (q:=kn) (Keep2.of sz') hkn20
        have lk:j*128≤2*128:=Nat.mul_le_mul_right 128 (by omega)
        refine ⟨p,kn,dt.l,dt.z,kvs,dt.bs,dt.rows,dt.h,dt.w,_,(a,ns),rfl,pen20.same sz',(by omega),sz' _ _ hkn20,(by omega),gd2.ob,gd2.lp,gd2.np,gd2.ls,gd2.len,gd2.h1,gd2.h16,gd2.w1,gd2.w8,gd2.row,fun aa lf c d hi'_ wi' kvs' H23 k1 k2 k3 k4 k5 k6 k7 k8 k9 k10 k11 k12 k13 k14 pen23 kp23=>?_⟩
        have hD23:=kp23 _ _ nDp nDk (sz' _ _ hD20)
        have hw128:dt.h*dt.w≤16*8:=Nat.mul_le_mul gd2.h16 gd2.w8
        obtain ⟨pvs,hpv⟩:=(pen20.same sz').ob
        have kp123:Kp H21 H23:=(Kp.same sz').trans (Keep2.kp kp23 hpv (sz' _ _ hkn20))
        have kD:Kp H23 (upd H23 Dl (.lst (as++[.ref aa]))):=kp_upd hD23
        refine ⟨as,hD23,sl_lt (by omega),3-(j+1),(by omega),rfl,hlt,as++[.ref aa],kvs',upd_same,(by rw [List.length_append,las];rfl),(by rw [upd_ne (Ne.symm nDk)];exact k1),(by omega),fun i' u hu'=>?_,?_,fun b o hb hb' e=>?_⟩
        · by_cases hi':i'<as.length
          · rw [List.getElem?_append_left hi'] at hu'
            obtain ⟨x,hx,lx⟩:=lay20 i' u hu'
            refine ⟨x,hx,lx.step (kp123.trans kD) k4 fun z=>?_⟩
            have:=nodup_ix nd3 (i:=i') (j:=j) (x:=x.z) (by rw [List.getElem?_map,hx];rfl) (by rw [List.getElem?_map,hdt,z];rfl)
            omega
          · have:i'<(as++[V.ref aa]).length:=(List.getElem?_eq_some_iff.mp hu').1
            rw [List.length_append,List.length_singleton] at this
            have ei:i'=j:=by omega
            subst ei
            rw [List.getElem?_append_right (by omega),las,Nat.sub_self] at hu'
            cases hu'
            exact ⟨dt,hdt,aa,lf,c,d,hi'_,wi',rfl,LfAt.kp k5 kD,k6,k7,k8,k9,k10,k11,k12,k13,k14,k3⟩
        · exact (w13.e.pen.put hDl pen23).mono (by omega)
        · rw [upd_ne (ne_of_none e hDl)];exact kp23 _ _ hb hb' (sz' _ _ (kp20 _ _ hb hb' e))
      have ej:j=3:=by omega
      subst ej
      refine .inl ⟨Nat.le_refl _,?_⟩
      have kk20:Kp H13 H20:=w13.e.kp2 w13.k kp20
      have ev20:=w13.e.k2 w13.k pen20 kp20
      have a20:=w13.a.k2 kp20 w13.k kk20
      have b20:=w13.b.k2 kp20 w13.k kk20
      have c20:=c13.k2 kp20 w13.k kk20
      have tb20:=kp20 _ _ w13.lp (ne_of w13.tb w13.k (by intro z;cases z)) w13.tb
      have t320:=kp20 _ _ nl3 nk3 tb13
      have hh20:=hh13.kp kk20
      have hvc20:=hvc13.kp kk20
      obtain ⟨y0,y1,y2,rfl⟩:=len_3 las
      obtain ⟨xC,hxC,lyC⟩:=lay20 0 y0 rfl
      obtain ⟨xA,hxA,lyA⟩:=lay20 1 y1 rfl
      obtain ⟨xB,hxB,lyB⟩:=lay20 2 y2 rfl
      rw [hT3] at hxC hxA hxB
      cases hxC;cases hxA;cases hxB
      have lyC0:=lyC
      rw [zC] at lyC
      rw [zA] at lyA
      rw [zB] at lyB
      refine ⟨Nat.zero_le _,fun lr hlr=>?_⟩
      obtain ⟨f,hf⟩:∃ f:Nat→Nat→Vl,f=fun j k=>chV vc (cy .none m j k) (cy .none n j k) hm:=⟨_,rfl⟩
      have rd0:RD H20 (upd H20 lr (.lst [])) lr [] [] (tabC f 0 w_):=RD.nil hlr
      generalize upd H20 lr (.lst [])=H21 at *
      refine ⟨_,rfl,_,rfl,(by omega),(by omega),?_⟩
      rw [show (1+(j1:Int)).toNat=h_ by omega]
      refine for_range (fun jj σ H=>∃ x13 x14 x15 x16 x17 bs rows,σ=[some (.ref a),some (.ref p),some (.int (0+(i:Int))),some (.ref kn),some (.int (1+(j1:Int))),some (.int (1+(j2:Int))),some (.ref lt),some (.int r9),some uc,some (.ref qh),some (.ref l3),some (.ref Dl),some (.ref lr),x13,x14,x15,x16,x17,x18,x19]∧RD H20 H lr bs rows (tabC f jj w_)) ⟨_,_,_,_,_,_,_,rfl,rd0⟩ ?_ ?_
      · rintro jj σ H30 hjj ⟨x13,x14,x15,x16,x17,bs3,rows3,rfl,rd3⟩
        refine ⟨Nat.zero_le _,fun lq hlq=>?_⟩
        obtain ⟨n1,n2,n3⟩:=rd3.new hlq
        have rd4:=rd3.same (Same.new (o:=.lst []) hlq)
        have hl4:upd H30 lq (.lst []) lq=some (.lst []):=upd_same
        generalize upd H30 lq (.lst [])=H31 at *
        refine ⟨_,rfl,_,rfl,(by omega),(by omega),?_⟩
        rw [show (1+(j2:Int)).toNat=w_ by omega]
        refine for_range (fun kk σ H=>∃ x15 x16 x17 us,σ=[some (.ref a),some (.ref p),some (.int (0+(i:Int))),some (.ref kn),some (.int (1+(j1:Int))),some (.int (1+(j2:Int))),some (.ref lt),some (.int r9),some uc,some (.ref qh),some (.ref l3),some (.ref Dl),some (.ref lr),some (.int (0+(jj:Int))),some (.ref lq),x15,x16,x17,x18,x19]∧RD H20 H lr bs3 rows3 (tabC f jj w_)∧H lq=some (.lst us)∧VsAt H us ((List.range kk).map (f jj))) ⟨_,_,_,[],rfl,rd4,hl4,.nil⟩ ?_ ?_
        · rintro kk σ H32 hkk ⟨x15,x16,x17,us,rfl,rd5,hl5,vs5⟩
          have tA:=a20.same rd5.s
          have tB:=b20.same rd5.s
          have ul:us.length=kk:=(Paired.length vs5).trans (by rw [List.length_map,List.length_range])
          have key:∀ (e:Nat) (x:V),[V.ref A_.l,V.ref B_.l][e]?=some x→∃ l bs rows mm h w,x=.ref l∧TT H32 p l bs rows mm h w∧[cy .non A_.rows jj kk,cy .non B_.rows jj kk][e]?=some (cy .non rows jj kk):=fun e x hx=>by
            have he:e<2:=(List.getElem?_eq_some_iff.mp hx).1
            have hc:e=0∨e=1:=by omega
            rcases hc with rfl | rfl
            · cases hx;exact ⟨_,_,_,_,_,_,rfl,tA,rfl⟩
            · cases hx;exact ⟨_,_,_,_,_,_,rfl,tB,rfl⟩
          have htb5:=rd5.s _ _ tb20
          refine ⟨_,rfl,lt,rfl,⟨_,SqL.of htb5⟩,fun D hD=>?_⟩
          refine ⟨fun e mm H=>mm=2-e∧e≤2∧H D=some (.lst ([cy .non A_.rows jj kk,cy .non B_.rows jj kk].take e))∧Same H32 H,⟨2,rfl,Nat.zero_le _,upd_same,Same.new hD⟩,?_⟩
          rintro e mm H33 ⟨rfl,he,hD33,s33⟩
          have htb33:=s33 _ _ htb5
          by_cases hlt:e<2
          · obtain ⟨x,hx⟩:∃ x,[V.ref A_.l,V.ref B_.l][e]?=some x:=⟨_,List.getElem?_eq_getElem hlt⟩
            refine .inr ⟨⟨_,_,SqL.of htb33,hx⟩,fun x' H' y=>?_⟩
            obtain ⟨e4,y⟩:=y
            subst e4
            have hx':=y _ (SqL.of htb33)
            rw [hx] at hx'
            cases hx'
            obtain ⟨l_,bs_,rows_,mm_,hh_,ww_,rfl,tt_,ec⟩:=key e x hx
            have tt':=tt_.same s33
            obtain ⟨b0,r0,hb0,hbr0,lr0,_,_⟩:=tt'.at 0 0
            obtain ⟨b1,r1,hb1,hbr1,lr1,hr1,_⟩:=tt'.at jj kk
            rw [Nat.zero_mod] at hb0
            have bl:bs_.length=hh_:=(Paired.length tt'.d.ls).trans tt'.d.len
            have q1:=tt'.d.h1
            have q2:=tt'.d.w1
            refine ⟨_,rfl,_,rfl,_,rfl,l_,_,rfl,.inl (SqL.of tt'.d.ob),_,_,rfl,rfl,(by rw [List.length_map,bl];omega),l_,_,_,_,rfl,rfl,SqL.of tt'.d.ob,(by rw [Int.zero_add,List.length_map,bl,← Int.natCast_emod];exact atI_nat (j:=jj%hh_) (v:=.ref b1) (by rw [List.getElem?_map,hb1];rfl)),?_⟩
            refine ⟨_,rfl,_,rfl,l_,_,_,_,rfl,rfl,SqL.of tt'.d.ob,atI_nat (j:=0) (v:=.ref b0) (by rw [List.getElem?_map,hb0];rfl),b0,_,rfl,.inl (SqL.of hbr0),_,_,rfl,rfl,(by rw [lr0];omega),b1,_,_,_,rfl,rfl,SqL.of hbr1,(by rw [Int.zero_add,lr0,← Int.natCast_emod];exact atI_nat hr1),?_⟩
            refine ⟨_,hD33,sl_lt (by rw [List.length_take];simp;omega),2-(e+1),(by omega),rfl,hlt,?_,fun b o e=>by rw [upd_ne (ne_of_none e hD)];exact s33 _ _ e⟩
            rw [upd_same,List.take_add_one,ec];rfl
          · have ee:e=2:=by omega
            subst ee
            refine .inl ⟨⟨_,SqL.of htb33,by simp⟩,?_⟩
            have hD34:H33 D=some (.lst [cy .non A_.rows jj kk,cy .non B_.rows jj kk]):=hD33
            obtain ⟨_,_,_,_,_,_,hvA⟩:=(tA.same s33).at jj kk
            obtain ⟨_,_,_,_,_,_,hvB⟩:=(tB.same s33).at jj kk
            have rd6:=rd5.same s33
            have hl6:=s33 _ _ hl5
            have hvc6:=hvc20.kp (Kp.same rd6.s)
            have hh6:=hh20.kp (Kp.same rd6.s)
            refine ⟨_,rfl,three_le,fun qk hqk=>?_⟩
            have s7:=Same.new (o:=.tup [vS "fault",vS "kind",.ref qh]) hqk
            have hk7:=hh6.flt (w:="kind") hqk
            have hvc7:=hvc6.kp (Kp.same s7)
            have hvA7:=hvA.kp (Kp.same s7)
            have hvB7:=hvB.kp (Kp.same s7)
            have hD7:=s7 _ _ hD34
            have rd7:=rd6.same s7
            have hl7:=s7 _ _ hl6
            generalize upd H33 qk (.tup [vS "fault",vS "kind",.ref qh])=H7 at *
            have push:∀ (H8:Hp) (zd:V),Same H7 H8→VvAt H8 zd (f jj kk)→H8 lq=some (.lst us)∧us.length<sizeLine∧RD H20 (upd H8 lq (.lst (us++[zd]))) lr bs3 rows3 (tabC f jj w_)∧upd H8 lq (.lst (us++[zd])) lq=some (.lst (us++[zd]))∧VsAt (upd H8 lq (.lst (us++[zd]))) (us++[zd]) ((List.range (kk+1)).map (f jj)):=fun H8 zd s8 hz=>by
              have hl8:=s8 _ _ hl7
              have kd:=kp_upd (vs:=us++[zd]) hl8
              refine ⟨hl8,sl_lt (by omega),(rd7.same s8).st n1 n2 n3 hl8,upd_same,?_⟩
              rw [List.range_succ,List.map_append]
              exact psnoc (VsAt.kp vs5 ((Kp.same ((s33.trans s7).trans s8)).trans kd)) (hz.kp kd)
            obtain ⟨q,xs,rfl,hq,_⟩:=hvc7.hd
            cases vc with
            | flt wf zf rf cf=>
              refine ⟨_,rfl,q,_,_,_,rfl,rfl,SqT.of hq,atI_hd,rfl,true,(by show V.bl (decide (V.str (Str.ofString "fault")=vS "fault"))=_;decide +kernel),iteT ?_⟩
              refine ⟨_,rfl,?_⟩
              refine ⟨_,rfl,q,_,_,_,rfl,rfl,SqT.of hq,atI_hd,two_le,fun qt hqt=>⟨qt,_,rfl,.inr (SqT.of upd_same),rfl,rfl,false,(by show V.bl (inV (V.str (Str.ofString "fault")) [vS "truth",vS "none"])=_;decide +kernel),iteF ?_⟩⟩
              have s8:=Same.new (o:=.tup [vS "truth",vS "none"]) hqt
              generalize upd H7 qt (.tup [vS "truth",vS "none"])=H8 at *
              obtain ⟨p1,p2,p3,p4,p5⟩:=push _ _ (s8) (by rw [hf];exact hvc7.kp (Kp.same s8))
              exact ⟨_,rfl,.inl ⟨rfl,_,SqL.of p1⟩,_,rfl,lq,us,_,rfl,rfl,p1,p2,_,_,_,_,rfl,p3,p4,p5⟩
            | num nt nb=>
              refine ⟨_,rfl,q,_,_,_,rfl,rfl,SqT.of hq,atI_hd,rfl,false,(by show V.bl (decide (V.str (Str.ofString "number")=vS "fault"))=_;decide +kernel),iteF ?_⟩
              refine ⟨_,rfl,q,_,_,_,rfl,rfl,SqT.of hq,atI_hd,two_le,fun qt hqt=>⟨qt,_,rfl,.inr (SqT.of upd_same),rfl,rfl,false,(by show V.bl (inV (V.str (Str.ofString "number")) [vS "truth",vS "none"])=_;decide +kernel),iteF ?_⟩⟩
              have s8:=Same.new (o:=.tup [vS "truth",vS "none"]) hqt
              generalize upd H7 qt (.tup [vS "truth",vS "none"])=H8 at *
              obtain ⟨p1,p2,p3,p4,p5⟩:=push _ _ (s8) (by rw [hf];exact hk7.kp (Kp.same s8))
              exact ⟨_,rfl,.inl ⟨rfl,_,SqL.of p1⟩,_,rfl,lq,us,_,rfl,rfl,p1,p2,_,_,_,_,rfl,p3,p4,p5⟩
            | txt zt=>
              refine ⟨_,rfl,q,_,_,_,rfl,rfl,SqT.of hq,atI_hd,rfl,false,(by show V.bl (decide (V.str (Str.ofString "text")=vS "fault"))=_;decide +kernel),iteF ?_⟩
              refine ⟨_,rfl,q,_,_,_,rfl,rfl,SqT.of hq,atI_hd,two_le,fun qt hqt=>⟨qt,_,rfl,.inr (SqT.of upd_same),rfl,rfl,false,(by show V.bl (inV (V.str (Str.ofString "text")) [vS "truth",vS "none"])=_;decide +kernel),iteF ?_⟩⟩
              have s8:=Same.new (o:=.tup [vS "truth",vS "none"]) hqt
              generalize upd H7 qt (.tup [vS "truth",vS "none"])=H8 at *
              obtain ⟨p1,p2,p3,p4,p5⟩:=push _ _ (s8) (by rw [hf];exact hk7.kp (Kp.same s8))
              exact ⟨_,rfl,.inl ⟨rfl,_,SqL.of p1⟩,_,rfl,lq,us,_,rfl,rfl,p1,p2,_,_,_,_,rfl,p3,p4,p5⟩
            | none=>
              have hq':H7 q=some (.tup [vS "none"]):=by obtain ⟨_,e,h⟩:=hvc7;cases e;exact h
              refine ⟨_,rfl,q,_,_,_,rfl,rfl,SqT.of hq,atI_hd,rfl,false,(by show V.bl (decide (V.str (Str.ofString "none")=vS "fault"))=_;decide +kernel),iteF ?_⟩
              refine ⟨_,rfl,q,_,_,_,rfl,rfl,SqT.of hq,atI_hd,two_le,fun qt hqt=>⟨qt,_,rfl,.inr (SqT.of upd_same),rfl,rfl,true,(by show V.bl (inV (V.str (Str.ofString "none")) [vS "truth",vS "none"])=_;decide +kernel),iteT ?_⟩⟩
              have s8:=Same.new (o:=.tup [vS "truth",vS "none"]) hqt
              generalize upd H7 qt (.tup [vS "truth",vS "none"])=H8 at *
              refine ⟨_,rfl,_,rfl,two_le,fun q2 hq2=>?_⟩
              have s9:=Same.new (o:=.tup [vS "truth",.bl true]) hq2
              have e9:upd H8 q2 (.tup [vS "truth",.bl true]) q2=some (.tup [vS "truth",.bl true]):=upd_same
              generalize upd H8 q2 (.tup [vS "truth",.bl true])=H9 at *
              refine ⟨q,q2,[vS "none"],_,rfl,rfl,SqT.of (s9 _ _ (s8 _ _ hq')),SqT.of e9,rfl,rfl,.inr ⟨true,(by decide +kernel),D,_,_,_,rfl,rfl,SqL.of (s9 _ _ (s8 _ _ hD7)),rfl,?_⟩⟩
              obtain ⟨p1,p2,p3,p4,p5⟩:=push _ _ (s8.trans s9) (by rw [hf];exact hvB7.kp (Kp.same (s8.trans s9)))
              exact ⟨_,rfl,.inl ⟨rfl,_,SqL.of p1⟩,_,rfl,lq,us,_,rfl,rfl,p1,p2,_,_,_,_,rfl,p3,p4,p5⟩
            | tru b=>
              have hq':H7 q=some (.tup [vS "truth",.bl b]):=by obtain ⟨_,e,h⟩:=hvc7;cases e;exact h
              refine ⟨_,rfl,q,_,_,_,rfl,rfl,SqT.of hq,atI_hd,rfl,false,(by show V.bl (decide (V.str (Str.ofString "truth")=vS "fault"))=_;decide +kernel),iteF ?_⟩
              refine ⟨_,rfl,q,_,_,_,rfl,rfl,SqT.of hq,atI_hd,two_le,fun qt hqt=>⟨qt,_,rfl,.inr (SqT.of upd_same),rfl,rfl,true,(by show V.bl (inV (V.str (Str.ofString "truth")) [vS "truth",vS "none"])=_;decide +kernel),iteT ?_⟩⟩
              have s8:=Same.new (o:=.tup [vS "truth",vS "none"]) hqt
              generalize upd H7 qt (.tup [vS "truth",vS "none"])=H8 at *
              cases b with
              | true=>
                refine ⟨_,rfl,_,rfl,two_le,fun q2 hq2=>?_⟩
                have s9:=Same.new (o:=.tup [vS "truth",.bl true]) hq2
                have e9:upd H8 q2 (.tup [vS "truth",.bl true]) q2=some (.tup [vS "truth",.bl true]):=upd_same
                generalize upd H8 q2 (.tup [vS "truth",.bl true])=H9 at *
                refine ⟨q,q2,[vS "truth",.bl true],_,rfl,rfl,SqT.of (s9 _ _ (s8 _ _ hq')),SqT.of e9,rfl,rfl,.inr ⟨false,(by decide +kernel),D,_,_,_,rfl,rfl,SqL.of (s9 _ _ (s8 _ _ hD7)),rfl,?_⟩⟩
                obtain ⟨p1,p2,p3,p4,p5⟩:=push _ _ (s8.trans s9) (by rw [hf];exact hvA7.kp (Kp.same (s8.trans s9)))
                exact ⟨_,rfl,.inl ⟨rfl,_,SqL.of p1⟩,_,rfl,lq,us,_,rfl,rfl,p1,p2,_,_,_,_,rfl,p3,p4,p5⟩
              | false=>
                refine ⟨_,rfl,_,rfl,two_le,fun q2 hq2=>?_⟩
                have s9:=Same.new (o:=.tup [vS "truth",.bl true]) hq2
                have e9:upd H8 q2 (.tup [vS "truth",.bl true]) q2=some (.tup [vS "truth",.bl true]):=upd_same
                generalize upd H8 q2 (.tup [vS "truth",.bl true])=H9 at *
                refine ⟨q,q2,[vS "truth",.bl false],_,rfl,rfl,SqT.of (s9 _ _ (s8 _ _ hq')),SqT.of e9,rfl,rfl,.inr ⟨true,(by decide +kernel),D,_,_,_,rfl,rfl,SqL.of (s9 _ _ (s8 _ _ hD7)),rfl,?_⟩⟩
                obtain ⟨p1,p2,p3,p4,p5⟩:=push _ _ (s8.trans s9) (by rw [hf];exact hvB7.kp (Kp.same (s8.trans s9)))
                exact ⟨_,rfl,.inl ⟨rfl,_,SqL.of p1⟩,_,rfl,lq,us,_,rfl,rfl,p1,p2,_,_,_,_,rfl,p3,p4,p5⟩
        · rintro σ H32 ⟨x15,x16,x17,us,rfl,rd5,hl5,vs5⟩
          have hln:=rd5.len.1
          rw [tabC_len] at hln
          refine ⟨_,rfl,.inl ⟨rfl,_,SqL.of rd5.b.ob⟩,_,rfl,lr,_,_,rfl,rfl,rd5.b.ob,sl_lt (by rw [List.length_map];omega),_,_,_,_,_,bs3++[lq],rows3++[us],rfl,?_⟩
          rw [tabC_succ]
          exact rd5.push n1 n3 hl5 vs5
      rintro σ H40 ⟨x13,x14,x15,x16,x17,bs4,rows4,rfl,rd40⟩
      have eA:m.length=A_.h∧wd m=A_.w:=⟨w13.a.ml,w13.a.rect.wd⟩
      have eB:n.length=B_.h∧wd n=B_.w:=⟨w13.b.ml,w13.b.rect.wd⟩
      have ft:fits m n:=by
        rcases sh with ⟨s1,s2,s3,s4⟩ | ⟨s1,s2,s3,s4⟩ | ⟨s1,s2,s3,s4⟩
        · exact .inl ⟨by omega,by omega⟩
        · exact .inr (.inr ⟨by omega,by omega⟩)
        · exact .inr (.inl ⟨by omega,by omega⟩)
      have eT:tabC f h_ w_=chT vc m n hm:=by
        have e1:max m.length n.length=h_:=by
          rcases sh with ⟨s1,s2,s3,s4⟩ | ⟨s1,s2,s3,s4⟩ | ⟨s1,s2,s3,s4⟩ <;> omega
        have e2:max (wd m) (wd n)=w_:=by
          rcases sh with ⟨s1,s2,s3,s4⟩ | ⟨s1,s2,s3,s4⟩ | ⟨s1,s2,s3,s4⟩ <;> omega
        unfold chT
        rw [e1,e2,hf]
      obtain ⟨ac,lfc,sC,rfl,gC,zC',mC,ldC,useC⟩:=lay_sh lyC nm_c c20.vt c20.ml (fun r hr=>(c20.ok r hr).1) c20.d.h1 c20.d.w1
      obtain ⟨a0,lf0,sA,rfl,g0,zA',mA,ldA,useA⟩:=lay_sh lyA nm_main a20.vt a20.ml (fun r hr=>(a20.ok r hr).1) a20.d.h1 a20.d.w1
      obtain ⟨a1,lf1,sB,rfl,g1,zB',mB,ldB,useB⟩:=lay_sh lyB nm_b b20.vt b20.ml (fun r hr=>(b20.ok r hr).1) b20.d.h1 b20.d.w1
      have ndT:(([sC,sA,sB]:List Sht).map fun s=>s.z).Nodup:=by show [sC.z,sA.z,sB.z].Nodup;rw [zC',zA',zB'];decide +kernel
      obtain ⟨dom,hdom⟩:∃ dom,dom=domS [sC,sA,sB]:=⟨_,rfl⟩
      obtain ⟨g,hg⟩:∃ g,g=gS [sC,sA,sB]:=⟨_,rfl⟩
      obtain ⟨⟨zc_,cc_,dc_,lgc⟩,ec⟩:=useC [sC,sA,sB] ndT (by simp)
      obtain ⟨⟨z0,c0,d0,lg0⟩,e0⟩:=useA [sC,sA,sB] ndT (by simp)
      obtain ⟨⟨z1,c1,d1,lg1⟩,e1⟩:=useB [sC,sA,sB] ndT (by simp)
      have dp20:DpF kn dom g H20:=by
        rw [hdom,hg]
        exact dp_S hkn20 ndT (List.forall_mem_cons.mpr ⟨ldC,List.forall_mem_cons.mpr ⟨ldA,List.forall_mem_cons.mpr ⟨ldB,List.forall_mem_nil _⟩⟩⟩)
      rw [← hdom] at lgc lg0 lg1
      rw [← hg] at ec e0 e1
      have kc:okl2 dom g lfc:=⟨⟨_,_,_,lgc⟩,by rw [ec];exact fun r hr=>(c20.ok r hr).2⟩
      have k0:okl2 dom g lf0:=⟨⟨_,_,_,lg0⟩,by rw [e0];exact fun r hr=>(a20.ok r hr).2⟩
      have k1:okl2 dom g lf1:=⟨⟨_,_,_,lg1⟩,by rw [e1];exact fun r hr=>(b20.ok r hr).2⟩
      have lA:=a20.d.h16;have wA:=a20.d.w8;have lB:=b20.d.h16;have wB:=b20.d.w8;have lC:=c20.d.h16;have wC:=c20.d.w8
      have mlC:=c20.ml
      have gdc:Gd (lfT g lfc):=by rw [ec];exact ⟨_,c20.rect,by omega,by omega,fun r hr=>(c20.ok r hr).2⟩
      have gd0:Gd (lfT g lf0):=by rw [e0];exact ⟨_,a20.rect,by omega,by omega,fun r hr=>(a20.ok r hr).2⟩
      have gd1:Gd (lfT g lf1):=by rw [e1];exact ⟨_,b20.rect,by omega,by omega,fun r hr=>(b20.ok r hr).2⟩
      have s40:=rd40.s
      have hD40:=s40 _ _ hD20
      refine ⟨_,rfl,Dl,_,_,_,rfl,rfl,SqL.of hD40,rfl,_,rfl,Dl,_,_,_,rfl,rfl,SqL.of hD40,rfl,_,rfl,Dl,_,_,_,rfl,rfl,SqL.of hD40,rfl,(by show 4≤sizeLine;decide),fun qf hqf=>?_⟩
      have s41:=Same.new (o:=.tup [vS "if",.ref ac,.ref a0,.ref a1]) hqf
      have hf41:upd H40 qf (.tup [vS "if",.ref ac,.ref a0,.ref a1]) qf=some (.tup [vS "if",.ref ac,.ref a0,.ref a1]):=upd_same
      generalize upd H40 qf (.tup [vS "if",.ref ac,.ref a0,.ref a1])=H41 at *
      have s2041:=s40.trans s41
      have kk41:=Kp.same s2041
      have ev41:=ev20.same s2041
      have fm41:FmAt H41 (.ref qf) (.nd (.wd (zS "if")) [.lf lfc,.lf lf0,.lf lf1]):=mk3 (t:=qf) hf41 rfl (.lf (LfAt.kp gC kk41)) (.lf (LfAt.kp g0 kk41)) (.lf (LfAt.kp g1 kk41))
      have dp41:=DpF.smd (SmD.of s2041) dp20
      have hh41:=hh20.kp kk41
      have lb41:=rd40.b.same s41
      have t341:=s2041 _ _ t320
      rw [eT] at lb41
      have tl1:(chT vc m n hm).length≤100:=by rw [← eT,tabC_len];omega
      have tl2:∀ r∈chT vc m n hm,r.length≤100:=by
        rw [← eT]
        intro r hr
        rw [(tabC_rect (by omega) (by omega)).row r hr];omega
      obtain ⟨psL,hPL,_⟩:=id ev41.tL
      refine ⟨_,rfl,_,rfl,ev41.tL,fun f1 HA nf1 keep1 tab1 lam1=>⟨tab1,fun f2 HB nf2 keep2 tab2 lam2=>?_⟩⟩
      obtain ⟨psM,hPM,_⟩:=id tab1
      obtain ⟨cd1,ctv1,hf1,hc1⟩:=lam1
      obtain ⟨cd2,ctv2,hf2,hc2⟩:=lam2
      have hf1':=keep2 _ _ (ne_of hf1 hPM (by intro z;cases z)) hf1
      have hc1':CodeK HB qL cd1:=hc1.keep fun b o e=>keep2 _ _ (ne_of e hPM (by intro z;cases z)) e
      have sd:=(SmD.tab hPL keep1).trans (SmD.tab hPM keep2)
      have sdd:=sd.trans (SmD.del qL HB)
      have tR6:TabAt HB t.P_reckoned qR:=tab_kx (tab_kx ev41.tR T.ne_reckoned_law hPL keep1) T.ne_reckoned_law hPM keep2
      have tB6:TabAt HB t.P__law_both_asked qB:=tab_kx (tab_kx ev41.tB T.ne__law_both_asked_law hPL keep1) T.ne__law_both_asked_law hPM keep2
      have nkl:kn≠l3:=Ne.symm nk3
      refine ⟨qL,spRckE t.P_reckoned l3 f1 f2 (DpF kn dom g) (fun H _=>H l3=some (.lst [.ref C_.l,.ref A_.l,.ref B_.l])) (sem31 id g) (lg31 g) (okE dom g id (sem31 id g) (lg31 g)),fun base' W=>?_,?_⟩
      · refine ok_reckoned (fo:=id) T ?_ ?_ (dpF_ok nkl) (fix_st l3 _) (hCR.keeps W.sub) (hB.keep W.sub)
        · refine W.lam (k:=0) (ps:=["_law_spot"]) (fv:=["_law_known"]) (js:=[3]) hf1' hc1' ⟨rfl,rfl,rfl,by decide +kernel,(List.forall_mem_cons.mpr ⟨rfl,(List.forall_mem_nil _)⟩),by decide +kernel,by decide +kernel,(List.forall_mem_cons.mpr ⟨⟨rfl,rfl,rfl⟩,(List.forall_mem_nil _)⟩),(List.forall_mem_cons.mpr ⟨rfl,(List.forall_mem_nil _)⟩),(.cons rfl .nil)⟩ (fun us hl=>by obtain ⟨_,rfl⟩:=len_1 hl;rfl) (fun vs H Q E h=>?_) (fun A outer s H vs Q E hr h=>?_)
          · obtain ⟨_,_,_,_,rfl,_⟩:=h
            rfl
          · obtain ⟨q,z,r,c,rfl,hq,⟨kv,hkv,dk⟩,dm,k'⟩:=h
            have hu1:=hu_of hr
            obtain ⟨x,hx,vx⟩:=dk z r c dm
            refine ⟨_,(pe_dget hu1 (pv 1) (pv 0) (fun _ _=>rfl)),?_⟩
            exact ⟨_,rfl,_,rfl,kn,x,rfl,hx▸DGet.t (k:=cK z r c) hkv hq,k' x H vx (Same.refl _)⟩
        · refine W.lam (k:=1) (ps:=["_law_one"]) (fv:=[]) (js:=[]) hf2 hc2 ⟨rfl,rfl,rfl,by decide +kernel,(List.forall_mem_cons.mpr ⟨rfl,(List.forall_mem_nil _)⟩),by decide +kernel,by decide +kernel,(List.forall_mem_nil _),(List.forall_mem_nil _),.nil⟩ (fun us hl=>by obtain ⟨_,rfl⟩:=len_1 hl;rfl) (fun vs H Q E h=>?_) (fun A outer s H vs Q E hr h=>?_)
          · obtain ⟨_,_,_,rfl,_⟩:=h
            rfl
          · obtain ⟨x,v,acc,rfl,hv,okv,nf,hst,hbd,k'⟩:=h
            refine ⟨_,(pv 0),?_⟩
            exact ⟨_,rfl,k' x H hv (KeepX.refl _ _) hst⟩
      refine ⟨.ref qf,.ref qh,(.nd (.wd (zS "if")) [.lf lfc,.lf lf0,.lf lf1]),2,hm,[],rfl,FmAt.kp fm41 sdd.kp,
        (.nd wd_if (List.forall_mem_cons.mpr ⟨.lf (lf_ok lgc),List.forall_mem_cons.mpr ⟨.lf (lf_ok lg0),List.forall_mem_cons.mpr ⟨.lf (lf_ok lg1),List.forall_mem_nil _⟩⟩⟩)),(by decide),
        (fun f hf=>ok31P kc k0 k1 gdc gd0 gd1 (by rw [e0,e1];exact ft) hf),DpF.smd sdd dp41,sdd _ _ t341 rfl,(by rw [lg31P];simp),hh41.kp sdd.kp,tab_del tR6 qRL,fun x HC hx keep3 tab3 st3 hn=>?_⟩
      rw [show sem31 id g hm (.nd (.wd (zS "if")) [.lf lfc,.lf lf0,.lf lf1])=chT vc m n hm from (by show chT (hd0 (lfT g lfc)) (lfT g lf0) (lfT g lf1) hm=_;rw [ec,e0,e1];rfl)] at hx
      obtain ⟨psR,hPR,_⟩:=id tR6
      have hx':=hx.kp (Kp.back hn)
      have t3B:HB l3=some (.lst [.ref C_.l,.ref A_.l,.ref B_.l]):=sd _ _ t341 rfl
      have t3D:L2.put qL HB HC l3=some (.lst [.ref C_.l,.ref A_.l,.ref B_.l]):=by rw [put_out (by rw [t3B];exact dat_kn rfl)];exact st3
      have kx:KeepX t.P_reckoned HB (L2.put qL HB HC):=fun b o hb e=>by
        by_cases z:b=l3
        · subst z;rw [t3B] at e;cases e;exact t3D
        · exact keep_put2 keep3 b o hb z e
      have se:=sd.trans (SmD.tab hPR kx)
      have evD:Env9 K (a,ns) t.P_reckoned t.P__law_both_asked t.P_law (L2.put qL HB HC) p _:=⟨ev41.pen.smd se,tab_back tab3 hn,tab_kx tB6 (Ne.symm T.ne_reckoned__law_both_asked) hPR kx,tab_kx tab2 (Ne.symm T.ne_reckoned_law) hPR kx⟩
      generalize L2.put qL HB HC=HD at *
      have lbD:=LB.smd lb41 se
      refine ⟨_,rfl,_,rfl,_,_,_,rfl,lbD.ob,lbD.ls,(by rw [lbD.len];exact tl1),fun xt HT hxt s2=>?_⟩
      refine ⟨x,xt,_,rfl,(hx'.kp (Kp.same s2)).trT tl1 tl2,(lbD.tb s2 hxt).trT tl1 tl2,fun HE s3=>⟨true,rfl,iteF ?_⟩⟩
      have sf:=((SmD.of s2041).trans se).trans (SmD.of (s2.trans s3))
      have evE:=evD.same (s2.trans s3)
      have cE:=c20.smd sf
      refine ⟨_,rfl,_,rfl,Dl,_,_,_,rfl,rfl,SqL.of (sf _ _ hD20 rfl),rfl,_,rfl,_,rfl,?_⟩
      refine ⟨p,kn,qh,.ref ac,_,(a,ns),kvs,hm,C_.rows,[[vc]],C_.h,C_.w,rfl,evE.pen,(by omega),sf _ _ hkn20 rfl,(by omega),lyC.kp sf.kp,cE.vt,cE.ml,cE.ok,cE.d.h1,cE.d.h16,cE.d.w1,cE.d.w8,hh20.kp sf.kp,evE.tR,evE.tB,fun HZ penZ tRZ tBZ keepZ=>⟨true,rfl,iteF ?_⟩⟩
      obtain ⟨_,opE⟩:=evE.pen.ob
      obtain ⟨_,oRE,_⟩:=id evE.tR
      obtain ⟨_,oBE,_⟩:=id evE.tB
      have tLZ:TabAt HZ t.P_law qL:=tab_k4 evE.tL opE (sf _ _ hkn20 rfl) oRE oBE (Ne.symm T.ne_reckoned_law) (Ne.symm T.ne__law_both_asked_law) keepZ
      exact ⟨_,_,_,_,_,_,_,_,_,_,_,_,_,_,_,_,_,_,rfl,(show Env9 K (a,ns) t.P_reckoned t.P__law_both_asked t.P_law HZ p _ from ⟨penZ,tRZ,tBZ,tLZ⟩).mono (by omega)⟩
    · rintro σ H2 ⟨x2,x3,x4,x5,x6,x7,x8,x9,x10,x11,x12,x13,x14,x15,x16,x17,x18,x19,rfl,ev2⟩
      exact k _
end
theorem all_mk {l:PySem.W.OpenLaw}{w:World}{K:PySem.W.Frag}{h:Heap}{q:Program}{loose:List Str}{mean:ExcName→Option Value}{mg mb:Str→Option Value}{fa:Addr}(X:K.In h)(T0:PyProof.Rows.Top q loose mean mg mb h)(hfa:mg "law"=some (.ref fa))
    {w_PART_PLACES:Addr} {o_PART_PLACES:Obj} {w_ONE_PLACE:Addr} {o_ONE_PLACE:Obj} {f0 f1 f2 f3 f4 f5 f6 f7 f8 f9 f10 f11 f12 f13 f14 f15 f16 f17 f18 f19 f20 f21 f22 f23 f24 f25 f26 f27 f28 f29 f30 f31 f32 f33:Addr} {od0 an0 od1 an1 od2 an2 od3 an3 od4 an4 od5 an5 od6 an6 od7 an7 od8 an8 od9 an9 od10 an10 od11 an11 od12 an12 od13 an13 od14 an14 od15 an15 od16 an16 od17 an17 od18 an18 od19 an19 od20 an20 od21 an21 od22 an22 od23 an23 od24 an24 od25 an25 od26 an26 od27 an27 od28 an28 od29 an29 od30 an30 od31 an31 od32 an32 od33 an33:Option Addr} {sl0 sl1 sl2 sl3 sl4 sl5 sl6 sl7 sl8 sl9 sl10 sl11 sl12 sl13 sl14 sl15 sl16 sl17 sl18 sl19 sl20 sl21 sl22 sl23 sl24 sl25 sl26 sl27 sl28 sl29 sl30 sl31 sl32 sl33:Array (Option Value)} {oc0 kV0 dc0 pm0 cd0 ct0 oc1 kV1 dc1 pm1 cd1 ct1 oc2 kV2 dc2 pm2 cd2 ct2 oc3 kV3 dc3 pm3 cd3 ct3 oc4 kV4 dc4 pm4 cd4 ct4 oc5 kV5 dc5 pm5 cd5 ct5 oc6 kV6 dc6 pm6 cd6 ct6 oc7 kV7 dc7 pm7 cd7 ct7 oc8 kV8 dc8 pm8 cd8 ct8 oc9 kV9 dc9 pm9 cd9 ct9 oc10 kV10 dc10 pm10 cd10 ct10 oc11 kV11 dc11 pm11 cd11 ct11 oc12 kV12 dc12 pm12 cd12 ct12 oc13 kV13 dc13 pm13 cd13 ct13 oc14 kV14 dc14 pm14 cd14 ct14 oc15 kV15 dc15 pm15 cd15 ct15 oc16 kV16 dc16 pm16 cd16 ct16 oc17 kV17 dc17 pm17 cd17 ct17 oc18 kV18 dc18 pm18 cd18 ct18 oc19 kV19 dc19 pm19 cd19 ct19 oc20 kV20 dc20 pm20 cd20 ct20 oc21 kV21 dc21 pm21 cd21 ct21 oc22 kV22 dc22 pm22 cd22 ct22 oc23 kV23 dc23 pm23 cd23 ct23 oc24 kV24 dc24 pm24 cd24 ct24 oc25 kV25 dc25 pm25 cd25 ct25 oc26 kV26 dc26 pm26 cd26 ct26 oc27 kV27 dc27 pm27 cd27 ct27 oc28 kV28 dc28 pm28 cd28 ct28 oc29 kV29 dc29 pm29 cd29 ct29 oc30 kV30 dc30 pm30 cd30 ct30 oc31 kV31 dc31 pm31 cd31 ct31 oc32 kV32 dc32 pm32 cd32 ct32 oc33 kV33 dc33 pm33 cd33 ct33:Value} {cc_reckoned pp_reckoned cc__law_both_asked pp__law_both_asked cc_law pp_law:Addr}
    (a0:PySem.W.nsIn K mainGlobals "fitted_shape"=some (some (.ref f0))) (l0:K.lookup f0=some ⟨oc0,od0,.func (PySem.W.fnOf "fitted_shape" "fitted_shape" (defArgs s_fitted_shape) (defBody s_fitted_shape) (defScope s_fitted_shape) .none kV0 dc0 pm0 an0 cd0 ct0),sl0⟩) (c0:PySem.W.codeIn K cd0 "fitted_shape"=true) (k0:PySem.W.keepIn K (.ref f0)=true)
    (a1:PySem.W.nsIn K mainGlobals "table_shape"=some (some (.ref f1))) (l1:K.lookup f1=some ⟨oc1,od1,.func (PySem.W.fnOf "table_shape" "table_shape" (defArgs s_table_shape) (defBody s_table_shape) (defScope s_table_shape) .none kV1 dc1 pm1 an1 cd1 ct1),sl1⟩) (c1:PySem.W.codeIn K cd1 "table_shape"=true) (k1:PySem.W.keepIn K (.ref f1)=true)
    (a2:PySem.W.nsIn K mainGlobals "filled_table"=some (some (.ref f2))) (l2:K.lookup f2=some ⟨oc2,od2,.func (PySem.W.fnOf "filled_table" "filled_table" (defArgs s_filled_table) (defBody s_filled_table) (defScope s_filled_table) .none kV2 dc2 pm2 an2 cd2 ct2),sl2⟩) (c2:PySem.W.codeIn K cd2 "filled_table"=true) (k2:PySem.W.keepIn K (.ref f2)=true)
    (a3:PySem.W.nsIn K mainGlobals "spread_table"=some (some (.ref f3))) (l3:K.lookup f3=some ⟨oc3,od3,.func (PySem.W.fnOf "spread_table" "spread_table" (defArgs s_spread_table) (defBody s_spread_table) (defScope s_spread_table) .none kV3 dc3 pm3 an3 cd3 ct3),sl3⟩) (c3:PySem.W.codeIn K cd3 "spread_table"=true) (k3:PySem.W.keepIn K (.ref f3)=true)
    (a4:PySem.W.nsIn K mainGlobals "table_in_rows"=some (some (.ref f4))) (l4:K.lookup f4=some ⟨oc4,od4,.func (PySem.W.fnOf "table_in_rows" "table_in_rows" (defArgs s_table_in_rows) (defBody s_table_in_rows) (defScope s_table_in_rows) .none kV4 dc4 pm4 an4 cd4 ct4),sl4⟩) (c4:PySem.W.codeIn K cd4 "table_in_rows"=true) (k4:PySem.W.keepIn K (.ref f4)=true)
    (a5:PySem.W.nsIn K mainGlobals "chosen_table"=some (some (.ref f5))) (l5:K.lookup f5=some ⟨oc5,od5,.func (PySem.W.fnOf "chosen_table" "chosen_table" (defArgs s_chosen_table) (defBody s_chosen_table) (defScope s_chosen_table) .none kV5 dc5 pm5 an5 cd5 ct5),sl5⟩) (c5:PySem.W.codeIn K cd5 "chosen_table"=true) (k5:PySem.W.keepIn K (.ref f5)=true)
    (a6:PySem.W.nsIn K mainGlobals "cells_of"=some (some (.ref f6))) (l6:K.lookup f6=some ⟨oc6,od6,.func (PySem.W.fnOf "cells_of" "cells_of" (defArgs s_cells_of) (defBody s_cells_of) (defScope s_cells_of) .none kV6 dc6 pm6 an6 cd6 ct6),sl6⟩) (c6:PySem.W.codeIn K cd6 "cells_of"=true) (k6:PySem.W.keepIn K (.ref f6)=true)
    (a7:PySem.W.nsIn K mainGlobals "table_of_one"=some (some (.ref f7))) (l7:K.lookup f7=some ⟨oc7,od7,.func (PySem.W.fnOf "table_of_one" "table_of_one" (defArgs s_table_of_one) (defBody s_table_of_one) (defScope s_table_of_one) .none kV7 dc7 pm7 an7 cd7 ct7),sl7⟩) (c7:PySem.W.codeIn K cd7 "table_of_one"=true) (k7:PySem.W.keepIn K (.ref f7)=true)
    (a8:PySem.W.nsIn K mainGlobals "parts_of"=some (some (.ref f8))) (l8:K.lookup f8=some ⟨oc8,od8,.func (PySem.W.fnOf "parts_of" "parts_of" (defArgs s_parts_of) (defBody s_parts_of) (defScope s_parts_of) .none kV8 dc8 pm8 an8 cd8 ct8),sl8⟩) (c8:PySem.W.codeIn K cd8 "parts_of"=true) (k8:PySem.W.keepIn K (.ref f8)=true)
    (a9:PySem.W.nsIn K mainGlobals "block_led_to"=some (some (.ref f9))) (l9:K.lookup f9=some ⟨oc9,od9,.func (PySem.W.fnOf "block_led_to" "block_led_to" (defArgs s_block_led_to) (defBody s_block_led_to) (defScope s_block_led_to) .none kV9 dc9 pm9 an9 cd9 ct9),sl9⟩) (c9:PySem.W.codeIn K cd9 "block_led_to"=true) (k9:PySem.W.keepIn K (.ref f9)=true)
    (a10:PySem.W.nsIn K mainGlobals "all_parts"=some (some (.ref f10))) (l10:K.lookup f10=some ⟨oc10,od10,.func (PySem.W.fnOf "all_parts" "all_parts" (defArgs s_all_parts) (defBody s_all_parts) (defScope s_all_parts) .none kV10 dc10 pm10 an10 cd10 ct10),sl10⟩) (c10:PySem.W.codeIn K cd10 "all_parts"=true) (k10:PySem.W.keepIn K (.ref f10)=true)
    (a11:PySem.W.nsIn K mainGlobals "told_by_parts"=some (some (.ref f11))) (l11:K.lookup f11=some ⟨oc11,od11,.func (PySem.W.fnOf "told_by_parts" "told_by_parts" (defArgs s_told_by_parts) (defBody s_told_by_parts) (defScope s_told_by_parts) .none kV11 dc11 pm11 an11 cd11 ct11),sl11⟩) (c11:PySem.W.codeIn K cd11 "told_by_parts"=true) (k11:PySem.W.keepIn K (.ref f11)=true)
    (a12:PySem.W.nsIn K mainGlobals "block_shape"=some (some (.ref f12))) (l12:K.lookup f12=some ⟨oc12,od12,.func (PySem.W.fnOf "block_shape" "block_shape" (defArgs s_block_shape) (defBody s_block_shape) (defScope s_block_shape) .none kV12 dc12 pm12 an12 cd12 ct12),sl12⟩) (c12:PySem.W.codeIn K cd12 "block_shape"=true) (k12:PySem.W.keepIn K (.ref f12)=true)
    (a13:PySem.W.nsIn K mainGlobals "shown_table"=some (some (.ref f13))) (l13:K.lookup f13=some ⟨oc13,od13,.func (PySem.W.fnOf "shown_table" "shown_table" (defArgs s_shown_table) (defBody s_shown_table) (defScope s_shown_table) .none kV13 dc13 pm13 an13 cd13 ct13),sl13⟩) (c13:PySem.W.codeIn K cd13 "shown_table"=true) (k13:PySem.W.keepIn K (.ref f13)=true)
    (a14:PySem.W.nsIn K mainGlobals "leaf_table"=some (some (.ref f14))) (l14:K.lookup f14=some ⟨oc14,od14,.func (PySem.W.fnOf "leaf_table" "leaf_table" (defArgs s_leaf_table) (defBody s_leaf_table) (defScope s_leaf_table) .none kV14 dc14 pm14 an14 cd14 ct14),sl14⟩) (c14:PySem.W.codeIn K cd14 "leaf_table"=true) (k14:PySem.W.keepIn K (.ref f14)=true)
    (a15:PySem.W.nsIn K mainGlobals "outer_value"=some (some (.ref f15))) (l15:K.lookup f15=some ⟨oc15,od15,.func (PySem.W.fnOf "outer_value" "outer_value" (defArgs s_outer_value) (defBody s_outer_value) (defScope s_outer_value) .none kV15 dc15 pm15 an15 cd15 ct15),sl15⟩) (c15:PySem.W.codeIn K cd15 "outer_value"=true) (k15:PySem.W.keepIn K (.ref f15)=true)
    (a16:PySem.W.nsIn K mainGlobals "single_value"=some (some (.ref f16))) (l16:K.lookup f16=some ⟨oc16,od16,.func (PySem.W.fnOf "single_value" "single_value" (defArgs s_single_value) (defBody s_single_value) (defScope s_single_value) .none kV16 dc16 pm16 an16 cd16 ct16),sl16⟩) (c16:PySem.W.codeIn K cd16 "single_value"=true) (k16:PySem.W.keepIn K (.ref f16)=true)
    (a17:PySem.W.nsIn K mainGlobals "table_by_parts"=some (some (.ref f17))) (l17:K.lookup f17=some ⟨oc17,od17,.func (PySem.W.fnOf "table_by_parts" "table_by_parts" (defArgs s_table_by_parts) (defBody s_table_by_parts) (defScope s_table_by_parts) .none kV17 dc17 pm17 an17 cd17 ct17),sl17⟩) (c17:PySem.W.codeIn K cd17 "table_by_parts"=true) (k17:PySem.W.keepIn K (.ref f17)=true)
    (a18:PySem.W.nsIn K mainGlobals "reckoned"=some (some (.ref f18))) (l18:K.lookup f18=some ⟨oc18,od18,.func (PySem.W.fnOf "reckoned" "reckoned" (defArgs s_reckoned) (defBody s_reckoned) (defScope s_reckoned) .none kV18 dc18 pm18 an18 cd18 ct18),sl18⟩) (c18:PySem.W.codeIn K cd18 "reckoned"=true) (k18:PySem.W.keepIn K (.ref f18)=true)
    (a19:PySem.W.nsIn K mainGlobals "_law_lowest"=some (some (.ref f19))) (l19:K.lookup f19=some ⟨oc19,od19,.func (PySem.W.fnOf "_law_lowest" "_law_lowest" (defArgs s__law_lowest) (defBody s__law_lowest) (defScope s__law_lowest) .none kV19 dc19 pm19 an19 cd19 ct19),sl19⟩) (c19:PySem.W.codeIn K cd19 "_law_lowest"=true) (k19:PySem.W.keepIn K (.ref f19)=true)
    (a20:PySem.W.nsIn K mainGlobals "_law_cell_at"=some (some (.ref f20))) (l20:K.lookup f20=some ⟨oc20,od20,.func (PySem.W.fnOf "_law_cell_at" "_law_cell_at" (defArgs s__law_cell_at) (defBody s__law_cell_at) (defScope s__law_cell_at) .none kV20 dc20 pm20 an20 cd20 ct20),sl20⟩) (c20:PySem.W.codeIn K cd20 "_law_cell_at"=true) (k20:PySem.W.keepIn K (.ref f20)=true)
    (a21:PySem.W.nsIn K mainGlobals "_law_pen"=some (some (.ref f21))) (l21:K.lookup f21=some ⟨oc21,od21,.func (PySem.W.fnOf "_law_pen" "_law_pen" (defArgs s__law_pen) (defBody s__law_pen) (defScope s__law_pen) .none kV21 dc21 pm21 an21 cd21 ct21),sl21⟩) (c21:PySem.W.codeIn K cd21 "_law_pen"=true) (k21:PySem.W.keepIn K (.ref f21)=true)
    (a22:PySem.W.nsIn K mainGlobals "_law_take"=some (some (.ref f22))) (l22:K.lookup f22=some ⟨oc22,od22,.func (PySem.W.fnOf "_law_take" "_law_take" (defArgs s__law_take) (defBody s__law_take) (defScope s__law_take) .none kV22 dc22 pm22 an22 cd22 ct22),sl22⟩) (c22:PySem.W.codeIn K cd22 "_law_take"=true) (k22:PySem.W.keepIn K (.ref f22)=true)
    (a23:PySem.W.nsIn K mainGlobals "_law_drawn_cell"=some (some (.ref f23))) (l23:K.lookup f23=some ⟨oc23,od23,.func (PySem.W.fnOf "_law_drawn_cell" "_law_drawn_cell" (defArgs s__law_drawn_cell) (defBody s__law_drawn_cell) (defScope s__law_drawn_cell) .none kV23 dc23 pm23 an23 cd23 ct23),sl23⟩) (c23:PySem.W.codeIn K cd23 "_law_drawn_cell"=true) (k23:PySem.W.keepIn K (.ref f23)=true)
    (a24:PySem.W.nsIn K mainGlobals "_law_great_value"=some (some (.ref f24))) (l24:K.lookup f24=some ⟨oc24,od24,.func (PySem.W.fnOf "_law_great_value" "_law_great_value" (defArgs s__law_great_value) (defBody s__law_great_value) (defScope s__law_great_value) .none kV24 dc24 pm24 an24 cd24 ct24),sl24⟩) (c24:PySem.W.codeIn K cd24 "_law_great_value"=true) (k24:PySem.W.keepIn K (.ref f24)=true)
    (a25:PySem.W.nsIn K mainGlobals "_law_drawn_value"=some (some (.ref f25))) (l25:K.lookup f25=some ⟨oc25,od25,.func (PySem.W.fnOf "_law_drawn_value" "_law_drawn_value" (defArgs s__law_drawn_value) (defBody s__law_drawn_value) (defScope s__law_drawn_value) .none kV25 dc25 pm25 an25 cd25 ct25),sl25⟩) (c25:PySem.W.codeIn K cd25 "_law_drawn_value"=true) (k25:PySem.W.keepIn K (.ref f25)=true)
    (a26:PySem.W.nsIn K mainGlobals "_law_drawn_table"=some (some (.ref f26))) (l26:K.lookup f26=some ⟨oc26,od26,.func (PySem.W.fnOf "_law_drawn_table" "_law_drawn_table" (defArgs s__law_drawn_table) (defBody s__law_drawn_table) (defScope s__law_drawn_table) .none kV26 dc26 pm26 an26 cd26 ct26),sl26⟩) (c26:PySem.W.codeIn K cd26 "_law_drawn_table"=true) (k26:PySem.W.keepIn K (.ref f26)=true)
    (a27:PySem.W.nsIn K mainGlobals "_law_laid"=some (some (.ref f27))) (l27:K.lookup f27=some ⟨oc27,od27,.func (PySem.W.fnOf "_law_laid" "_law_laid" (defArgs s__law_laid) (defBody s__law_laid) (defScope s__law_laid) .none kV27 dc27 pm27 an27 cd27 ct27),sl27⟩) (c27:PySem.W.codeIn K cd27 "_law_laid"=true) (k27:PySem.W.keepIn K (.ref f27)=true)
    (a28:PySem.W.nsIn K mainGlobals "_law_put_down"=some (some (.ref f28))) (l28:K.lookup f28=some ⟨oc28,od28,.func (PySem.W.fnOf "_law_put_down" "_law_put_down" (defArgs s__law_put_down) (defBody s__law_put_down) (defScope s__law_put_down) .none kV28 dc28 pm28 an28 cd28 ct28),sl28⟩) (c28:PySem.W.codeIn K cd28 "_law_put_down"=true) (k28:PySem.W.keepIn K (.ref f28)=true)
    (a29:PySem.W.nsIn K mainGlobals "_law_typed_alike"=some (some (.ref f29))) (l29:K.lookup f29=some ⟨oc29,od29,.func (PySem.W.fnOf "_law_typed_alike" "_law_typed_alike" (defArgs s__law_typed_alike) (defBody s__law_typed_alike) (defScope s__law_typed_alike) .none kV29 dc29 pm29 an29 cd29 ct29),sl29⟩) (c29:PySem.W.codeIn K cd29 "_law_typed_alike"=true) (k29:PySem.W.keepIn K (.ref f29)=true)
    (a30:PySem.W.nsIn K mainGlobals "_law_tabled"=some (some (.ref f30))) (l30:K.lookup f30=some ⟨oc30,od30,.func (PySem.W.fnOf "_law_tabled" "_law_tabled" (defArgs s__law_tabled) (defBody s__law_tabled) (defScope s__law_tabled) .none kV30 dc30 pm30 an30 cd30 ct30),sl30⟩) (c30:PySem.W.codeIn K cd30 "_law_tabled"=true) (k30:PySem.W.keepIn K (.ref f30)=true)
    (a31:PySem.W.nsIn K mainGlobals "_law_note"=some (some (.ref f31))) (l31:K.lookup f31=some ⟨oc31,od31,.func (PySem.W.fnOf "_law_note" "_law_note" (defArgs s__law_note) (defBody s__law_note) (defScope s__law_note) .none kV31 dc31 pm31 an31 cd31 ct31),sl31⟩) (c31:PySem.W.codeIn K cd31 "_law_note"=true) (k31:PySem.W.keepIn K (.ref f31)=true)
    (a32:PySem.W.nsIn K mainGlobals "_law_both_asked"=some (some (.ref f32))) (l32:K.lookup f32=some ⟨oc32,od32,.func (PySem.W.fnOf "_law_both_asked" "_law_both_asked" (defArgs s__law_both_asked) (defBody s__law_both_asked) (defScope s__law_both_asked) .none kV32 dc32 pm32 an32 cd32 ct32),sl32⟩) (c32:PySem.W.codeIn K cd32 "_law_both_asked"=true) (k32:PySem.W.keepIn K (.ref f32)=true)
    (a33:PySem.W.nsIn K mainGlobals "law"=some (some (.ref f33))) (l33:K.lookup f33=some ⟨oc33,od33,.func (PySem.W.fnOf "law" "law" (defArgs s_law) (defBody s_law) (defScope s_law) .none kV33 dc33 pm33 an33 cd33 ct33),sl33⟩) (c33:PySem.W.codeIn K cd33 "law"=true) (k33:PySem.W.keepIn K (.ref f33)=true)
    (z_len:PySem.W.nsIn K mainGlobals "len"=some none)
    (z_range:PySem.W.nsIn K mainGlobals "range"=some none)
    (z_isinstance:PySem.W.nsIn K mainGlobals "isinstance"=some none)
    (z_int:PySem.W.nsIn K mainGlobals "int"=some none)
    (z_bool:PySem.W.nsIn K mainGlobals "bool"=some none)
    (z_str:PySem.W.nsIn K mainGlobals "str"=some none)
    (z_tuple:PySem.W.nsIn K mainGlobals "tuple"=some none)
    (z_list:PySem.W.nsIn K mainGlobals "list"=some none)
    (z_reversed:PySem.W.nsIn K mainGlobals "reversed"=some none)
    (z_min:PySem.W.nsIn K mainGlobals "min"=some none)
    (z_all:PySem.W.nsIn K mainGlobals "all"=some none)
    (z_abs:PySem.W.nsIn K mainGlobals "abs"=some none)
    (z_enumerate:PySem.W.nsIn K mainGlobals "enumerate"=some none)
    (g_PART_PLACES:PySem.W.nsIn K mainGlobals "PART_PLACES"=some (some (.ref w_PART_PLACES)))
    (h_PART_PLACES:K.lookup w_PART_PLACES=some o_PART_PLACES)
    (r_PART_PLACES:∃ kvs,DicO w o_PART_PLACES kvs∧Paired (fun (kv:Key×V) (kt:Key×List V)=>kv.1=kt.1∧∃ a,kv.2=.ref a∧∀ H,SqT K H a kt.2) kvs PPK)
    (n_PART_PLACES:(w_PART_PLACES==sysModules)=false)
    (g_ONE_PLACE:PySem.W.nsIn K mainGlobals "ONE_PLACE"=some (some (.ref w_ONE_PLACE)))
    (h_ONE_PLACE:K.lookup w_ONE_PLACE=some o_ONE_PLACE)
    (r_ONE_PLACE:o_ONE_PLACE.cls=.type "tuple"∧∃ its n,o_ONE_PLACE.data=.seq its n∧its.size≤sizeLine∧Vals [V.int 1,V.int 1] its.toList)
    (kist:PySem.W.kitOne K (.type "str") (.type "tuple")=some false)
    (kiit:PySem.W.kitOne K (.type "int") (.type "tuple")=some false)
    (kib:PySem.W.kitOne K (.type "int") (.type "bool")=some false)
    (ki_bt:PySem.W.kitOne K (.type "bool") (.type "tuple")=some false)
    (ki_sb:PySem.W.kitOne K (.type "str") (.type "bool")=some false)
    (ki_si:PySem.W.kitOne K (.type "str") (.type "int")=some false)
    (t_reckoned:PySem.W.tabIn K "reckoned"=some (cc_reckoned,pp_reckoned)) (rr_reckoned:(PyProof.Rows.recsOf q).any (fun e=>e.name == "reckoned")=true)
    (t__law_both_asked:PySem.W.tabIn K "_law_both_asked"=some (cc__law_both_asked,pp__law_both_asked)) (rr__law_both_asked:(PyProof.Rows.recsOf q).any (fun e=>e.name == "_law_both_asked")=true)
    (t_law:PySem.W.tabIn K "law"=some (cc_law,pp_law)) (rr_law:(PyProof.Rows.recsOf q).any (fun e=>e.name == "law")=true)
    (nn_reckoned__law_both_asked:pp_reckoned≠pp__law_both_asked)
    (nn_reckoned_law:pp_reckoned≠pp_law)
    (nn__law_both_asked_law:pp__law_both_asked≠pp_law):
    ∃ (fd:FuncData) (tabs:List (Addr×Addr)) (sp:Sp),(∀ (s:Shared) (v:Value),BindsTo s fd ⟨[v],[]⟩ [("_law_script",v)])∧PySem.W.TabsAt tabs h∧(∀ (H:Hp) (a:Addr) (ns:List Int),ns.length≤63→(∀ q∈tabs,H q.2=some (.tbl #[]))→SqL K H a (ns.map V.int)→sp [.ref a] H (fun v _=>v=.bl true) E0)∧∀ base:Heap,K.In base→base.Ns mainGlobals mg→(∀ q∈tabs,PySem.W.CodeHd base q.1 q.2)→BM mg base→FnOk l.prog w K mg base CX0 14 fa fd ["_law_script"] sp:=by
  have G:=T0.g
  have e:=hfa.symm.trans (PySem.W.mg_of X G a33)
  cases e
  have F0:=fun_mk (st:=s_fitted_shape) l0 c0 k0
  have b0:=F0.binds (ps:=["one","other"]) fun _ _ _ _ _ _ us hl=>by obtain ⟨_,_,rfl⟩:=len_2 hl;rfl
  have F1:=fun_mk (st:=s_table_shape) l1 c1 k1
  have b1:=F1.binds (ps:=["table"]) fun _ _ _ _ _ _ us hl=>by obtain ⟨_,rfl⟩:=len_1 hl;rfl
  have F2:=fun_mk (st:=s_filled_table) l2 c2 k2
  have b2:=F2.binds (ps:=["shape","value"]) fun _ _ _ _ _ _ us hl=>by obtain ⟨_,_,rfl⟩:=len_2 hl;rfl
  have F3:=fun_mk (st:=s_spread_table) l3 c3 k3
  have b3:=F3.binds (ps:=["table","shape"]) fun _ _ _ _ _ _ us hl=>by obtain ⟨_,_,rfl⟩:=len_2 hl;rfl
  have F4:=fun_mk (st:=s_table_in_rows) l4 c4 k4
  have b4:=F4.binds (ps:=["values","wide"]) fun _ _ _ _ _ _ us hl=>by obtain ⟨_,_,rfl⟩:=len_2 hl;rfl
  have F5:=fun_mk (st:=s_chosen_table) l5 c5 k5
  have b5:=F5.binds (ps:=["condition","one","other","cell"]) fun _ _ _ _ _ _ us hl=>by obtain ⟨_,_,_,_,rfl⟩:=len_4 hl;rfl
  have F6:=fun_mk (st:=s_cells_of) l6 c6 k6
  have b6:=F6.binds (ps:=["block"]) fun _ _ _ _ _ _ us hl=>by obtain ⟨_,rfl⟩:=len_1 hl;rfl
  have F7:=fun_mk (st:=s_table_of_one) l7 c7 k7
  have b7:=F7.binds (ps:=["value"]) fun _ _ _ _ _ _ us hl=>by obtain ⟨_,rfl⟩:=len_1 hl;rfl
  have F8:=fun_mk (st:=s_parts_of) l8 c8 k8
  have b8:=F8.binds (ps:=["formula"]) fun _ _ _ _ _ _ us hl=>by obtain ⟨_,rfl⟩:=len_1 hl;rfl
  have F9:=fun_mk (st:=s_block_led_to) l9 c9 k9
  have b9:=F9.binds (ps:=["reference"]) fun _ _ _ _ _ _ us hl=>by obtain ⟨_,rfl⟩:=len_1 hl;rfl
  have F10:=fun_mk (st:=s_all_parts) l10 c10 k10
  have b10:=F10.binds (ps:=["formula"]) fun _ _ _ _ _ _ us hl=>by obtain ⟨_,rfl⟩:=len_1 hl;rfl
  have F11:=fun_mk (st:=s_told_by_parts) l11 c11 k11
  have b11:=F11.binds (ps:=["row","tell_one"]) fun _ _ _ _ _ _ us hl=>by obtain ⟨_,_,rfl⟩:=len_2 hl;rfl
  have F12:=fun_mk (st:=s_block_shape) l12 c12 k12
  have b12:=F12.binds (ps:=["block"]) fun _ _ _ _ _ _ us hl=>by obtain ⟨_,rfl⟩:=len_1 hl;rfl
  have F13:=fun_mk (st:=s_shown_table) l13 c13 k13
  have b13:=F13.binds (ps:=["block","shows"]) fun _ _ _ _ _ _ us hl=>by obtain ⟨_,_,rfl⟩:=len_2 hl;rfl
  have F14:=fun_mk (st:=s_leaf_table) l14 c14 k14
  have b14:=F14.binds (ps:=["leaf","cell","shows"]) fun _ _ _ _ _ _ us hl=>by obtain ⟨_,_,_,rfl⟩:=len_3 hl;rfl
  have F15:=fun_mk (st:=s_outer_value) l15 c15 k15
  have b15:=F15.binds (ps:=["value","outer"]) fun _ _ _ _ _ _ us hl=>by obtain ⟨_,_,rfl⟩:=len_2 hl;rfl
  have F16:=fun_mk (st:=s_single_value) l16 c16 k16
  have b16:=F16.binds (ps:=["formula","tables","cell","outer"]) fun _ _ _ _ _ _ us hl=>by obtain ⟨_,_,_,_,rfl⟩:=len_4 hl;rfl
  have F17:=fun_mk (st:=s_table_by_parts) l17 c17 k17
  have b17:=F17.binds (ps:=["formula","tables","cell","shows","outer"]) fun _ _ _ _ _ _ us hl=>by obtain ⟨_,_,_,_,_,rfl⟩:=len_5 hl;rfl
  have F18:=fun_mk (st:=s_reckoned) l18 c18 k18
  have b18:=F18.binds (ps:=["opened","cell","shows","outer"]) fun _ _ _ _ _ _ us hl=>by obtain ⟨_,_,_,_,rfl⟩:=len_4 hl;rfl
  have F19:=fun_mk (st:=s__law_lowest) l19 c19 k19
  have b19:=F19.binds (ps:=["_law_top","_law_bottom"]) fun _ _ _ _ _ _ us hl=>by obtain ⟨_,_,rfl⟩:=len_2 hl;rfl
  have F20:=fun_mk (st:=s__law_cell_at) l20 c20 k20
  have b20:=F20.binds (ps:=["_law_script","_law_k"]) fun _ _ _ _ _ _ us hl=>by obtain ⟨_,_,rfl⟩:=len_2 hl;rfl
  have F21:=fun_mk (st:=s__law_pen) l21 c21 k21
  have b21:=F21.binds (ps:=["_law_script"]) fun _ _ _ _ _ _ us hl=>by obtain ⟨_,rfl⟩:=len_1 hl;rfl
  have F22:=fun_mk (st:=s__law_take) l22 c22 k22
  have b22:=F22.binds (ps:=["_law_pen_here","_law_most"]) fun _ _ _ _ _ _ us hl=>by obtain ⟨_,_,rfl⟩:=len_2 hl;rfl
  have F23:=fun_mk (st:=s__law_drawn_cell) l23 c23 k23
  have b23:=F23.binds (ps:=["_law_pen_here"]) fun _ _ _ _ _ _ us hl=>by obtain ⟨_,rfl⟩:=len_1 hl;rfl
  have F24:=fun_mk (st:=s__law_great_value) l24 c24 k24
  have b24:=F24.binds (ps:=["_law_pen_here"]) fun _ _ _ _ _ _ us hl=>by obtain ⟨_,rfl⟩:=len_1 hl;rfl
  have F25:=fun_mk (st:=s__law_drawn_value) l25 c25 k25
  have b25:=F25.binds (ps:=["_law_pen_here"]) fun _ _ _ _ _ _ us hl=>by obtain ⟨_,rfl⟩:=len_1 hl;rfl
  have F26:=fun_mk (st:=s__law_drawn_table) l26 c26 k26
  have b26:=F26.binds (ps:=["_law_pen_here","_law_high","_law_wide"]) fun _ _ _ _ _ _ us hl=>by obtain ⟨_,_,_,rfl⟩:=len_3 hl;rfl
  have F27:=fun_mk (st:=s__law_laid) l27 c27 k27
  have b27:=F27.binds (ps:=["_law_known","_law_sheet","_law_table","_law_high","_law_wide"]) fun _ _ _ _ _ _ us hl=>by obtain ⟨_,_,_,_,_,rfl⟩:=len_5 hl;rfl
  have F28:=fun_mk (st:=s__law_put_down) l28 c28 k28
  have b28:=F28.binds (ps:=["_law_pen_here","_law_known","_law_sheet","_law_table"]) fun _ _ _ _ _ _ us hl=>by obtain ⟨_,_,_,_,rfl⟩:=len_4 hl;rfl
  have F29:=fun_mk (st:=s__law_typed_alike) l29 c29 k29
  have b29:=F29.binds (ps:=["_law_told","_law_due"]) fun _ _ _ _ _ _ us hl=>by obtain ⟨_,_,rfl⟩:=len_2 hl;rfl
  have F30:=fun_mk (st:=s__law_tabled) l30 c30 k30
  have b30:=F30.binds (ps:=["_law_rows"]) fun _ _ _ _ _ _ us hl=>by obtain ⟨_,rfl⟩:=len_1 hl;rfl
  have F31:=fun_mk (st:=s__law_note) l31 c31 k31
  have b31:=F31.binds (ps:=["_law_asked","_law_one"]) fun _ _ _ _ _ _ us hl=>by obtain ⟨_,_,rfl⟩:=len_2 hl;rfl
  have F32:=fun_mk (st:=s__law_both_asked) l32 c32 k32
  have b32:=F32.binds (ps:=["_law_pen_here","_law_condition","_law_known","_law_home"]) fun _ _ _ _ _ _ us hl=>by obtain ⟨_,_,_,_,rfl⟩:=len_4 hl;rfl
  have F33:=fun_mk (st:=s_law) l33 c33 k33
  have b33:=F33.binds (ps:=["_law_script"]) fun _ _ _ _ _ _ us hl=>by obtain ⟨_,rfl⟩:=len_1 hl;rfl
  have T:Txt w K mg ⟨f0,_,f1,_,f2,_,f3,_,f4,_,f5,_,f6,_,f7,_,f8,_,f9,_,f10,_,f11,_,f12,_,f13,_,f14,_,f15,_,f16,_,f17,_,f18,_,f19,_,f20,_,f21,_,f22,_,f23,_,f24,_,f25,_,f26,_,f27,_,f28,_,f29,_,f30,_,f31,_,f32,_,_,_,cc_reckoned,pp_reckoned,cc__law_both_asked,pp__law_both_asked,cc_law,pp_law⟩:=⟨⟨F0,PySem.W.mg_of X G a0,b0⟩,⟨F1,PySem.W.mg_of X G a1,b1⟩,⟨F2,PySem.W.mg_of X G a2,b2⟩,⟨F3,PySem.W.mg_of X G a3,b3⟩,⟨F4,PySem.W.mg_of X G a4,b4⟩,⟨F5,PySem.W.mg_of X G a5,b5⟩,⟨F6,PySem.W.mg_of X G a6,b6⟩,⟨F7,PySem.W.mg_of X G a7,b7⟩,⟨F8,PySem.W.mg_of X G a8,b8⟩,⟨F9,PySem.W.mg_of X G a9,b9⟩,⟨F10,PySem.W.mg_of X G a10,b10⟩,⟨F11,PySem.W.mg_of X G a11,b11⟩,⟨F12,PySem.W.mg_of X G a12,b12⟩,⟨F13,PySem.W.mg_of X G a13,b13⟩,⟨F14,PySem.W.mg_of X G a14,b14⟩,⟨F15,PySem.W.mg_of X G a15,b15⟩,⟨F16,PySem.W.mg_of X G a16,b16⟩,⟨F17,PySem.W.mg_of X G a17,b17⟩,⟨F18,PySem.W.mg_of X G a18,b18⟩,⟨F19,PySem.W.mg_of X G a19,b19⟩,⟨F20,PySem.W.mg_of X G a20,b20⟩,⟨F21,PySem.W.mg_of X G a21,b21⟩,⟨F22,PySem.W.mg_of X G a22,b22⟩,⟨F23,PySem.W.mg_of X G a23,b23⟩,⟨F24,PySem.W.mg_of X G a24,b24⟩,⟨F25,PySem.W.mg_of X G a25,b25⟩,⟨F26,PySem.W.mg_of X G a26,b26⟩,⟨F27,PySem.W.mg_of X G a27,b27⟩,⟨F28,PySem.W.mg_of X G a28,b28⟩,⟨F29,PySem.W.mg_of X G a29,b29⟩,⟨F30,PySem.W.mg_of X G a30,b30⟩,⟨F31,PySem.W.mg_of X G a31,b31⟩,⟨F32,PySem.W.mg_of X G a32,b32⟩,⟨F33,PySem.W.mg_of X G a33,b33⟩,PySem.W.mg_none_of X G z_len,PySem.W.mg_none_of X G z_range,PySem.W.mg_none_of X G z_isinstance,PySem.W.mg_none_of X G z_int,PySem.W.mg_none_of X G z_bool,PySem.W.mg_none_of X G z_str,PySem.W.mg_none_of X G z_tuple,PySem.W.mg_none_of X G z_list,PySem.W.mg_none_of X G z_reversed,PySem.W.mg_none_of X G z_min,PySem.W.mg_none_of X G z_all,PySem.W.mg_none_of X G z_abs,PySem.W.mg_none_of X G z_enumerate,(let ⟨k,d,p⟩:=r_PART_PLACES;⟨k,⟨_,PySem.W.mg_of X G g_PART_PLACES,_,h_PART_PLACES,d,n_PART_PLACES⟩,p⟩),⟨_,_,PySem.W.mg_of X G g_ONE_PLACE,h_ONE_PLACE,r_ONE_PLACE⟩,kist,kiit,kib,ki_bt,ki_sb,ki_si,code_in F18 a18 t_reckoned,code_in F32 a32 t__law_both_asked,code_in F33 a33 t_law,nn_reckoned__law_both_asked,nn_reckoned_law,nn__law_both_asked_law⟩
  have x_reckoned:PySem.W.CodeHd h cc_reckoned pp_reckoned∧h.get? pp_reckoned=some (PySem.W.tabObj #[]):=by
    obtain ⟨d,hd⟩:=rec_of rr_reckoned
    exact PySem.W.tab_of T0 X hd t_reckoned
  have x__law_both_asked:PySem.W.CodeHd h cc__law_both_asked pp__law_both_asked∧h.get? pp__law_both_asked=some (PySem.W.tabObj #[]):=by
    obtain ⟨d,hd⟩:=rec_of rr__law_both_asked
    exact PySem.W.tab_of T0 X hd t__law_both_asked
  have x_law:PySem.W.CodeHd h cc_law pp_law∧h.get? pp_law=some (PySem.W.tabObj #[]):=by
    obtain ⟨d,hd⟩:=rec_of rr_law
    exact PySem.W.tab_of T0 X hd t_law
  refine ⟨_,[(cc_reckoned,pp_reckoned),(cc__law_both_asked,pp__law_both_asked),(cc_law,pp_law)],spLawT K pp_reckoned pp__law_both_asked pp_law,fun s v=>.of_eq rfl,(List.forall_mem_cons.mpr ⟨x_reckoned,(List.forall_mem_cons.mpr ⟨x__law_both_asked,(List.forall_mem_cons.mpr ⟨x_law,List.forall_mem_nil _⟩)⟩)⟩),fun H a ns hl hT hS=>⟨a,ns,rfl,hS,hl,hT (cc_reckoned,pp_reckoned) (by simp),hT (cc__law_both_asked,pp__law_both_asked) (by simp),hT (cc_law,pp_law) (by simp),fun _=>rfl⟩,fun base _ _ hC hB=>ok_law T hC hB⟩
theorem walk {l:PySem.W.OpenLaw}{q:Program}{loose:List Str}{XP:(Str→Option Value)→Heap→Prop}{YP:World→Heap→Prop}{d:DefRec}{K:Params→PySem.W.Frag}(hn:l.most=some 63)(hdf:d.params.defaults=[])
    (hY:∀ (w:World) (h:Heap),YP w h→(K w.params).In h) (hKT:∀ w:World,PySem.W.noTabs (K w.params)=true)
    (F:∀ (w:World) (mean:ExcName→Option Value) (mg mb:Str→Option Value) (fa:Addr) (h:Heap),(K w.params).In h→PyProof.Rows.Top q (PySem.W.looseW q loose) mean mg mb h→mg d.name=some (.ref fa)→
      ∃ (fd:FuncData) (tabs:List (Addr×Addr)) (sp:Sp),(∀ (s:Shared) (v:Value),BindsTo s fd ⟨[v],[]⟩ [("_law_script",v)])∧PySem.W.TabsAt tabs h∧(∀ (H:Hp) (a:Addr) (ns:List Int),ns.length≤63→(∀ q∈tabs,H q.2=some (.tbl #[]))→SqL (K w.params) H a (ns.map V.int)→sp [.ref a] H (fun v _=>v=.bl true) E0)∧∀ base:Heap,(K w.params).In base→base.Ns mainGlobals mg→(∀ q∈tabs,PySem.W.CodeHd base q.1 q.2)→BM mg base→FnOk l.prog w (K w.params) mg base CX0 14 fa fd ["_law_script"] sp):
    PySem.W.WalkO q loose XP YP l.row.toRowW d [] (fun f vs=>PySem.call f vs):=
  L2.walk_ofT (n:=63) (k:=14) (x:="_law_script") hn (by decide) hdf ⟨rfl,by decide,by decide⟩ hY hKT F
end Fs
open PySem PySem.W PyProof.Rows
set_option maxRecDepth 100000 in
set_option maxHeartbeats 0 in
theorem PySem.Challenge.cw_freshsheet_k31_chosen_tables_holds : PySem.Challenge.rw_freshsheet_k31_chosen_tables.Holds := by
  w_on;o_law
  refine holds_open (r:=OpenLaw.row PySem.Challenge.rw_freshsheet_k31_chosen_tables) (q:=Hw.qv) (loose:=Hw.lo) (Xt:=Hw.Xv) (XP:=XL Hw.qv []) (Yf:=Hook.obs (kHook Hw.pack.heap_1 Hw.hAs Hw.hAs_eq)) (Ya:=Hook.val (kHook Hw.pack.heap_1 Hw.hAs Hw.hAs_eq)) (YP:=Hook.says (kHook Hw.pack.heap_1 Hw.hAs Hw.hAs_eq)) (N:=Hw.N0) Hw.left (Hook.of (kHook Hw.pack.heap_1 Hw.hAs Hw.hAs_eq)) (Hook.keeps (kHook Hw.pack.heap_1 Hw.hAs Hw.hAs_eq)) (fun s e=>xl_of s (Bool.and_eq_true_iff.mp e).1) XL.keeps (by rfl) (by rfl) (by rfl) (fun s e=>recFacts_of (Bool.and_eq_true_iff.mp e).2) (by rfl) (by first | assumption | decide +kernel) (by decide +kernel) ⟨rfl,rfl,rfl,rfl,rfl,by decide +kernel⟩ ?hw ?hc
  case hw=>w_witness2
  k_fill
  refine Fs.walk (l:=PySem.Challenge.rw_freshsheet_k31_chosen_tables) rfl rfl (fun w h Y=>PySem.W.kIn_of Y) (fun w=>by kernel_rfl) ?F
  case F=>
    intro w mean mg mb fa h KX T0 hmg
    refine' Fs.all_mk KX T0 hmg ?a0 ?l0 ?c0 ?k0 ?a1 ?l1 ?c1 ?k1 ?a2 ?l2 ?c2 ?k2 ?a3 ?l3 ?c3 ?k3 ?a4 ?l4 ?c4 ?k4 ?a5 ?l5 ?c5 ?k5 ?a6 ?l6 ?c6 ?k6 ?a7 ?l7 ?c7 ?k7 ?a8 ?l8 ?c8 ?k8 ?a9 ?l9 ?c9 ?k9 ?a10 ?l10 ?c10 ?k10 ?a11 ?l11 ?c11 ?k11 ?a12 ?l12 ?c12 ?k12 ?a13 ?l13 ?c13 ?k13 ?a14 ?l14 ?c14 ?k14 ?a15 ?l15 ?c15 ?k15 ?a16 ?l16 ?c16 ?k16 ?a17 ?l17 ?c17 ?k17 ?a18 ?l18 ?c18 ?k18 ?a19 ?l19 ?c19 ?k19 ?a20 ?l20 ?c20 ?k20 ?a21 ?l21 ?c21 ?k21 ?a22 ?l22 ?c22 ?k22 ?a23 ?l23 ?c23 ?k23 ?a24 ?l24 ?c24 ?k24 ?a25 ?l25 ?c25 ?k25 ?a26 ?l26 ?c26 ?k26 ?a27 ?l27 ?c27 ?k27 ?a28 ?l28 ?c28 ?k28 ?a29 ?l29 ?c29 ?k29 ?a30 ?l30 ?c30 ?k30 ?a31 ?l31 ?c31 ?k31 ?a32 ?l32 ?c32 ?k32 ?a33 ?l33 ?c33 ?k33 ?z_len ?z_range ?z_isinstance ?z_int ?z_bool ?z_str ?z_tuple ?z_list ?z_reversed ?z_min ?z_all ?z_abs ?z_enumerate ?g_PART_PLACES ?h_PART_PLACES ?r_PART_PLACES ?n_PART_PLACES ?g_ONE_PLACE ?h_ONE_PLACE ?r_ONE_PLACE ?kist ?kiit ?kib ?ki_bt ?ki_sb ?ki_si ?t_reckoned ?rr_reckoned ?t__law_both_asked ?rr__law_both_asked ?t_law ?rr_law ?nn_reckoned__law_both_asked ?nn_reckoned_law ?nn__law_both_asked_law
    (case a0=>k_is)
    (case l0=>k_is)
    (case c0=>k_is)
    (case k0=>k_is)
    (case a1=>k_is)
    (case l1=>k_is)
    (case c1=>k_is)
    (case k1=>k_is)
    (case a2=>k_is)
    (case l2=>k_is)
    (case c2=>k_is)
    (case k2=>k_is)
    (case a3=>k_is)
    (case l3=>k_is)
    (case c3=>k_is)
    (case k3=>k_is)
    (case a4=>k_is)
    (case l4=>k_is)
    (case c4=>k_is)
    (case k4=>k_is)
    (case a5=>k_is)
    (case l5=>k_is)
    (case c5=>k_is)
    (case k5=>k_is)
    (case a6=>k_is)
    (case l6=>k_is)
    (case c6=>k_is)
    (case k6=>k_is)
    (case a7=>k_is)
    (case l7=>k_is)
    (case c7=>k_is)
    (case k7=>k_is)
    (case a8=>k_is)
    (case l8=>k_is)
    (case c8=>k_is)
    (case k8=>k_is)
    (case a9=>k_is)
    (case l9=>k_is)
    (case c9=>k_is)
    (case k9=>k_is)
    (case a10=>k_is)
    (case l10=>k_is)
    (case c10=>k_is)
    (case k10=>k_is)
    (case a11=>k_is)
    (case l11=>k_is)
    (case c11=>k_is)
    (case k11=>k_is)
    (case a12=>k_is)
    (case l12=>k_is)
    (case c12=>k_is)
    (case k12=>k_is)
    (case a13=>k_is)
    (case l13=>k_is)
    (case c13=>k_is)
    (case k13=>k_is)
    (case a14=>k_is)
    (case l14=>k_is)
    (case c14=>k_is)
    (case k14=>k_is)
    (case a15=>k_is)
    (case l15=>k_is)
    (case c15=>k_is)
    (case k15=>k_is)
    (case a16=>k_is)
    (case l16=>k_is)
    (case c16=>k_is)
    (case k16=>k_is)
    (case a17=>k_is)
    (case l17=>k_is)
    (case c17=>k_is)
    (case k17=>k_is)
    (case a18=>k_is)
    (case l18=>k_is)
    (case c18=>k_is)
    (case k18=>k_is)
    (case a19=>k_is)
    (case l19=>k_is)
    (case c19=>k_is)
    (case k19=>k_is)
    (case a20=>k_is)
    (case l20=>k_is)
    (case c20=>k_is)
    (case k20=>k_is)
    (case a21=>k_is)
    (case l21=>k_is)
    (case c21=>k_is)
    (case k21=>k_is)
    (case a22=>k_is)
    (case l22=>k_is)
    (case c22=>k_is)
    (case k22=>k_is)
    (case a23=>k_is)
    (case l23=>k_is)
    (case c23=>k_is)
    (case k23=>k_is)
    (case a24=>k_is)
    (case l24=>k_is)
    (case c24=>k_is)
    (case k24=>k_is)
    (case a25=>k_is)
    (case l25=>k_is)
    (case c25=>k_is)
    (case k25=>k_is)
    (case a26=>k_is)
    (case l26=>k_is)
    (case c26=>k_is)
    (case k26=>k_is)
    (case a27=>k_is)
    (case l27=>k_is)
    (case c27=>k_is)
    (case k27=>k_is)
    (case a28=>k_is)
    (case l28=>k_is)
    (case c28=>k_is)
    (case k28=>k_is)
    (case a29=>k_is)
    (case l29=>k_is)
    (case c29=>k_is)
    (case k29=>k_is)
    (case a30=>k_is)
    (case l30=>k_is)
    (case c30=>k_is)
    (case k30=>k_is)
    (case a31=>k_is)
    (case l31=>k_is)
    (case c31=>k_is)
    (case k31=>k_is)
    (case a32=>k_is)
    (case l32=>k_is)
    (case c32=>k_is)
    (case k32=>k_is)
    (case a33=>k_is)
    (case l33=>k_is)
    (case c33=>k_is)
    (case k33=>k_is)
    (case z_len=>k_is)
    (case z_range=>k_is)
    (case z_isinstance=>k_is)
    (case z_int=>k_is)
    (case z_bool=>k_is)
    (case z_str=>k_is)
    (case z_tuple=>k_is)
    (case z_list=>k_is)
    (case z_reversed=>k_is)
    (case z_min=>k_is)
    (case z_all=>k_is)
    (case z_abs=>k_is)
    (case z_enumerate=>k_is)
    (case g_PART_PLACES=>k_is)
    (case h_PART_PLACES=>k_is)
    (case r_PART_PLACES=>exact ⟨[(Sum.inr (Str.ofString "op"),L2.V.ref _),(Sum.inr (Str.ofString "neg"),L2.V.ref _),(Sum.inr (Str.ofString "if"),L2.V.ref _),(Sum.inr (Str.ofString "sum"),L2.V.ref _),(Sum.inr (Str.ofString "count"),L2.V.ref _),(Sum.inr (Str.ofString "least"),L2.V.ref _),(Sum.inr (Str.ofString "most"),L2.V.ref _),(Sum.inr (Str.ofString "sumif"),L2.V.ref _),(Sum.inr (Str.ofString "find"),L2.V.ref _),(Sum.inr (Str.ofString "turn"),L2.V.ref _),(Sum.inr (Str.ofString "stack"),L2.V.ref _),(Sum.inr (Str.ofString "grid"),L2.V.ref _),(Sum.inr (Str.ofString "outer"),L2.V.ref _)],⟨⟨rfl,rfl,rfl⟩,_,_,rfl,.cons ⟨rfl,rfl,rfl⟩ (.cons ⟨rfl,rfl,rfl⟩ (.cons ⟨rfl,rfl,rfl⟩ (.cons ⟨rfl,rfl,rfl⟩ (.cons ⟨rfl,rfl,rfl⟩ (.cons ⟨rfl,rfl,rfl⟩ (.cons ⟨rfl,rfl,rfl⟩ (.cons ⟨rfl,rfl,rfl⟩ (.cons ⟨rfl,rfl,rfl⟩ (.cons ⟨rfl,rfl,rfl⟩ (.cons ⟨rfl,rfl,rfl⟩ (.cons ⟨rfl,rfl,rfl⟩ (.cons ⟨rfl,rfl,rfl⟩ (.nil))))))))))))),by decide⟩,.cons ⟨rfl,_,rfl,fun _=>.inr ⟨_,_,_,(by k_is),rfl,rfl,by decide,.cons ⟨_,rfl⟩ (.cons ⟨_,rfl⟩ (.nil))⟩⟩ (.cons ⟨rfl,_,rfl,fun _=>.inr ⟨_,_,_,(by k_is),rfl,rfl,by decide,.cons ⟨_,rfl⟩ (.nil)⟩⟩ (.cons ⟨rfl,_,rfl,fun _=>.inr ⟨_,_,_,(by k_is),rfl,rfl,by decide,.cons ⟨_,rfl⟩ (.cons ⟨_,rfl⟩ (.cons ⟨_,rfl⟩ (.nil)))⟩⟩ (.cons ⟨rfl,_,rfl,fun _=>.inr ⟨_,_,_,(by k_is),rfl,rfl,by decide,.cons ⟨_,rfl⟩ (.nil)⟩⟩ (.cons ⟨rfl,_,rfl,fun _=>.inr ⟨_,_,_,(by k_is),rfl,rfl,by decide,.cons ⟨_,rfl⟩ (.nil)⟩⟩ (.cons ⟨rfl,_,rfl,fun _=>.inr ⟨_,_,_,(by k_is),rfl,rfl,by decide,.cons ⟨_,rfl⟩ (.nil)⟩⟩ (.cons ⟨rfl,_,rfl,fun _=>.inr ⟨_,_,_,(by k_is),rfl,rfl,by decide,.cons ⟨_,rfl⟩ (.nil)⟩⟩ (.cons ⟨rfl,_,rfl,fun _=>.inr ⟨_,_,_,(by k_is),rfl,rfl,by decide,.cons ⟨_,rfl⟩ (.cons ⟨_,rfl⟩ (.cons ⟨_,rfl⟩ (.nil)))⟩⟩ (.cons ⟨rfl,_,rfl,fun _=>.inr ⟨_,_,_,(by k_is),rfl,rfl,by decide,.cons ⟨_,rfl⟩ (.cons ⟨_,rfl⟩ (.cons ⟨_,rfl⟩ (.nil)))⟩⟩ (.cons ⟨rfl,_,rfl,fun _=>.inr ⟨_,_,_,(by k_is),rfl,rfl,by decide,.cons ⟨_,rfl⟩ (.nil)⟩⟩ (.cons ⟨rfl,_,rfl,fun _=>.inr ⟨_,_,_,(by k_is),rfl,rfl,by decide,.cons ⟨_,rfl⟩ (.cons ⟨_,rfl⟩ (.nil))⟩⟩ (.cons ⟨rfl,_,rfl,fun _=>.inr ⟨_,_,_,(by k_is),rfl,rfl,by decide,.cons ⟨_,rfl⟩ (.cons ⟨_,rfl⟩ (.nil))⟩⟩ (.cons ⟨rfl,_,rfl,fun _=>.inr ⟨_,_,_,(by k_is),rfl,rfl,by decide,.cons ⟨_,rfl⟩ (.nil)⟩⟩ (.nil)))))))))))))⟩)
    (case n_PART_PLACES=>decide)
    (case g_ONE_PLACE=>k_is)
    (case h_ONE_PLACE=>k_is)
    (case r_ONE_PLACE=>exact ⟨rfl,_,_,rfl,by decide,.cons ⟨_,rfl⟩ (.cons ⟨_,rfl⟩ (.nil))⟩)
    (case kist=>kit_is)
    (case kiit=>kit_is)
    (case kib=>kit_is)
    (case ki_bt=>kit_is)
    (case ki_sb=>kit_is)
    (case ki_si=>kit_is)
    (case t_reckoned=>exact (show PySem.W.tabIn _ _=some (416,412) by kernel_rfl))
    (case rr_reckoned=>decide +kernel)
    (case t__law_both_asked=>exact (show PySem.W.tabIn _ _=some (506,504) by kernel_rfl))
    (case rr__law_both_asked=>decide +kernel)
    (case t_law=>exact (show PySem.W.tabIn _ _=some (511,509) by kernel_rfl))
    (case rr_law=>decide +kernel)
    (case nn_reckoned__law_both_asked=>decide +kernel)
    (case nn_reckoned_law=>decide +kernel)
    (case nn__law_both_asked_law=>decide +kernel)
