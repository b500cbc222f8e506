import PyProof.Rows.All
import Wide.All
import OpenK.AllK
import Wide.FinOn
import PySem.Challenge.RW_linegate_k66_whole_reasons
set_option Elab.async false
set_option linter.all false
set_option maxRecDepth 100000
set_option hygiene false
local macro_rules(kind:=Lean.Parser.Command.declaration)|s=>if s[0][4].isNone&&(s[1].isOfKind ``Lean.Parser.Command.definition||s[1].isOfKind ``Lean.Parser.Command.abbrev) then pure (s.modifyArg 0 (·.setArg 4 (Lean.mkNullNode #[Lean.mkNode ``Lean.Parser.Command.noncomputable #[Lean.mkAtom "noncomputable"]]))) else Lean.Macro.throwUnsupported
local macro_rules(kind:=Lean.Parser.Tactic.tacticLet__)|s=>if s[2][0][0].isOfKind `«term#[_,]» then do
  let N k a:=Lean.Syntax.node .none k a;let T:=`Lean.Parser.Tactic;let L k a:=N (T++`rcasesPatLo) #[N (T++`rcasesPatMed) #[N `null #[N (T++k) a]],N `null #[]]
  let p<-s[2][0][0].rewriteBottomUpM fun x=>pure (if x.isIdent then L `rcasesPat.one #[x] else if x.isOfKind `Lean.Parser.Term.hole then L `rcasesPat.ignore #[x[0]] else if x.isOfKind `«term#[_,]» then L `rcasesPat.tuple #[Lean.mkAtom "⟨",x[1],Lean.mkAtom "⟩"] else x);`(tactic|obtain $(.mk p[0]):rcasesPatMed:=$(.mk s[2][0][4]))
 else Lean.Macro.throwUnsupported
local macro_rules|`(tactic|apply $x)=>`(tactic|exact $x)
local macro_rules|`(tactic|ext $x:ident)=>`(tactic|cases $x:ident)
local macro_rules|`(#[$a,*])=>`(⟨$a,*⟩)
abbrev Fr:=PySem.W.Frag
local macro_rules|`(tactic|exists 20,$p)=>`(tactic|refine #[_,$p,@fun H0 S z aq Y U H Q d tg ok e q=>?_])
local macro_rules|`(tactic|exists 21,$p)=>`(tactic|refine #[_,$p,@fun H0 S z aq Y U H Q d tg ok e k=>?_])
local macro_rules|`(tactic|exists 22,$p)=>`(tactic|refine #[_,$p,@fun H0 S z aq Y U H Q c ok e k=>?_])
local macro_rules|`(tactic|exists 23,$p)=>`(tactic|refine #[_,$p,@fun H0 S z aq Y U H E o ok e k=>?_])
local macro_rules|`(tactic|exists 24,$p)=>`(tactic|refine #[_,$p,@fun H0 S z aq Y U H R ds tg ok e k=>?_])
local macro_rules|`(tactic|exists 25,$p)=>`(tactic|refine #[_,$p,@fun H0 S z aq Y U H E o ok e q=>?_])
set_option hygiene true
noncomputable section
abbrev aaf:=@List.mem_cons_of_mem
abbrev aah:=@List.mem_cons_self
abbrev aaq:=@PySem.Heap.get?_push_of_some
abbrev aar:=@List.map_cons
abbrev aas:=@decide_eq_true
abbrev aau:=@of_decide_eq_true
abbrev aav:=@Bool.and_eq_true
abbrev aaA:=@List.mem_cons
abbrev aaD:=@List.mem_singleton
abbrev aaH:=@Bool.false_ne_true
abbrev aaJ:=@List.mem_append_right
abbrev aaK:=@PySem.wpAny_bind
abbrev aaL:=@List.mem_append_left
abbrev aaR:=@decide_eq_false
abbrev aaY:=@List.length_append
abbrev aa0:=@if_neg
abbrev aa8:=@List.getElem?_eq_getElem
abbrev abb:=@PySem.Heap.lt_size
abbrev abc:=@List.mem_append
abbrev abi:=@Nat.le_refl
abbrev abn:=@List.mem_map
abbrev abo:=@List.nodup_cons
abbrev abp:=@PySem.Heap.get?_push_size
abbrev abF:=@List.size_toArray
abbrev abH:=@Option.some.inj
abbrev abR:=@Option.bind_some
abbrev abV:=@List.getElem?_map
abbrev abW:=@Option.map_eq_some_iff
abbrev abZ:=@List.length_cons
abbrev ack:=@List.append_nil
abbrev acm:=@List.nodup_nil
abbrev aco:=@Nat.ne_of_lt
abbrev acp:=@PySem.wpAny_pure
abbrev acH:=@Nat.lt_of_lt_of_le
abbrev acS:=@List.getElem?_eq_some_iff
abbrev acW:=@List.mem_filter
abbrev acY:=@Option.bind_eq_some_iff
abbrev ac6:=@List.not_mem_nil
abbrev adt:=@List.getElem?_set_ne
abbrev adv:=@List.nodup_append
abbrev adz:=@List.map_map
abbrev adM:=@List.getD_eq_getElem?_getD
abbrev adQ:=@List.find?_cons
abbrev adR:=@List.all_eq_true
abbrev adS:=@List.map_append
abbrev aee:=@List.pairwise_cons
abbrev aeC:=@Nat.le_trans
abbrev aeG:=@PySem.wpAny_mono
abbrev aeJ:=@List.any_eq_true
abbrev aeQ:=@Nat.zero_le
abbrev aeS:=@List.length_singleton
abbrev ae0:=@beq_eq_false_iff_ne
abbrev ae3:=@List.contains_iff_mem
abbrev ae6:=@PySem.Heap.get?_update_other
abbrev afj:=@List.lookup_cons
abbrev afr:=@List.filterMap_cons
abbrev aft:=@PySem.sizeLine_eq
abbrev afv:=@List.filter_sublist
abbrev afz:=@List.foldl_cons
abbrev afE:=@List.length_filter_le
abbrev afQ:=@List.append_assoc
abbrev afY:=@List.mem_of_find?_eq_some
abbrev af4:=@PySem.Around.under_plainId
abbrev agc:=@List.getElem?_set_self
abbrev agg:=@Nat.lt_irrefl
abbrev agm:=@Array.length_toList
abbrev agq:=@Array.getD_eq_getD_getElem?
abbrev agz:=@PySem.wpAny_truthy_bool
abbrev agC:=@decide_eq_true_eq
abbrev agD:=@List.filter_cons_of_pos
abbrev agE:=@List.filter_cons_of_neg
abbrev agF:=@Nat.le_of_lt
abbrev agO:=@PySem.wpAny_Call_Name_kw
abbrev agR:=@List.filterMap_map
abbrev agS:=@List.append_eq_nil_iff
abbrev agU:=@List.find?_cons_of_neg
abbrev agY:=@List.getElem?_append_left
abbrev ag3:=@Bool.and_self
abbrev ag6:=@Option.ite_none_right_eq_some
abbrev ahc:=@Ne.symm
abbrev ahe:=@PySem.codeAny_builtin
abbrev ahp:=@PyProof.Rows.callWith_type1
abbrev ahr:=@List.cons.injEq
abbrev aht:=@List.getElem?_append_right
abbrev ahv:=@Nat.le_succ
abbrev ahx:=@List.map_congr_left
abbrev ahz:=@or_false
abbrev ahF:=@beq_iff_eq
abbrev ahG:=@Option.isSome_iff_exists
abbrev ahJ:=@PySem.tupleKind_room_in1
abbrev ahM:=@Nat.lt_of_le_of_lt
abbrev ahR:=@List.find?_eq_none
abbrev ah6:=@List.mem_of_getElem?
abbrev ah7:=@Nat.ne_of_gt
abbrev aib:=@PySem.wpAny_newObj_type
abbrev aic:=@Option.isSome_map
abbrev aik:=@Bool.eq_false_iff
abbrev aim:=@Bool.eq_iff_iff
abbrev aip:=@PySem.Heap.get?_update_ne
abbrev aiE:=@List.find?_cons_of_pos
abbrev aiN:=@Array.perm_iff_toList_perm
abbrev aiV:=@Nat.lt_succ_self
abbrev aiX:=@List.length_take
abbrev aiZ:=@beq_self_eq_true
abbrev ai1:=@PySem.F.plain_min_loop
abbrev ai4:=@PySem.wpAny_holding
abbrev ai7:=@PySem.Heap.get?_update_self
abbrev ai8:=@List.mem_filterMap
abbrev aja:=@Bool.false_eq_true
abbrev ajb:=@PySem.plainId_quiet
abbrev ajc:=@Classical.byContradiction
abbrev ajd:=@PySem.wpAny_passesOwn
abbrev aje:=@Bool.or_eq_true
abbrev ajg:=@List.find?_some
abbrev ajh:=@List.pairwise_map
abbrev aji:=@List.any_map
abbrev ajj:=@List.any_cons
abbrev ajk:=@List.pairwise_singleton
abbrev ajm:=@Option.getD_some
abbrev ajn:=@PySem.Heap.size_push
abbrev ajo:=@of_decide_eq_false
abbrev ajq:=@PySem.codeAny_mono
abbrev ajr:=@List.length_set
abbrev ajs:=@List.getElem?_eq_none
abbrev ajt:=@List.all_map
abbrev ajv:=@List.length_range
abbrev ajy:=@PySem.Heap.get?_none_of_le
abbrev ajz:=@PySem.wpAny_tryCatch
abbrev ajA:=@List.drop_eq_getElem_cons
abbrev ajB:=@List.pairwise_iff_getElem
abbrev ajE:=@List.filter_cons
abbrev ajF:=@decide_eq_decide
abbrev ajG:=@List.prefix_refl
abbrev ajH:=@Sum.inl.inj
abbrev ajI:=@Nat.zero_add
abbrev ajM:=@PySem.wpAny_execs_nil
abbrev ajN:=@List.all_cons
abbrev ajO:=@PySem.wpAny_updateSeq
abbrev ajP:=@PySem.strLen_append
abbrev ajQ:=@Nat.lt_succ_of_lt
abbrev ajR:=@List.mem_range
abbrev ajS:=@List.map_nil
namespace L2
open PySem PySem.Spec
open PySem PySem.Spec PyProof.Rows
def xu(o:Obj):Option (Value×Str×Pos):=match o.data with
 |.func fd=>match fd.body with
  |.stmts [.Return (some (.Call _ _ [#[_,.Lambda _ _ _ pos,_]] _)) _]=>some (fd.code,fd.qualname++".<locals>."++"<lambda>",pos)
  |_=>none
 |_=>none
def D9(K:Fr)(p:Addr×Obj):Option (Addr×Addr×Str×Pos):=match xu p.2 with
 |some (.ref c,q,pos)=>match K.lookup c with
  |some #[_,_,.fields vs,_]=>match(vs[11]? : Option Value) with
   |some (.ref P)=>some (c,P,q,pos)
   |_=>none
  |_=>none
 |_=>none
def jy(K:Fr):List (Addr×Addr×Str×Pos):=K.filterMap (D9 K)
def wm(K:Fr):Bool:=K.all λp=>match p.2.data with
 |.seq ay _=>ay.size==0||ay.toList.any λv=>match v with|.int _ _=>false|_=>true
 |_=>true
def AQ(K:Fr):Bool:=(wm K&&K.all λp=>(xu p.2).isNone||(D9 K p).isSome)&&match jy K with
 |[]=>true
 |[r]=>PySem.W.codeHdIn K r.1 r.2.1&&(K.lookup r.2.1).isNone
 |_=>false
end L2
namespace L2
open PySem PySem.Spec PyProof.Rows
def inClass(s:Stmt)(j:Nat):Stmt:=match s with
 |.ClassDef _ _ _ body _ _ _ _ _ _ _=>body.getD j (.Pass #[0,0,0,0])
 |_=>.Pass #[0,0,0,0]
def mU(s:Stmt):Arguments:=match s with
 |.FunctionDef _ a _ _ _ _ _ _ _ _=>a
 |_=>{ posonlyargs:=[],args:=[],vararg:=none,kwonlyargs:=[],kw_defaults:=[],kwarg:=none,defaults:=[] }
def iH(s:Stmt):List Stmt:=match s with
 |.FunctionDef _ _ b _ _ _ _ _ _ _=>b
 |_=>[]
def di(s:Stmt):Scope:=match s with
 |.FunctionDef _ _ _ _ _ _ sc _ _ _=>sc
 |_=>{ kind:=.function,names:=[],isGenerator:=false,isCoroutine:=false }
end L2
namespace L2.Ev
open PySem PySem.W
abbrev TY:List Value:=[.type "ValueError",.type "Exception",.type "BaseException",.type "object"]
def AO(K:Frag)(C:Addr):Bool:=match K.lookup C with
 |some #[c,_,.cls cd,#[sl]]=>c == .type "type"&&cd.mro == .ref C::cd.mro.tail&&sl==[sl.getD 0 none,sl.getD 1 none,sl.getD 2 none,sl.getD 3 none,some (.builtin "ValueError.__new__"),sl.getD 5 none]&&cd.hasDel==false&&tailIn K TY cd.mro.tail&&nsOkIn K cd.ns&&nsIn K cd.ns "__init__" == some none
 |_=>false
end L2.Ev
namespace L2
open PySem PySem.Spec PyProof.Rows
def tabs_ok{K:Params->Fr}{e:∀P,as=(K P).map (·.1)}(h:∀w:World,(jy (K w.params)).map (·.2.1)=ts)(w:World)(hp:Heap)(YY:(PySem.W.kmHook K as e ts).says w hp):∀r∈jy (K w.params),hp.get? r.2.1=some (PySem.W.tabObj ([].toArray)):=
 λr m=>PySem.W.km_tabs_of YY _ (by rw[<- h w];apply List.mem_map_of_mem m)
end L2
namespace L2.Ev
open PySem PySem.Spec PySem.W PyProof.Rows
structure Ls where
 bt:List Str
 gi:List (Str×Int)
 tp:List (Str×List Str)
 cl:List Str
 na:List (Str×Str)
 ni:Bool
 ex:List Str
 xc:List Str
 ct:List (Str×List Str)
 kt:List (Str×List (Str×Bool))
 ki:List (Str×List Str×List (Str×Bool))
def cA(K:Frag)(c:Str):Addr:=match nsIn K mainGlobals c with
 |some (some (.ref a))=>a
 |_=>0
def kv(K:Frag)(c:Str):Value:=if c == "ValueError" then .type "ValueError" else .ref (cA K c)
def gI:Stmt->Str
 |.FunctionDef x ..=>x
 |_=>Str.empty
def i9(c:Str)(s:Stmt):Str:=if c==Str.empty then gI s else c++"."++gI s
def strOf:Value->Option Str
 |.str s _=>some s
 |_=>none
def JJ(K:Frag)(x:Str)(l:List Str):Bool:=match nsIn K mainGlobals x with
 | some (some (.ref a))=>(match K.lookup a with
  |some #[c,none,.seq ay _,_]=>c == .type "tuple"&&decide (ay.size<=sizeLine)&&ay.toList.map strOf==l.map some
  |_=>false)
 |_=>false
def TQ(K:Frag)(x:Str)(n:Int):Bool:=match nsIn K mainGlobals x with
 |some (some (.int m _))=>m==n
 |_=>false
def yc(K:Frag)(c:Str):Bool:=nsIn K mainGlobals c==some (some (.ref (cA K c)))&&plainGet K (cA K c) Str.empty&&hasDictIn K (cA K c)&&plainOver K (cA K c)&&findIn K (.ref (cA K c)) "__setattr__" == some (some (.builtin "object.__setattr__"))&&makesIn K (cA K c)&&keepIn K (.ref (cA K c))
def ek(K:Frag)(r:Str):Bool:=findIn K (.ref (cA K r)) "__getattribute__" == some (some (.builtin "BaseException.__getattribute__"))&&findIn K (.ref (cA K r)) "__getattr__" == some none&&findIn K (.ref (cA K r)) "__class__" == some (some (.builtin "object.__class__"))&&specialIn K (.builtin "object.__class__") "__get__" == some (some (.builtin "getset_descriptor.__get__"))&&takesIn K (.builtin "object.__class__")==some true&&mroIn K (cA K r) (.type "object")==some true&&mroIn K (cA K r) (.type "BaseException")==some true
def Rj(L:Ls)(K:Frag):Bool:=L.ex.all (λc=>nsIn K mainGlobals c==some (some (.ref (cA K c))))&&L.xc.all (λc=>AO K (cA K c))&&L.ct.all (λp=>L.xc.contains p.1&&mroIn K (cA K p.1) (.type "BaseException")==some true&&p.2.all λr=>L.xc.contains r&&L.ex.contains r&&mroIn K (cA K r) (.ref (cA K p.1))==some true)&&L.kt.all (λp=>p.2.all λr=>L.ex.contains r.1&&ek K r.1&&kitOne K (.ref (cA K r.1)) (kv K p.1)==some r.2)&&L.ki.all (λp=>p.2.2.all λr=>L.ex.contains r.1&&ek K r.1&&kitAny K (.ref (cA K r.1)) ((p.2.1.map (cA K)).map Value.ref)==some r.2)
def tU(L:Ls)(K:Frag):Bool:=(!L.ni||wm K)&&Rj L K&&L.bt.all (λx=>nsIn K mainGlobals x==some none)&&L.gi.all (λp=>TQ K p.1 p.2)&&L.tp.all (λp=>JJ K p.1 p.2)&&L.cl.all (yc K)&&L.na.all (λp=>findIn K (.ref (cA K p.1)) p.2==some none)
def UL(fd:FuncData):FuncData:={ fd with kwdefaults:=.none,doc:=.none,pyModule:=.none,annotations:=none,code:=.none,closureTuple:=.none }
def LM(K:Frag)(q:Str):Option (Option Value)->Option FuncData
 | some (some (.ref a))=>(match K.lookup a with
  |some #[_,_,.func fd,_]=>if(codeIn K fd.code q&&keepIn K (.ref a)&&isFn K (.ref a))=true then some (UL fd) else none
  |_=>none)
 |_=>none
def look(K:Frag)(p:Str×Stmt):Option FuncData:=LM K (i9 p.1 p.2) (if p.1==Str.empty then nsIn K mainGlobals (gI p.2) else findIn K (.ref (cA K p.1)) (gI p.2))
def want(p:Str×Stmt):Option FuncData:=some (fnOf (gI p.2) (i9 p.1 p.2) (mU p.2) (iH p.2) (di p.2) .none .none .none .none none .none .none)
end L2.Ev
namespace K66
open PySem L2 L2.Ev
def top(i:Nat):Stmt:=PySem.Challenge.pw_linegate_k66_whole_reasons.main.body.getD i (.Pass #[0,0,0,0])
def L:Ls:=#[["all","bool","dict","int","isinstance","len","list","max","min","range","sorted","str","tuple","zip"],[("GREATEST_RANK",9),("GREATEST_SLOT",999),("GREATEST_VALUE",1000000000),("MOST_CHANGES",60),("MOST_EDITS",20),("MOST_HANDS",8),("MOST_TRIES",20),("MOST_WIDTH",16)],[("BAD_WORDS",["no","unsure"]),("WORDS",["yes","no","unsure"])],["Changes","Gate","Tally"],[("Changes","entries"),("Gate","answers"),("Gate","breaks"),("Gate","ended"),("Gate","grounds"),("Gate","grown"),("Gate","halted"),("Gate","known"),("Gate","laid_ones"),("Gate","looks"),("Gate","numbers"),("Gate","on_line"),("Gate","tallies"),("Tally","heard"),("Tally","need"),("Tally","tries")],true,["LinegateError","NoAnswer","NoChange","NoLook","TooLate"],["LinegateError","NoAnswer","NoChange","NoLook","TooLate"],[("LinegateError",["NoChange","TooLate","NoLook","NoAnswer"]),("NoChange",["NoChange"])],[],[]]
end K66
namespace HT
open PySem PySem.W PyProof.Rows
def F8:List Obj->List Obj
 |[]=>[]
 |[a]=>[a]
 |a::_::l=>a::F8 l
def Fq:Nat->List Obj->BT
 |0,_=>.nil
 |_+1,[]=>.nil
 |k+1,o::l=>.node o (Fq k (F8 l)) (Fq k (F8 l.tail))
def pC(tb:String->Option Builtin)(p:Program)(w:World)(yH:Nat)(ann:Option Value):Nat->SharedT->Thread->Option SharedT
 |0,_,_=>none
 |k+1,s,t=>match through t with
  |true=>some s
  |false=>match stepOk yH ann t with
   |false=>none
   |true=>match stepT (denote tb) p w s t with
    |none=>none
    |some (s',t')=>pC tb p w yH ann k s' t'
theorem U6:∀{k} {s s'} {t},pC tb p w yH ann k s t=some s'->topRun tb p w yH ann k s.abs t=some s'.abs
 |0,_,_,_,h=>by ext h
 |k+1,s,s',t,h=>by
  unfold pC at h;unfold topRun;cases e:through t with
  |true=>rw[e] at h;ext h;rfl
  |false=>
   rw[e] at h;cases o:stepOk yH ann t with
   |false=>rw[o] at h;ext h
   |true=>
    rw[o] at h;cases g:stepT (denote tb) p w s t with
    |none=>rw[g] at h;ext h
    |some r=>let#[s2,t2]:=r;rw[g] at h;rw[stepT_spec g];apply U6 h
def Km(P:Params):BT:=Fq 12 (boot_heap P).objs.toList
def nZ:Nat:=11
def aeP(P:Params):(boot_heap P).objs.size=nZ:=by kernel_rfl
def boot_abs(P:Params):absHeap (Km P) nZ (boot_heap P).life=boot_heap P:=by kernel_rfl
def tX(P:Params)(os:OsState):SharedT:=#[Km P,nZ,(boot_heap P).life,Array.mk [],boot_drawn,boot_toks,os]
def ad0
  (he:opening p=plainProg p.main.scope.names) (hf:∀s,fenceModules? p s=some s) (hN:Nat.ble 600 N=true)
  (hz:∀P:Params,((boot_heap P).isNs mainGlobals,(boot_heap P).nsMap mainGlobals "__annotations__")=(true,ann))
  (h:∀(w) (os),(pC treeTable p w nZ ann N (tX w.params os) (topStub p)).map (λsT=>
    ((staticsOk (importedModules p.main.body) (boot_heap w.params) sT.abs.heap&&namesBound p sT.abs.heap&&gensDone sT.abs&&laidKept (boot_heap w.params) sT.abs.heap),openSeen q loose (importedModules p.main.body) Xt true sT.abs,Yf sT.abs))=some (true,openGood q loose,Ya w)) :
  LeftO p q loose Xt Yf Ya N:=λw=>by
 let#[#[hh,gs,d,k,os],e,e']:=abW.mp (boot_open he hN hf w);obtain⟨rfl,rfl,rfl,rfl⟩:hh=boot_heap w.params/\gs=Array.mk []/\d=boot_drawn/\k=boot_toks:=by simpa using e'
 obtain⟨z1,z2⟩:_/\_:=by simpa only[Prod.mk.injEq] using hz w.params
 let#[sT,r,l]:=abW.mp (h w os);obtain⟨l1,l2,l3⟩:_/\_/\_:=by simpa only[Prod.mk.injEq] using l
 have r':=U6 r;have ab:(tX w.params os).abs=#[boot_heap w.params,Array.mk [],boot_drawn,boot_toks,os]:=by
  show Shared.mk (absHeap (Km w.params) nZ (boot_heap w.params).life) _ _ _ _=_;rw[boot_abs];rfl
 rw[ab] at r';have t:topFrom treeTable p w N #[boot_heap w.params,Array.mk [],boot_drawn,boot_toks,os]=some sT.abs:=by
  unfold topFrom;dsimp only;rw[z1,z2,aeP,r'];show(match staticsOk (importedModules p.main.body) (boot_heap w.params) sT.abs.heap&&namesBound p sT.abs.heap&&gensDone sT.abs&&laidKept (boot_heap w.params) sT.abs.heap with|true=>_|false=>_)=_;rw[l1]
 unfold openEnds;rw[e];show(topFrom treeTable p w N _).map _=_;rw[t];apply congrArg some (Prod.ext l2 l3)
def af7
  (he:opening p=plainProg p.main.scope.names) (hf:∀s,fenceModules? p s=some s) (hN:Nat.ble 600 N=true)
  (hz:∀P:Params,((boot_heap P).isNs mainGlobals,(boot_heap P).nsMap mainGlobals "__annotations__")=(true,ann))
  (h1:∀(w) (os),(pC treeTable p w nZ ann N (tX w.params os) (topStub p)).map (λsT=>((staticsOk (importedModules p.main.body) (boot_heap w.params) sT.abs.heap&&namesBound p sT.abs.heap&&gensDone sT.abs&&laidKept (boot_heap w.params) sT.abs.heap),openSeen q loose (importedModules p.main.body) Xt true sT.abs))=some (true,openGood q loose))
  (h3:∀(w) (os),(pC treeTable p w nZ ann N (tX w.params os) (topStub p)).map (λsT=>Yf sT.abs)=some (Ya w)) :
  LeftO p q loose Xt Yf Ya N:=ad0 he hf hN hz λw os=>by
 let#[sT,r,e1]:=abW.mp (h1 w os);have e3:=h3 w os;rw[r] at e3 ⊢;have e3:=abH e3;obtain⟨e1,e2⟩:_/\_:=by simpa only[Prod.mk.injEq] using e1
 show some (_,_,_)=some (true,openGood q loose,Ya w);rw[e1,<- e2,<- e3]
def tg(s:SharedT)(a:Nat):Option Obj:=match Nat.blt a s.n with
 |true=>match s.tree.get a with
  |some o=>alive o
  |none=>none
 |false=>none
def aeN(h:tg s a=some o):s.abs.heap.get? a=some o:=by
 unfold tg at h;cases e:Nat.blt a s.n with
 |false=>rw[e] at h;ext h
 |true=>
  rw[e] at h;dsimp only at h;cases g:s.tree.get a with
  |none=>rw[g] at h;ext h
  |some o'=>
   rw[g] at h;have cY:a<s.n:=by simpa using e
   apply(abs_get cY g).trans h
theorem EM:∀{as:List Addr}{os:List Obj},as.map (tg s)=os.map some->as.map s.abs.heap.get? = os.map some
 |[],[],_=>rfl
 |[],_::_,h=>by ext h
 |_::_,[],h=>by ext h
 |a::as,o::os,h=>by
  rw[aar,aar] at h;injection h with h1 h2;rw[aar,aar,aeN h1,EM h2]
end HT
namespace HT
open PySem PySem.W PyProof.Rows
variable{K:Params->Frag}
def left_Tkm(he:opening p=plainProg p.main.scope.names)(hf:∀s,fenceModules? p s=some s)(hN:Nat.ble 600 N=true)
  (hz:∀P:Params,((boot_heap P).isNs mainGlobals,(boot_heap P).nsMap mainGlobals "__annotations__")=(true,ann))
  (h1:∀(w:World) (os),(pC treeTable p w nZ ann N (tX w.params os) (topStub p)).map (λsT=>((staticsOk (importedModules p.main.body) (boot_heap w.params) sT.abs.heap&&namesBound p sT.abs.heap&&gensDone sT.abs&&laidKept (boot_heap w.params) sT.abs.heap),openSeen q loose (importedModules p.main.body) Xt true sT.abs))=some (true,openGood q loose))
  (h3:∀(w) (os),(pC treeTable p w nZ ann N (tX w.params os) (topStub p)).map (λsT=>(as.map (tg sT),ts.map (tg sT)))=some (((K w.params).map (·.2)).map some,(ts.map λ_=>tabObj ([].toArray)).map some)) :
  LeftO p q loose Xt (Hook.obs (kmHook K as e ts)) (Hook.val (kmHook K as e ts)) N:=af7 he hf hN hz h1 λw os=>by
 let#[sT,r,e1]:=abW.mp (h3 w os);obtain⟨e1,e2⟩:_/\_:=by simpa only[Prod.mk.injEq] using e1
 rw[r];show some (as.map sT.abs.heap.get?,ts.map sT.abs.heap.get?)=some ((K w.params).map λp=>some p.2,ts.map λ_=>some (tabObj ([].toArray)));rw[EM e1,EM e2,adz,adz];rfl
end HT
namespace K66
open PySem L2 L2.Ev
def tab:List (Str×Stmt):=[52,53,56,11,45,54,55,57,58,12,18,19,20,17,26,33,32,34,31,28,30,16,40,39,59,60,61,62,29,37,36,63,64,66,36,65,67].map (λi=>(Str.empty,top i))++[0,2,9,11,1,10,4,5,3,8].map (λi=>(("Changes":Str),inClass (top 25) i))++[0,10,19,8,24,21,20,11,26,13,27,25,29,28,23,1,2,2,2,22,3,3,3,4,5,6,7,9,12,17,18].map (λi=>(("Gate":Str),inClass (top 50) i))++[3,1,0,1].map (λi=>(("Tally":Str),inClass (top 44) i))
def isNm:Stmt->Bool
 |.FunctionDef x ..=>!(x == "law")
 |_=>true
def lo:List Str:=(["_wall","LinegateError","NoFit","NoChange","TooMany","NoRule","NoAnswer","NoLook","TooLate","within","rising","GREATEST_SLOT","GREATEST_VALUE","unfit","edited_in_turn","are_edits","misfit","sheet_of_values","MOST_CHANGES","MOST_EDITS","GREATEST_RANK","Changes","sheet_of","free","layable","filled","first_fitting","in_turn","values_behind","fits","why","why_waiting","wanted_places","middle_of_gap","WORDS","MOST_TRIES","Tally","makes_tally","MOST_WIDTH","MOST_HANDS","BAD_WORDS","Gate","_law_cell_at","_law_mixed","_law_turns_of","_law_three","_law_four","_law_edits","_law_row","_law_by_method","_law_unfit","_law_ahead","_law_due","_law_plain","_law_right","_law_refused","_law_shot"]:List String).map Str.ofString
def vw:Program:={ PySem.Challenge.pw_linegate_k66_whole_reasons with main:={ (PySem.Challenge.pw_linegate_k66_whole_reasons).main with body:=(PySem.Challenge.pw_linegate_k66_whole_reasons).main.body.filter λs=>!isNm s } }
def Wk:Prop:=∀{YP:World->Heap->Prop}{K:Params->Fr}{d:DefRec},(∀(w:World) (h:Heap),YP w h->(K w.params).In h)->(∀(w:World) (h:Heap),YP w h->∀r∈jy (K w.params),h.get? r.2.1=some (PySem.W.tabObj ([].toArray)))->(∀w:World,AQ (K w.params)=true)->(∀w:World,tU L (K w.params)=true)->(∀w:World,tab.map (look (K w.params))=tab.map want)->d.params.defaults=[]->d.name="law"->PySem.W.WalkO vw lo (PySem.W.XL vw []) YP (PySem.W.OpenLaw.row PySem.Challenge.rw_linegate_k66_whole_reasons).toRowW d [] (λf vs=>PySem.call f vs)
end K66
namespace K66
open PySem L2 L2.Ev
open PySem PySem.W PyProof.Rows L2 L2.Ev
def xt(s:Shared):Bool:=xlAt vw [] s&&recOk (RowW.records (OpenRow.toRowW (OpenLaw.row PySem.Challenge.rw_linegate_k66_whole_reasons))) s
def xt1(s:Shared)(e:xt s=true):XL vw [] (s.heap.nsMap mainGlobals) s.heap:=xl_of s (Bool.and_eq_true_iff.mp e).1
def rn(w:World)(os:OsState):(HT.pC treeTable PySem.Challenge.pw_linegate_k66_whole_reasons w HT.nZ (some (.ref 6)) 20000 (HT.tX w.params os) (topStub PySem.Challenge.pw_linegate_k66_whole_reasons)).map (λsT=>((staticsOk (importedModules (PySem.Challenge.pw_linegate_k66_whole_reasons).main.body) (boot_heap w.params) sT.abs.heap&&namesBound PySem.Challenge.pw_linegate_k66_whole_reasons sT.abs.heap&&gensDone sT.abs&&laidKept (boot_heap w.params) sT.abs.heap),openSeen vw lo (importedModules (PySem.Challenge.pw_linegate_k66_whole_reasons).main.body) xt true sT.abs))=some (true,openGood vw lo):=by kernel_rfl
def xt2(s:Shared)(e:xt s=true):RecFacts (RowW.records (OpenRow.toRowW (OpenLaw.row PySem.Challenge.rw_linegate_k66_whole_reasons))) s.heap:=recFacts_of (Bool.and_eq_true_iff.mp e).2
local macro_rules | `(tactic| o_head $H)=>`(tactic| (refine PySem.W.holds_open (q:=K66.vw) (loose:=K66.lo) (N:=20000) (Xt:=K66.xt) (XP:=XL K66.vw []) (Yf:=Hook.obs $H) (Ya:=Hook.val $H) (YP:=Hook.says $H) ?hl (Hook.of $H) (Hook.keeps $H) K66.xt1 XL.keeps (by rfl) (by rfl) (by rfl) K66.xt2 (by rfl) (by assumption) (by decide +kernel) #[rfl,rfl,rfl,rfl,rfl,by decide +kernel] ?hw ?hc;(case hl=>apply HT.left_Tkm (ann:=some (.ref 6)) (by rfl) (fun _=>rfl) (by decide) (fun _=>by kernel_rfl) K66.rn fun w os=>by kernel_rfl);(case hw=>w_witness2)))
def wsd:OpenLaw.wellSaid PySem.Challenge.rw_linegate_k66_whole_reasons=true:=by kernel_rfl
set_option maxHeartbeats 0 in
def early(H:Wk):PySem.Challenge.rw_linegate_k66_whole_reasons.Holds:=by
 w_on;refine holds_law wsd λajw=>?_;k_head
 k_fill
 apply H (λw h YY=>PySem.W.km_in_of YY) (L2.tabs_ok λw=>by kernel_rfl) (λw=>by kernel_rfl) (λw=>by kernel_rfl) (λw=>by kernel_rfl) rfl rfl
end K66
local macro_rules | `(tactic| walk_at "va")=>`(tactic| apply #[rfl,by first | apply Or.inl rfl | apply Or.inr (Or.inl rfl) | apply Or.inr (Or.inr rfl),by decide,by decide])
local macro_rules | `(tactic| exists $h:ident, $x, $w:ident, $e:ident) => `(tactic| (rcases $h:ident : $x:term with _ | $w:ident; (rw [$h:ident] at $e:ident; cases $e:ident); rw [$h:ident] at $e:ident))
local macro_rules | `(tactic| exists $h:ident, $x, $w:ident, $e:ident, 0) => `(tactic| (rcases $h:ident : $x:term with _ | $w:ident; (rw [$h:ident] at $e:ident; cases $e:ident)))
def ci{c:Prop}[Decidable c]{α:Type}{a:Option α}{y:α}(e:(if c then a else none)=some y):c/\a=some y:=by
 by_cases h:c
 .rw[if_pos h] at e;apply#[h,e]
 .rw[aa0 h] at e;ext e
namespace L2
open PySem PySem.Spec
def ahK:entryFor table "proto.unchain"=some Builtin.«proto.unchain»:=entryFor_of_tree (by kernel_rfl)
def WD{α:Type}{Q:α->Shared->Prop}(hh:A.handled=some (.ref h))(he:s.heap.get? e=some oe)(hd:oe.data=.fields ve)(h2:2<ve.size)
  (hx:s.heap.get? h=some oh) (HG:oh.data=.fields vh) (Gz:vh[2]? = some .none) (ne:h≠e) (q:E (.ref e) { s with heap:=s.heap.update e (Obj.mapFields (·.setIfInBounds 2 (.ref h))) }):wpAny (model prog w) A (raiseNew (.ref e):Sem α) Q E s:=by
 unfold raiseNew;refine aaK (wpAny_handled ?_);rw[hh];dsimp only;rw[if_pos (by simpa using ne)];refine aaK (ai4 (wpAny_runValue (ahe ahK ?_)));unfold Builtin.«proto.unchain»;refine aaK (wpAny_field hx HG Gz ?_);rw[if_pos (by rfl)];refine acp ?_;refine aaK ?_;unfold updateField;refine aaK (wpAny_load he ?_);rw[hd];dsimp only;rw[if_pos h2];apply wpAny_update' he (wpAny_throw q)
def abB{prog:Program}{w:World}{A:Around}{E:Value->Shared->Prop}{s:Shared}{it h:Addr}{x left step:Int}{oh:Obj}{vh:Array Value}{Q:Option Value->Shared->Prop}(hh:A.handled=some (.ref h))(hx:s.heap.get? h=some oh)(HG:oh.data=.fields vh)(Gz:vh[2]? = some .none)(hit:IsRangeIter s.heap it x left step)(ahw:left<=0)
  (hQ:∀h',Heap.ExtBut it s.heap h'->Q none { s with heap:=h' }):wpAny (model prog w) A (pyNext (.ref it)) Q E s:=by
 have hT:s.TypeIs (.ref it) "range_iterator":=#[_,hit,rfl]
 unfold pyNext;refine aaK (wpAny_attempt (wpAny_callSpecial?_slot hT F.slot_range_iterator_next
  (wpAny_call_entry F.slot_range_iterator_next hT F.entry_range_iterator_next ?_ (F.args_range_iterator_next_1 _))))
 show wpAny _ _ (field (.ref it) 0 >>= _) _ _ s;refine aaK (wpAny_field hit rfl rfl ?_);refine aaK (wpAny_field hit rfl rfl ?_);refine aaK (wpAny_field hit rfl rfl ?_);show wpAny _ _ (if left<=0 then _ else _) _ _ s;rw[if_pos ahw];refine aaK (wpAny_rule ?_);refine aaK ?_;refine aaK ?_;simp only[newExc,newTuple];refine aaK (aib ?_ (by size_fits));refine aaK (wpAny_of_eq (by first|rfl|(simp only[firstArgMember];rfl)) ?_);refine aib ?_ (by size_fits);have hn:h≠(s.heap.push { cls:=.type "tuple",dict:=none,data:=.seq ([]:List Value).toArray }).objs.size:=aco (abb (aaq _ hx));refine WD (by first|exact hh|(show A.in1.handled=_;apply hh)) (abp _ rfl) rfl (by simp<;>lia) (aaq _ (aaq _ hx)) HG Gz hn ?_;refine aaK (wpAny_isInstance #[_,ai7 _ (abp _ rfl) rfl,rfl] isSubtype_stop ?_);refine acp (hQ _ λb o hb e=>?_);rw[ae6 _ _ (ahc (aco (abb (aaq _ e))))];apply aaq _ (aaq _ e)
open PySem PySem.Spec PyProof.Rows
abbrev Key:=Sum Int Str
def tL:Key->Value->Bool
 |.inl k,v=>Value.isInt k v
 |.inr x,v=>Value.isStrOf x v
def ag8(w:World):Key->Int
 |.inl k=>hashInt k
 |.inr x=>hashStr w x
def mO:∀{k} {v},tL k v=true->(∃i t,k=Sum.inl i/\v=Value.int i t)\/(∃x t,k=Sum.inr x/\v=Value.str x t)
 |.inl i,v,h=>by
  let#[t,e]:=Value.isInt_shape h;apply .inl #[i,t,rfl,e]
 |.inr x,v,h=>by
  let#[t,e]:=Value.isStrOf_shape h;apply .inr #[x,t,rfl,e]
def ahq(i:Int)(t:Tok):tL (.inl i) (.int i t)=true:=by simp[tL,Value.isInt]
def VO(x:Str)(t:Tok):tL (.inr x) (.str x t)=true:=by simp[tL,Value.isStrOf]
def ac9(a b:Int):decide ((Sum.inl a:Key)=Sum.inl b)=(a==b):=by
 by_cases e:a=b
 .subst e;simp
 .have h:¬(Sum.inl a:Key)=Sum.inl b:=λq=>e (ajH q)
  rw[aaR h];apply(ae0.mpr e).symm
def VV(a b:Str):decide ((Sum.inr a:Key)=Sum.inr b)=decide (a=b):=by
 by_cases e:a=b
 .subst e;simp
 .have h:¬(Sum.inr a:Key)=Sum.inr b:=λq=>e (Sum.inr.inj q)
  rw[aaR h,aaR e]
def Wn(a:Int)(b:Str):decide ((Sum.inl a:Key)=Sum.inr b)=false:=aaR (λq=>nomatch q)
def abM(a:Str)(b:Int):decide ((Sum.inr a:Key)=Sum.inl b)=false:=aaR (λq=>nomatch q)
def gO(prog:Program)(w:World):PySem.KeyKind prog w Key where
 is:=tL
 hash:=ag8 w
 inj:=λv a b ha hb=>by
  rcases mO ha with⟨i,t,rfl,rfl⟩|⟨x,t,rfl,rfl⟩
  .rcases mO hb with⟨j,u,rfl,e⟩|⟨y,u,rfl,e⟩
   .injection e with e1 _;rw[e1]
   .exact nomatch e
  .rcases mO hb with⟨j,u,rfl,e⟩|⟨y,u,rfl,e⟩
   .exact nomatch e
   .injection e with e1 _;rw[e1]
 byValue:=λk v h=>by
  rcases mO h with⟨i,t,rfl,rfl⟩|⟨x,t,rfl,rfl⟩<;>rfl
 pyHash:=λhv h=>by
  rcases mO hv with⟨i,t,rfl,rfl⟩|⟨x,t,rfl,rfl⟩
  .exact wpAny_pyHash_int h
  .exact wpAny_pyHash_str h
 eqBool:=λhu hv h=>by
  rcases mO hu with⟨i,t,rfl,rfl⟩|⟨x,t,rfl,rfl⟩
  .rcases mO hv with⟨j,u,rfl,rfl⟩|⟨y,u,rfl,rfl⟩
   .rw[ac9] at h;apply wpAny_eqBool_int h
   .rw[Wn] at h;apply SeqAt.EqAt.int_str i t y u _ _ _ _ h
  .rcases mO hv with⟨j,u,rfl,rfl⟩|⟨y,u,rfl,rfl⟩
   .rw[abM] at h;apply SeqAt.EqAt.str_int x t j u _ _ _ _ h
   .rw[VV] at h;apply wpAny_eqBool_str h
 «strs»:=λk x t v h=>by
  rcases mO h with⟨i,u,rfl,e⟩|⟨y,u,rfl,e⟩
  .exact nomatch e
  .injection e with e1 _;subst e1;ext v<;>rfl
def afi(prog:Program)(w:World)(i:Int)(t:Tok):(gO prog w).is (.inl i) (.int i t)=true:=ahq i t
def XX(prog:Program)(w:World)(x:Str)(t:Tok):(gO prog w).is (.inr x) (.str x t)=true:=VO x t
inductive V where
 |aJ|bl (b:Bool)|int (i:Int)|str (x:Str)|kF (b:Array UInt8)|tE (b:UInt64)|ref (a:Addr)|ty (n:String)
 deriving DecidableEq
def RelV:V->Value->Prop
 |.aJ,u=>u=Value.none
 |.bl b,u=>u=Value.bool b
 |.int i,u=>∃t,u=Value.int i t
 |.str x,u=>∃t,u=Value.str x t
 |.kF b,u=>∃t,u=Value.bytes b t
 |.tE b,u=>∃t,u=Value.float b t
 |.ref a,u=>u=Value.ref a
 |.ty n,u=>u=Value.type n
abbrev aW:List V->List Value->Prop:=Paired RelV
def aW.length(r:aW xs us):xs.length=us.length:=Paired.length r
def aW.get:∀{xs} {us}{i:Nat} {x},aW xs us->xs[i]? = some x->∃u,us[i]? = some u/\RelV x u
 |_,_,_,_,.nil,e=>by simp at e
 |_,_,0,_,.cons r _,e=>by simp at e;subst e;apply#[_,rfl,r]
 |_,_,i+1,x,.cons _ t,e=>by
  let#[u,h1,h2]:=aW.get t (by simpa using e);apply#[u,by simpa using h1,h2]
def aW.append:∀{xs ys} {us ws},aW xs us->aW ys ws->aW (xs++ys) (us++ws)
 |_,_,_,_,.nil,s=>s
 |_,_,_,_,.cons r t,s=>.cons r (aW.append t s)
def aW.take:∀{xs} {us} (n),aW xs us->aW (xs.take n) (us.take n)
 |_,_,0,_=>.nil
 |_,_,_+1,.nil=>.nil
 |_,_,n+1,.cons r t=>.cons r (aW.take n t)
def aW.drop:∀{xs} {us} (n),aW xs us->aW (xs.drop n) (us.drop n)
 |_,_,0,r=>r
 |_,_,_+1,.nil=>.nil
 |_,_,n+1,.cons _ t=>aW.drop n t
def iK:Option V->Option Value->Prop
 |some v,some u=>RelV v u
 |none,none=>True
 |_,_=>False
def KV{κ:Type}:List (κ×V)->List (κ×Value)->Prop:=Paired λ(p:κ×V) (q:κ×Value)=>p.1=q.1/\RelV p.2 q.2
def kV:Key->V
 |.inl i=>.int i
 |.inr x=>.str x
def l9(h:Heap)(a:Addr)(items:Array Value):Prop:=∃o,h.get? a=some o/\o.cls=.type "tuple"/\o.dict=none/\∃n,o.data=.seq items n
def l9.isTup(x:l9 h a items):IsTup h a items:=let#[o,e,c,_,d]:=x;#[o,e,c,d]
def l9.lt(x:l9 h a items):a<h.objs.size:=let#[_,e,_]:=x;abb e
def l9.new(h:Heap)(items:Array Value):l9 (h.push { cls:=.type "tuple",data:=.seq items }) h.objs.size items:=#[_,abp _ rfl,rfl,rfl,_,rfl]
inductive HO where
 |lst (xs:List V)
 |tup (xs:List V)
 |dK (ao:List (Key×V))|dT (ao:List (List Key×V))
 |set (S:Int->Bool) (n:Nat)
 |ins (C dx:Addr) (fs:List (Str×V))
 |own (x:Addr)
 |xd (fs:List (Str×V))
 |met (f x:Addr)
 |cN (lo hi:Int)
 |cR (o:Obj) (u:HO)
 |sL (ps:Array Value)
 |i0 (q:Str) (pos:Pos)|jC (q:Str)
 |ext (φ:Heap->Prop)
abbrev Hp:=Addr->Option HO
inductive mP where
 |tup (xs:List V)|vF (o:Obj) (xs:List V)|i0 (q:Str) (pos:Pos)|jC (q:Str)
def mP.ho:mP->HO
 |.tup xs=>.tup xs
 |.vF o xs=>.cR o (.tup xs)
 |.i0 q p=>.i0 q p
 |.jC q=>.jC q
def mP.tp:mP->Option (List V)
 |.tup xs=>some xs
 |.vF _ xs=>some xs
 |_=>none
def Tk(H:Hp)(b:Addr)(xs:List V):Prop:=∃t:mP,t.tp=some xs/\H b=some t.ho
def upd(H:Hp)(a:Addr)(o:HO):Hp:=λb=>if b=a then some o else H b
def cg:upd H a o a=some o:=by unfold upd;rw[if_pos rfl]
def aP(h:b≠a):upd H a o b=H b:=by unfold upd;rw[aa0 h]
def ady{H:Hp}(h:H a=some o)(h':H b=some u)(d:o≠u):a≠b:=by
 intro e;subst e;rw[h] at h';apply d (abH h')
def dh{H:Hp}(h:H a=some o)(h':H b=none):a≠b:=by
 intro e;subst e;rw[h] at h';ext h'
section
variable(P:Program)(w:World)
def dZ(H:Hp)(h:Heap)(a:Addr):HO->Prop
 |.lst xs=>xs.length<=sizeLine/\∃(ay:List Value) (n:Nat),aW xs ay/\h.get? a=some { cls:=.type "list",data:=.seq ay.toArray n }
 |.tup xs=>xs.length<=sizeLine/\∃ay:List Value,aW xs ay/\l9 h a ay.toArray
 |.dK ao=>ao.length<=sizeLine/\(a==sysModules)=false/\∃vs,KV ao vs/\h.DictOf (gO P w) a vs
 |.dT ao=>ao.length<=sizeLine/\(a==sysModules)=false/\∃xs:List (List Key×Addr×Value),
   Paired (λ(p:List Key×V) (q:List Key×Addr×Value)=>p.1=q.1/\Tk H q.2.1 (p.1.map kV)/\RelV p.2 q.2.2) ao xs/\
   ∃o es ep,h.get? a=some o/\o.ExactDict/\o.data=.dict es ep/\es.toList=xs.map (entryOfKey (tupleKind (gO P w)))/\(xs.map (·.1)).Nodup
 |.set S n=>h.SetOf (intKind P w) a S n
 |.ins C dx fs=>H dx=some (.own a)/\fs.length<=1000/\dx≠a/\h.get? a=some (PySem.W.instObj C dx)/\
   ∃mA,h.Ns1 dx mA/\(∀f,iK (fs.lookup f) (mA f))/\PySem.Within mA (fs.map (·.1))
 |.own _=>∃o,h.get? a=some o
 |.xd fs=>∃mA,h.Ns1 a mA/\∀f,iK (fs.lookup f) (mA f)
 |.cN lo hi=>∃t u v,h.get? a=some { cls:=.type "range",data:=.fields ([.int lo t,.int hi u,.int 1 v].toArray) }
 |.cR o u=>h.get? a=some o/\dZ H h a u
 |.sL ps=>h.get? a=some { cls:=.none,data:=.fields ps }
 |.i0 q pos=>∃ps:Array Value,h.get? a=some { cls:=.none,data:=.fields ps }/\(ps=([].toArray)\/∃c,ps=([rawInt pos.line,rawInt pos.col,.ref c].toArray)/\H c=some (.jC q))
 |.jC q=>h.CodeRec (.ref a) q
 |.met f x=>h.get? a=some (PySem.W.methodObj (.ref f) (.ref x))
 |.ext φ=>φ h/\(∃o,h.get? a=some o)/\∀h1 h2:Heap,φ h1->(∀o,h1.get? a=some o->h2.get? a=some o)->φ h2
def dU(H:Hp)(h:Heap):Prop:=∀a o,H a=some o->dZ P w H h a o
end
def dZ.lt(x:dZ P w H h a o):a<h.objs.size:=by
 cases o with
 |lst xs=>let#[_,_,_,_,e]:=x;apply abb e
 |tup xs=>let#[_,_,_,p]:=x;apply p.lt
 |dK ao=>let#[_,_,_,_,o,_,_,e,_]:=x;apply abb e
 |dT ao=>let#[_,_,_,_,o,_,_,e,_]:=x;apply abb e
 |set S n=>let#[o,_,_,_,e,_]:=x;apply abb e
 |ins C dx fs=>let#[_,_,_,e,_]:=x;apply abb e
 |own y=>let#[_,e]:=x;apply abb e
 |xd fs=>let#[_,#[_,_,_,e,_],_]:=x;apply abb e
 |cN lo hi=>let#[_,_,_,e]:=x;apply abb e
 |cR ob u=>let#[e,_]:=x;apply abb e
 |sL ps=>apply abb (show h.get? a=some _ from x)
 |i0 q pos=>let#[_,e,_]:=x;apply abb e
 |jC q=>let#[_,_,_,_,e,g,_]:=x;ext e;apply abb g
 |met f y=>apply abb (show h.get? a=some _ from x)
 |ext φ=>let#[_,#[_,e],_]:=x;apply abb e
def Paired.DL:∀{TH} {Q7},Paired F TH Q7->(∀a b,F a b->G a b)->Paired G TH Q7
 |_,_,.nil,_=>.nil
 |_,_,.cons r t,f=>.cons (f _ _ r) (Paired.DL t f)
def dZ.gP(x:dZ P w H h a o)(k:∀b u,(b=a\/H b=some (.own a))->h.get? b=some u->h'.get? b=some u)
  (ho:∀b,H b=some (.own a)->H' b=some (.own a)) (ht:∀b (t:mP),H b=some t.ho->H' b=some t.ho):dZ P w H' h' a o:=by
 induction o with
 |lst xs=>let#[z,ay,n,r,e]:=x;apply#[z,ay,n,r,k _ _ (.inl rfl) e]
 |tup xs=>let#[z,ay,r,ob,e,c]:=x;apply#[z,ay,r,ob,k _ _ (.inl rfl) e,c]
 |dK ao=>let#[z,y,vs,r,ob,es,ep,e,c]:=x;apply#[z,y,vs,r,ob,es,ep,k _ _ (.inl rfl) e,c]
 |dT ao=>
  let#[z,y,xs,r,ob,es,ep,e,c]:=x;apply#[z,y,xs,Paired.DL r λp q z=>#[z.1,let#[t,e,g]:=z.2.1;#[t,e,ht _ t g],z.2.2],ob,es,ep,k _ _ (.inl rfl) e,c]
 |set S n=>let#[ob,es,ep,t,e,c]:=x;apply#[ob,es,ep,t,k _ _ (.inl rfl) e,c]
 |ins C dx fs=>
  let#[d,z,ne,e,mA,#[od,es,ep,e2,c],r]:=x;apply#[ho _ d,z,ne,k _ _ (.inl rfl) e,mA,#[od,es,ep,k _ _ (.inr d) e2,c],r]
 |own y=>let#[ob,e]:=x;apply#[ob,k _ _ (.inl rfl) e]
 |xd fs=>let#[mA,#[od,es,ep,e,c],r]:=x;apply#[mA,#[od,es,ep,k _ _ (.inl rfl) e,c],r]
 |cN lo hi=>let#[t,u,v,e]:=x;apply#[t,u,v,k _ _ (.inl rfl) e]
 |cR ob u ih=>let#[e,q]:=x;apply#[k _ _ (.inl rfl) e,ih q]
 |i0 q pos=>let#[ps,e,g]:=x;apply#[ps,k _ _ (.inl rfl) e,g.imp id λ⟨c,e1,e2⟩=>#[c,e1,ht c (.jC q) e2]]
 |jC q=>let#[_,o,vs,t,e,g,r]:=x;ext e;apply#[_,o,vs,t,rfl,k _ _ (.inl rfl) g,r]
 |sL ps=>
  have e:=x;apply k a _ (.inl rfl) e
 |met f y=>
  have e:=x;apply k a _ (.inl rfl) e
 |ext φ=>let#[p,#[o,e],st]:=x;apply#[st _ _ p λo q=>k _ _ (.inl rfl) q,#[o,k _ _ (.inl rfl) e],st]
def dU.lt(x:dU P w H h)(e:H a=some o):a<h.objs.size:=(x a o e).lt
def dU.fresh(x:dU P w H h)(e:h.objs.size<=a):H a=none:=by
 cases q:H a with
 |none=>rfl
 |some u=>apply absurd (acH (x.lt q) e) (agg _)
def dU.kept(x:dU P w H h)(k:∀b u,h.get? b=some u->h'.get? b=some u):dU P w H h':=λa o e=>
 (x a o e).gP (λb u _ q=>k b u q) (λ_ q=>q) λ_ _ q=>q
def dU.laid(x:dU P w H h)(k:∀b u,h.get? b=some u->h'.get? b=some u)(hp:h.objs.size<=a)(new:dZ P w (upd H a o) h' a o):dU P w (upd H a o) h':=λb u e=>by
 have hn:=x.fresh hp
 by_cases hb:b=a
 .subst hb;rw[cg] at e;ext e;apply new
 .rw[aP hb] at e;apply(x b u e).gP (λc v _ q=>k c v q) (λc q=>by rw[aP (dh q hn)];apply q) λc xs q=>by rw[aP (dh q hn)];apply q
def Rd(H:Hp)(a:Addr)(u:HO):Prop:=H a=some u\/∃o,H a=some (.cR o u)
def Rd.ok(r:Rd H a u)(x:dU P w H h):dZ P w H h a u:=by
 rcases r with r|⟨o,r⟩
 .exact x a u r
 .let#[_,q]:=x a _ r;apply q
def AD:Option HO->Prop
 |some (.lst _)=>True
 |some (.dK _)=>True
 |some (.dT _)=>True
 |some (.set _ _)=>True
 |some (.ins _ _ _)=>True
 |some (.ext _)=>True
 |_=>False
def dU.write(ok:dU P w H h)(mu:AD (H x))(he:e=x\/H e=some (.own x))(k:∀b u,b≠e->h.get? b=some u->h'.get? b=some u)(vS:∃u,h'.get? e=some u)
  (new:dZ P w (upd H x o') h' x o'):dU P w (upd H x o') h':=λb u q=>by
 have U3:∀c y,H c=some (.own y)->c≠x:=λc y r z=>by subst z;rw[r] at mu;apply mu
 have Ww:∀c (t:mP),H c=some t.ho->c≠x:=λc t r z=>by subst z;rw[r] at mu;ext t<;>apply mu
 by_cases hb:b=x
 .subst hb;rw[cg] at q;ext q;apply new
 .rw[aP hb] at q
  by_cases uv:b=e
  .have q':H b=some (.own x):=by
    rcases he with z|z
    .exact absurd (uv.trans z) hb
    .rw[uv];apply z
   rw[q] at q';ext q';let#[v,hv]:=vS;apply#[v,by rw[uv];apply hv]
  .refine(ok b u q).gP (λc v hc r=>k c v ?_ r) (λc r=>by rw[aP (U3 c b r)];apply r) λc xs r=>by rw[aP (Ww c xs r)];apply r
   rcases hc with rfl|hc
   .exact uv
   .rintro rfl
    rcases he with z|z
    .exact U3 c b hc z
    .rw[hc] at z;ext z;apply hb rfl
structure Un(fs ex:List Addr)(H H':Hp)(h h':Heap):Prop where
 keep:∀b o,h.get? b=some o->H b=none->b∉fs->b∉ex->h'.get? b=some o
 slot:∀b o,h.get? b=some o->H b=none->b∈fs->b∉ex->∃sl,h'.get? b=some { o with slots:=sl }
 free:∀b o,h.get? b=some o->H b=none->b∉ex->H' b=none
 there:∀b o,h.get? b=some o->b∉ex->∃o',h'.get? b=some o'
 jD:∀b (t:mP),H b=some t.ho->H' b=some t.ho
 jv:∀b o u,H b=some (.cR o u)->H' b=some (.cR o u)
 kC:∀b ps,H b=some (.sL ps)->∃more,H' b=some (.sL (ps++more))
def Un.any(u:Un fs ex H H1 h h1)(q:h.get? b=some ob)(n:H b=none)(hx:b∉ex):∃sl,h1.get? b=some { ob with slots:=sl }:=by
 by_cases hb:b∈fs
 .exact u.slot b ob q n hb hx
 .exact#[ob.slots,u.keep b ob q n hb hx]
def Un.kept(k:∀b u,h.get? b=some u->h'.get? b=some u):Un fs ex H H h h':=
 #[λb ob q _ _ _=>k b ob q,λb ob q _ _ _=>#[ob.slots,k b ob q],λ_ _ _ n _=>n,λb ob q _=>#[ob,k b ob q],λ_ _ q=>q,λ_ _ _ q=>q,λ_ ps q=>#[([].toArray),by rw[q];simp]]
def Un.refl:Un fs ex H H h h:=Un.kept λ_ _ q=>q
def Un.laid(k:∀b u,h.get? b=some u->h'.get? b=some u)(hp:h.objs.size<=a)(hn:H a=none):Un fs ex H (upd H a o) h h' where
 keep:=λb u q _ _ _=>k b u q
 slot:=λb u q _ _ _=>#[u.slots,k b u q]
 free:=λb u q n _=>by rw[aP (aco (acH (abb q) hp))];apply n
 there:=λb u q _=>#[u,k b u q]
 jD:=λb xs q=>by rw[aP (dh q hn)];apply q
 jv:=λb u xs q=>by rw[aP (dh q hn)];apply q
 kC:=λb ps q=>#[([].toArray),by rw[aP (dh q hn),q];simp]
def Un.write(mu:AD (H x))(he:e=x\/H e=some (.own x))(k:∀b u,b≠e->h.get? b=some u->h'.get? b=some u)(vS:∃u,h'.get? e=some u):Un fs ex H (upd H x o) h h':=by
 have hx:∀b,H b=none->b≠x:=λb n z=>by subst z;rw[n] at mu;apply mu
 have hb:∀b,H b=none->b≠e:=λb n z=>by
  subst z;rcases he with r|r
  .exact hx b n r
  .rw[n] at r;ext r
 have hm:∀b u,H b=some u->¬AD (some u)->b≠x:=λb u q nm z=>by subst z;rw[q] at mu;apply nm mu
 refine#[λb u q n _ _=>k b u (hb b n) q,λb u q n _ _=>#[u.slots,k b u (hb b n) q],λb u q n _=>by rw[aP (hx b n)];apply n,λb u q _=>?_,
  λb xs q=>by rw[aP (hm b _ q (by ext xs<;>apply λz=>z))];apply q,λb u xs q=>by rw[aP (hm b _ q λz=>z)];apply q,λb ps q=>#[([].toArray),by rw[aP (hm b _ q λz=>z),q];simp]]
 by_cases uv:b=e
 .subst uv;apply vS
 .exact#[u,k b u uv q]
def Dw(h:Heap)(H:Hp):List Addr:=(List.range h.objs.size).filter λa=>(H a).isSome
def se(h:Heap)(H:Hp):Heap:=PySem.W.hideAll h (Dw h H)
def adK(h:Heap)(H:Hp):(se h H).objs.size=h.objs.size:=PySem.W.hideAll_size _ _
def GP(e:h.get? b=some o)(n:H b=none):(se h H).get? b=some o:=
 PySem.W.hideAll_get _ e λhm=>by
  have q:=(acW.mp hm).2;rw[n] at q;simp at q
def VN(e:(se h H).get? b=some o):h.get? b=some o/\H b=none:=by
 have e':=PySem.W.of_hideAll (Dw h H) e;refine#[e',?_];cases q:H b with
 |none=>rfl
 |some x=>
  have hm:b∈Dw h H:=acW.mpr #[ajR.mpr (abb e'),by simp[q]];have z:(se h H).get? b=none:=PySem.W.hideAll_none (Dw h H) hm;rw[z] at e;ext e
structure Mod(K:Fr)(mg:Str->Option Value)(base:Heap):Prop where
 sM:K.In base
 glob:base.Ns mainGlobals mg
 blt:∃mb,base.Ns builtinsNs mb/\∀x:Str,x≠"__name__"->mb x=bootBuiltins x
 nolimit:base.NoLimit
 WV:∃bm ob,mg "__builtins__"=some (.ref bm)/\bm≠builtinsNs/\base.get? bm=some ob/\ob.cls=.type "module"/\ob.dict=some builtinsNs/\ob.data=.plain
structure Cx where
 prog:Program
 w:World
 K:Fr
 mg:Str->Option Value
 base:Heap
 A:Around
 N:List Str
 dH:Shared
 pG:Hp
 env:Env
 outer:List Env
 stack:List Env
 ex:List Addr
 fn:Str->Bool
 calm:Bool
 pn:List (Addr×Obj)
 xe:Value->Shared->Prop
def bK(l:List Env):List Addr:=l.filterMap (·.frame)
abbrev Cx.fs(X:Cx):List Addr:=bK X.outer
def Bp(sc:Scope)(x:Str):Prop:=sc.names.lookup x=some .local\/sc.names.lookup x=some .cell\/sc.names.lookup x=some .free
def Loc(sc:Scope)(x:Str):Prop:=sc.names.lookup x=some .local\/sc.names.lookup x=some .cell
def Look(env:Env)(h:Heap)(m:Str->Option Value)(x:Str)(u:Value):Prop:=
 (env.kindOf x=some .local/\m x=some u)\/((env.kindOf x=some .cell\/env.kindOf x=some .free)/\∃c,env.cells.lookup x=some c/\h.IsCell c (some u))
structure Cx.Ok(X:Cx):Prop where
 mod:Mod X.K X.mg X.base
 kind:X.env.scope.kind=.function
 glob:X.env.globals=mainGlobals
 blt:X.env.builtins=builtinsNs
 above:X.dH.heap.objs.size<=X.env.locals
 inj:∀x y c,X.env.cells.lookup x=some c->X.env.cells.lookup y=some c->x=y
 has:∀x,(X.env.kindOf x=some .cell\/X.env.kindOf x=some .free)->∃c,X.env.cells.lookup x=some c
 qe:∀x c,X.fn x=true->X.env.cells.lookup x=some c->X.dH.heap.objs.size<=c
 hd:X.calm=true->X.A.handled=none
 frames:X.A.frames=some X.stack
 rL:X.stack=X.outer\/(X.stack=X.env::X.outer/\X.env.frame=some X.env.locals)
 uf:∀b∈X.ex,b≠X.env.locals/\∀x c,X.env.cells.lookup x=some c->c≠b
 bs:∀b o,X.base.get? b=some o->X.dH.heap.get? b=some o/\X.pG b=none
 jI:X.base.objs.size<=X.dH.heap.objs.size
 pR:∀b o,X.base.get? b=some o->b∉X.ex
 qm:∀b∈X.ex,b∉X.fs
 jG:X.dH.heap.FunFrames X.base X.outer
 l_:∀b∈X.fs,X.pG b=none
def uD(A:Around)(H:Hp):Prop:=A.handled=none\/∃(a:Addr) (ob:Obj) (u:HO) (vs:Array Value),A.handled=some (.ref a)/\H a=some (.cR ob u)/\ob.data=.fields vs/\vs[2]? = some .none
def uD.mono(h:uD A H)(f:∀b o u,H b=some (.cR o u)->H' b=some (.cR o u)):uD A H':=h.elim .inl λ⟨a,ob,u,vs,h1,h2,h3⟩=>.inr #[a,ob,u,vs,h1,f _ _ _ h2,h3]
structure Hq(K:Fr)(A:Around)(H:Hp):Prop where
 hd:uD A H
 ok:AQ K=true
 lm:∀r∈jy K,H r.2.1=some (.i0 r.2.2.1 r.2.2.2)
def Hq.mono{K:Fr}(h:Hq K A H)(f:∀b o u,H b=some (.cR o u)->H' b=some (.cR o u))(g:∀b (t:mP),H b=some t.ho->H' b=some t.ho):Hq K A H':=
 #[h.hd.mono f,h.ok,λr m=>g _ (.i0 _ _) (h.lm r m)]
structure Inv(X:Cx)(af:List (Addr×Obj))(U:List (Option V))(H:Hp)(s:Shared):Prop where
 ok:X.Ok
 os:s.os=X.dH.os
 bare:AllBare s.gens
 base:Un X.fs X.ex X.pG H X.dH.heap s.heap
 loc:∃m,s.heap.Ns X.env.locals m/\∀(i:Nat) (x) (v),X.N[i]? = some x->U[i]? = some (some v)->Bp X.env.scope x->∃u,RelV v u/\Look X.env s.heap m x u
 cell:∀x c,X.env.cells.lookup x=some c->∃v,s.heap.IsCell c v
 free:H X.env.locals=none
 iC:∀x c,X.env.cells.lookup x=some c->H c=none
 pin:∀p∈X.pn++af,s.heap.get? p.1=some p.2/\H p.1=none/\p.1≠X.env.locals/\p.1∉X.fs/\∀v,p.2.data≠.cell v
 aM:dU X.prog X.w H s.heap
 len:U.length=X.N.length
 hq:Hq X.K X.A H
section
variable{X:Cx}
def Cx.Ok.ada(ok:X.Ok)(e:X.base.get? b=some o):b∉X.fs:=λhb=>by
 have:=(ok.jG.mem hb).1;rw[e] at this;ext this
def Inv.bs(I:Inv X af U H s):∀b o,X.base.get? b=some o->s.heap.get? b=some o/\H b=none:=λb o e=>
 #[I.base.keep b o (I.ok.bs b o e).1 (I.ok.bs b o e).2 (I.ok.ada e) (I.ok.pR b o e),I.base.free b o (I.ok.bs b o e).1 (I.ok.bs b o e).2 (I.ok.pR b o e)]
def Inv.bk(I:Inv X af U H s):∀b o,X.base.get? b=some o->s.heap.get? b=some o:=λb o e=>(I.bs b o e).1
def Inv.mod(I:Inv X af U H s):Mod X.K X.mg X.base:=I.ok.mod
def Inv.dJ(I:Inv X af U H s):X.K.In s.heap:=I.ok.mod.sM.keeps I.bk
def Inv.lt(I:Inv X af U H s):X.env.locals<s.heap.objs.size:=let#[_,hn,_]:=I.loc;hn.lt
def Inv.sz(I:Inv X af U H s):X.dH.heap.objs.size<=s.heap.objs.size:=aeC I.ok.above (agF I.lt)
def Inv.RJ(I:Inv X af U H s)(h:s.heap.objs.size<=a):a∉X.fs:=λhb=>by
 let#[_,o,ho,_]:=I.ok.jG.mem hb;apply absurd (acH (abb ho) (aeC I.sz h)) (agg _)
def Inv.nE(I:Inv X af U H s):∀x c,X.env.cells.lookup x=some c->c≠X.env.locals:=λx c e z=>by
 let#[v,o,ho,hd]:=I.cell x c e;let#[m,#[o',es,ep,mT,KH,_],_]:=I.loc;rw[z,mT] at ho;ext ho;rw[KH] at hd;ext hd
def Inv.jG(I:Inv X af U H s):s.heap.FunFrames X.base X.outer:=by
 have all:∀(l:List Env),(∀b∈bK l,b∈X.fs)->X.dH.heap.FunFrames X.base l->s.heap.FunFrames X.base l:=by
  intro l
  induction l with
  |nil=>intro _ _;trivial
  |cons env r ih=>
   intro hs hl;let#[hk,#[L,o,hf,hn,ho,hd],hr]:=hl;have hL:=hs L (by unfold bK;rw[afr,hf];apply aah);let#[sl,e]:=I.base.slot L o ho (I.ok.l_ L hL) hL λz=>I.ok.qm L z hL
   apply#[hk,#[L,_,hf,hn,e,hd],ih (λb hb=>hs b (by unfold bK;rw[afr,hf];apply aaf _ hb)) hr]
 apply all X.outer (λ_ hb=>hb) I.ok.jG
def Inv.stack(I:Inv X af U H s):s.heap.FunFrames X.base X.stack:=by
 rcases I.ok.rL with e|⟨e,hf⟩
 .rw[e];apply I.jG
 .rw[e];let#[m,hn,_]:=I.loc;refine .cons (by rw[I.ok.kind];decide) hf hn ?_ I.jG;apply ajy (aeC I.ok.jI I.ok.above)
def Inv.CT(I:Inv X af U H s):∀b∈bK X.stack,b∈X.env.locals::X.fs:=λb hb=>by
 rcases I.ok.rL with e|⟨e,hf⟩
 .rw[e] at hb;apply aaf _ hb
 .rw[e] at hb;unfold bK at hb;rw[afr,hf] at hb;apply hb
def Inv.wc(I:Inv X af U H s):∀b∈bK X.stack,H b=none:=λb hb=>by
 rcases aaA.mp (I.CT b hb) with e|hb
 .rw[e];apply I.free
 .let#[_,o,ho,_]:=I.ok.jG.mem hb;apply I.base.free b o ho (I.ok.l_ b hb) λz=>I.ok.qm b z hb
def Inv.step{ch:List Addr}(I:Inv X af U H s)
  (oA:∀b∈ch,(b∈X.ex\/X.dH.heap.objs.size<=b)/\b≠X.env.locals/\(∀x c,X.env.cells.lookup x=some c->c≠b)/\∀p∈X.pn++af,p.1≠b)
  (keep:∀b o,b≠X.env.locals->b∉X.fs->b∉ch->s.heap.get? b=some o->H b=none->h'.get? b=some o)
  (slot:∀b o,b≠X.env.locals->b∈X.fs->b∉ch->s.heap.get? b=some o->H b=none->∃sl,h'.get? b=some { o with slots:=sl }) (free:∀b o,b∉ch->s.heap.get? b=some o->H b=none->H' b=none)
  (there:∀b o,b∉ch->s.heap.get? b=some o->∃o',h'.get? b=some o')
  (jD:∀b (t:mP),H b=some t.ho->H' b=some t.ho) (jv:∀b o u,H b=some (.cR o u)->H' b=some (.cR o u)) (kC:∀b ps,H b=some (.sL ps)->∃more,H' b=some (.sL (ps++more)))
  (ns:∀m,s.heap.Ns X.env.locals m->h'.Ns X.env.locals m) (aM:dU X.prog X.w H' h') (hg:AllBare g') :
  Inv X af U H' { s with heap:=h',gens:=g',drawn:=d',toks:=t' }:=by
 have DH:∀b o,X.dH.heap.get? b=some o->b≠X.env.locals:=λb o e=>aco (acH (abb e) I.ok.above)
 have DM:∀b o,X.dH.heap.get? b=some o->b∉X.ex->b∉ch:=λb o e hx hb=>by
  rcases(oA b hb).1 with z|z
  .exact hx z
  .exact absurd (acH (abb e) z) (agg _)
 have cellK:∀x c,X.env.cells.lookup x=some c->∀v,s.heap.IsCell c v->h'.IsCell c v:=λx c e v #[o,ho,hd]=>by
  have lT:c∉ch:=λz=>(oA c z).2.2.1 x c e rfl
  by_cases hc:c∈X.fs
  .let#[sl,q]:=slot c o (I.nE x c e) hc lT ho (I.iC x c e);apply#[_,q,hd]
  .exact#[o,keep c o (I.nE x c e) hc lT ho (I.iC x c e),hd]
 refine#[I.ok,I.os,hg,#[λb o e n hb hx=>?_,λb o e n hb hx=>?_,λb o e n hx=>?_,λb o e hx=>?_,λb xs e=>jD b xs (I.base.jD b xs e),λb o xs e=>jv b o xs (I.base.jv b o xs e),λb ps e=>?_],?_,λx c e=>?_,?_,λx c e=>?_,λp hp=>?_,aM,I.len,I.hq.mono jv jD]
 .exact keep b o (DH b o e) hb (DM b o e hx) (I.base.keep b o e n hb hx) (I.base.free b o e n hx)
 .let#[sl,e1]:=I.base.slot b o e n hb hx;let#[xR,e2]:=slot b _ (DH b o e) hb (DM b o e hx) e1 (I.base.free b o e n hx);apply#[xR,e2]
 .let#[o',e1]:=I.base.there b o e hx;apply free b o' (DM b o e hx) e1 (I.base.free b o e n hx)
 .let#[o',e1]:=I.base.there b o e hx;apply there b o' (DM b o e hx) e1
 .let#[m1,e1]:=I.base.kC b ps e;let#[m2,e2]:=kC b _ e1;apply#[m1++m2,by rw[e2,Array.append_assoc]]
 .let#[m,hn,hl]:=I.loc;refine#[m,ns m hn,λi x v e1 e2 e3=>?_];let#[u,r,l]:=hl i x v e1 e2 e3;refine#[u,r,?_];rcases l with l|⟨k,c,e,z⟩
  .exact .inl l
  .exact .inr #[k,c,e,cellK x c e _ z]
 .let#[v,z]:=I.cell x c e;apply#[v,cellK x c e v z]
 .let#[m,#[o,_,_,ho,_],_]:=I.loc;apply free _ o (λz=>(oA _ z).2.1 rfl) ho I.free
 .let#[v,o,ho,hd]:=I.cell x c e;apply free c o (λz=>(oA c z).2.2.1 x c e rfl) ho (I.iC x c e)
 .let#[e,n,ne,nf,d]:=I.pin p hp;have lT:p.1∉ch:=λz=>(oA p.1 z).2.2.2 p hp rfl
  apply#[keep p.1 p.2 ne nf lT e n,free p.1 p.2 lT e n,ne,nf,d]
def Inv.un(I:Inv X af U H s)(u:Un X.fs [] H H' s.heap h')(aM:dU X.prog X.w H' h'):Inv X af U H' { s with heap:=h',toks:=t' }:=by
 let#[m,#[o,es,ep,ho,r],_]:=id I.loc;let#[sl,hL]:=u.any ho I.free (by simp);apply I.step (g':=s.gens) (d':=s.drawn) (ch:=[]) (λ_ z=>nomatch z) (λb o _ hb _ e n=>u.keep b o e n hb (by simp)) (λb o _ hb _ e n=>u.slot b o e n hb (by simp)) (λb o _ e n=>u.free b o e n (by simp)) (λb o _ e=>u.there b o e (by simp)) u.jD u.jv u.kC (λm' hm=>by
  let#[o',vd,AW,mT,r']:=hm;rw[ho] at mT;ext mT;apply#[_,vd,AW,hL,r']) aM I.bare
def Inv.call{ch:List Addr}(I:Inv X af U H s)(u:Un (bK X.stack) ch H H' s.heap h')(aM:dU X.prog X.w H' h')(hg:AllBare g')
  (oA:∀b∈ch,(b∈X.ex\/X.dH.heap.objs.size<=b)/\b≠X.env.locals/\(∀x c,X.env.cells.lookup x=some c->c≠b)/\∀p∈X.pn++af,p.1≠b) :
  Inv X af U H' { s with heap:=h',gens:=g',drawn:=d',toks:=t' }:=by
 let#[m,#[o,es,ep,ho,r],_]:=id I.loc;let#[sl,hL]:=u.any ho I.free λz=>(oA _ z).2.1 rfl
 apply I.step (ch:=ch) oA (λb o hL hb hc e n=>u.keep b o e n (λz=>(aaA.mp (I.CT b z)).elim hL hb) hc) (λb o _ _ hc e n=>u.any e n hc) (λb o hc e n=>u.free b o e n hc) (λb o hc e=>u.there b o e hc) u.jD u.jv u.kC (λm' hm=>by
  let#[o',vd,AW,mT,r']:=hm;rw[ho] at mT;ext mT;apply#[_,vd,AW,hL,r']) aM hg
def Inv.turned{it:Addr}(I:Inv X af U H s)(k:∀b o,b≠it->s.heap.get? b=some o->h'.get? b=some o)(hn:H it=none)(hL:it≠X.env.locals)
  (h1:it∈X.ex\/X.dH.heap.objs.size<=it) (h2:∀x c,X.env.cells.lookup x=some c->c≠it) (h3:∀p∈X.pn++af,p.1≠it):Inv X af U H { s with heap:=h',toks:=t' }:=by
 have OR:∀b u,H b=some u->b≠it:=λb u e z=>by rw[z,hn] at e;ext e
 refine I.step (g':=s.gens) (d':=s.drawn) (ch:=[it]) (λb hb=>?_) (λb o _ _ hc e _=>k b o (λz=>hc (by simp[z])) e) (λb o _ _ hc e _=>#[o.slots,k b o (λz=>hc (by simp[z])) e]) (λ_ _ _ _ n=>n)
  (λb o hc e=>#[o,k b o (λz=>hc (by simp[z])) e]) (λ_ _ e=>e) (λ_ _ _ e=>e) (λb ps e=>#[([].toArray),by rw[e];simp]) (λm hm=>?_) (λb u e=>?_) I.bare
 .have e:b=it:=by simpa using hb
  subst e;apply#[h1,hL,h2,h3]
 .let#[o,es,ep,ho,r]:=hm;apply#[o,es,ep,k _ o (ahc hL) ho,r]
 .refine(I.aM b u e).gP (λc v hc q=>k c v ?_ q) (λ_ q=>q) λ_ _ q=>q
  rcases hc with z|z
  .rw[z];apply OR b u e
  .exact OR c _ z
def Inv.tok(I:Inv X af U H s)(t:Nat):Inv X af U H { s with toks:=t }:=I.un Un.refl I.aM
def Inv.kept(I:Inv X af U H s)(k:∀b u,s.heap.get? b=some u->h'.get? b=some u):Inv X af U H { s with heap:=h',toks:=t' }:=I.un (Un.kept k) (I.aM.kept k)
def Inv.laid(I:Inv X af U H s)(k:∀b u,s.heap.get? b=some u->h'.get? b=some u)(hp:s.heap.objs.size<=a)(new:dZ X.prog X.w (upd H a o) h' a o):
  Inv X af U (upd H a o) { s with heap:=h',toks:=t' }:=I.un (Un.laid k hp (I.aM.fresh hp)) (I.aM.laid k hp new)
def Inv.write(I:Inv X af U H s)(mu:AD (H x))(he:e=x\/H e=some (.own x))(k:∀b u,b≠e->s.heap.get? b=some u->h'.get? b=some u)(vS:∃u,h'.get? e=some u)
  (new:dZ X.prog X.w (upd H x o) h' x o):Inv X af U (upd H x o) { s with heap:=h',toks:=t' }:=I.un (Un.write mu he k vS) (I.aM.write mu he k vS new)
def Inv.uY(I:Inv X af U H s)(h:∀p∈AA,s.heap.get? p.1=some p.2/\H p.1=none/\p.1≠X.env.locals/\p.1∉X.fs/\∀v,p.2.data≠.cell v):Inv X AA U H s:=
 #[I.ok,I.os,I.bare,I.base,I.loc,I.cell,I.free,I.iC,λp hp=>(abc.mp hp).elim (λz=>I.pin p (aaL _ z)) (h p),I.aM,I.len,I.hq]
def Oi{N:List Str}(hN:N.Nodup){i j:Nat}(a:N[i]? = some x)(b:N[j]? = some x):i=j:=by
 let#[h1,e1]:=acS.mp a;let#[h2,e2]:=acS.mp b;apply(List.getElem_inj hN).mp (e1.trans e2.symm)
def MK{M:Model}(I:Inv X af U H s)(hN:X.N.Nodup)(hi:X.N[i]? = some x)(hx:Loc X.env.scope x)(r:RelV v u)
  (h:∀s',Inv X af (U.set i (some v)) H s'->(∃a,Heap.SameBut a s.heap s'.heap/\(a=X.env.locals\/X.env.cells.lookup x=some a))->Q () s') (hf:X.fn x=true\/X.env.scope.names.lookup x=some .local:=by first|exact .inl rfl|exact .inr rfl|assumption):wpAny M A (storeName X.env x u) Q E s:=by
 let#[m,hn,hl]:=id I.loc;have HU:(X.env.scope.kind == .class||(X.env.scope.kind == .module&&X.env.locals != X.env.globals))=false:=by rw[I.ok.kind];rfl
 have MY:i<U.length:=by rw[I.len];apply(acS.mp hi).1
 have nE:=I.nE;have tracked:∀{a:Addr} {h'},(∃o,s.heap.get? a=some o/\H a=none)->Heap.SameBut a s.heap h'->dU X.prog X.w H h':=λ{a h'} ha hs b ob e=>by
  let#[_,_,QU]:=ha;refine(I.aM b ob e).gP (λc w' hc q=>(hs.2 c ?_).trans q) (λ_ q=>q) λ_ _ q=>q
  rintro rfl
  rcases hc with rfl|hc
  .rw[QU] at e;ext e
  .rw[QU] at hc;ext hc
 rcases hx with hk|hk
 .refine wpAny_storeName_local hk hn (λh' AE hs=>?_) HU;let#[oL,_,_,Cz,_]:=id hn;refine h _ #[I.ok,I.os,I.bare,#[λb o e n hb hx=>?_,λb o e n hb hx=>?_,I.base.free,λb o e hx=>?_,I.base.jD,I.base.jv,I.base.kC],#[_,AE,λj y v' e1 e2 e3=>?_],λy c e=>?_,I.free,I.iC,λp hp=>?_,tracked #[oL,Cz,I.free] hs,by simpa using I.len,I.hq] #[_,hs,.inl rfl]
  .exact(hs.2 b (aco (acH (abb e) I.ok.above))).trans (I.base.keep b o e n hb hx)
  .let#[sl,e1]:=I.base.slot b o e n hb hx;apply#[sl,(hs.2 b (aco (acH (abb e) I.ok.above))).trans e1]
  .let#[o',e1]:=I.base.there b o e hx;apply#[o',(hs.2 b (aco (acH (abb e) I.ok.above))).trans e1]
  .by_cases hj:j=i
   .subst hj;rw[hi] at e1;ext e1;rw[agc MY] at e2;ext e2;apply#[u,r,.inl #[hk,by simp]]
   .rw[adt (ahc hj)] at e2;let#[u',r',q]:=hl j y v' e1 e2 e3;refine#[u',r',?_];rcases q with⟨k,e⟩|⟨k,c,e,z⟩
    .refine .inl #[k,?_];have:y≠x:=λe=>hj (Oi hN e1 (e ▸ hi))
     simp[this,e]
    .exact .inr #[k,c,e,z.sameBut hs (nE y c e)]
  .let#[w',z]:=I.cell y c e;apply#[w',z.sameBut hs (nE y c e)]
  .let#[e,n,ne,nf,d]:=I.pin p hp;apply#[(hs.2 p.1 ne).trans e,n,ne,nf,d]
 .have Kq:X.fn x=true:=by
   rcases hf with z|z
   .exact z
   .rw[z] at hk;ext hk
  let#[c,hc]:=I.ok.has x (.inl hk);let#[w',z]:=I.cell x c hc;refine wpAny_storeName_cell I.ok.kind hk hc z (λh' ua hs=>?_);let#[oc,lJ,Ym]:=id z;refine h { s with heap:=h' } #[I.ok,I.os,I.bare,#[λb o e n hb hx=>?_,λb o e n hb hx=>?_,I.base.free,λb o e hx=>?_,I.base.jD,I.base.jv,I.base.kC],#[m,hn.sameBut hs (ahc (nE x c hc)),λj y v' e1 e2 e3=>?_],λy c' e=>?_,I.free,I.iC,λp hp=>?_,tracked #[oc,lJ,I.iC x c hc] hs,by simpa using I.len,I.hq] #[c,hs,.inr hc]
  .exact(hs.2 b (aco (acH (abb e) (I.ok.qe x c Kq hc)))).trans (I.base.keep b o e n hb hx)
  .let#[sl,e1]:=I.base.slot b o e n hb hx;apply#[sl,(hs.2 b (aco (acH (abb e) (I.ok.qe x c Kq hc)))).trans e1]
  .let#[o',e1]:=I.base.there b o e hx;apply#[o',(hs.2 b (aco (acH (abb e) (I.ok.qe x c Kq hc)))).trans e1]
  .by_cases hj:j=i
   .subst hj;rw[hi] at e1;ext e1;rw[agc MY] at e2;ext e2;apply#[u,r,.inr #[.inl hk,c,hc,ua]]
   .rw[adt (ahc hj)] at e2;let#[u',r',q]:=hl j y v' e1 e2 e3;refine#[u',r',?_];rcases q with q|⟨k,c',e,z'⟩
    .exact .inl q
    .refine .inr #[k,c',e,z'.sameBut hs ?_]
     rintro rfl
     apply hj (Oi hN e1 (I.ok.inj _ _ _ e hc ▸ hi))
  .by_cases Tt:c'=c
   .subst Tt;apply#[_,ua]
   .let#[w2,z2]:=I.cell y c' e;apply#[w2,z2.sameBut hs Tt]
  .let#[e,n,ne,nf,d]:=I.pin p hp;refine#[(hs.2 p.1 ?_).trans e,n,ne,nf,d];intro q;rw[q,lJ] at e;have q':=abH e;apply d w' (by rw[<- q'];apply Ym)
def FQ(I:Inv X af U H s)(hN:X.N.Nodup)(hi:X.N[i]? = some x)(hx:Loc X.env.scope x)(r:RelV v u)
  (h:∀s',Inv X af (U.set i (some v)) H s'->Q () s') (hf:X.fn x=true\/X.env.scope.names.lookup x=some .local:=by first|exact .inl rfl|exact .inr rfl|assumption):wpAny M A (storeName X.env x u) Q E s:=
 MK I hN hi hx r (λs' I' _=>h s' I') hf
def Inv.T8(I:Inv X af U H s)(ho:s'.os=s.os)(u:Un (bK X.stack) ch H H' s.heap s'.heap)(aM:dU X.prog X.w H' s'.heap)(hg:AllBare s'.gens)
  (oA:∀b∈ch,(b∈X.ex\/X.dH.heap.objs.size<=b)/\b≠X.env.locals/\(∀x c,X.env.cells.lookup x=some c->c≠b)/\∀p∈X.pn++af,p.1≠b):Inv X af U H' s':=by
 let#[h',g',d',t',o']:=s';have e:=ho;subst e;apply I.call (g':=g') (d':=d') u aM hg oA
end
abbrev XK:=Value->Option Addr->Hp->Prop
abbrev St:=List (Option V)
abbrev VK:=V->Hp->Prop
abbrev TE:=St->Hp->VK->Prop
abbrev TT:=St->Hp->(Bool->Hp->Prop)->Prop
abbrev TA:=St->Hp->(List V->Hp->Prop)->Prop
structure Ends where
 nx:St->Hp->Prop
 rt:VK
 bk:St->Hp->Prop:=λ_ _=>False
 ct:St->Hp->Prop:=λ_ _=>False
abbrev TS:=Ends->St->Hp->Prop
def EP(X:Cx)(af:List (Addr×Obj))(U:St)(Q:VK)(u:Value)(s':Shared):Prop:=∃v H',Inv X af U H' s'/\RelV v u/\Q v H'
def TP(X:Cx)(af:List (Addr×Obj))(U:St)(Q:Bool->Hp->Prop)(b:Bool)(s':Shared):Prop:=∃H',Inv X af U H' s'/\Q b H'
def AP(X:Cx)(af:List (Addr×Obj))(U:St)(Q:List V->Hp->Prop)(us:List Value)(s':Shared):Prop:=∃vs H',Inv X af U H' s'/\aW vs us/\Q vs H'
def SP(X:Cx)(af:List (Addr×Obj))(D:Ends)(f:Flow)(s':Shared):Prop:=
 match f with
 |.next=>∃aG H',Inv X af aG H' s'/\D.nx aG H'
 |.brk=>∃aG H',Inv X af aG H' s'/\D.bk aG H'
 |.cont=>∃aG H',Inv X af aG H' s'/\D.ct aG H'
 |.ret u=>∃v aG H',Inv X af aG H' s'/\RelV v u/\D.rt v H'
def PE(X:Cx)(e:Expr)(t:TE):Prop:=
 ∀(af) (s) (U) (H) (Q),Inv X af U H s->t U H Q->wpAny (model X.prog X.w) X.A (eval e X.env) (EP X af U Q) X.xe s
def PT(X:Cx)(e:Expr)(t:TT):Prop:=
 ∀(af) (s) (U) (H) (Q),Inv X af U H s->t U H Q->wpAny (model X.prog X.w) X.A (isTrue e X.env (eval e X.env)) (TP X af U Q) X.xe s
def PW(X:Cx)(e:Expr)(t:TT):Prop:=
 ∀(whole) (af) (s) (U) (H) (Q),Inv X af U H s->t U H Q->wpAny (model X.prog X.w) X.A (isTrue e X.env whole) (TP X af U Q) X.xe s
def PW.pt(h:PW X e t):PT X e t:=h _
def PA(X:Cx)(es:List Expr)(t:TA):Prop:=
 ∀(pos) (af) (s) (U) (H) (Q),Inv X af U H s->t U H Q->wpAny (model X.prog X.w) X.A (spliced (backTo pos (starEach es X.env))) (AP X af U Q) X.xe s
def PS(X:Cx)(st:Stmt)(t:TS):Prop:=
 ∀(af) (s) (U) (H) (D),Inv X af U H s->t D U H->wpAny (model X.prog X.w) X.A (exec st X.env) (SP X af D) X.xe s
def iX(X:Cx)(st:List Stmt)(t:TS):Prop:=
 ∀(af) (s) (U) (H) (D),Inv X af U H s->t D U H->wpAny (model X.prog X.w) X.A (execs st X.env) (SP X af D) X.xe s
def cX(h:wpAny M A t Q E s)(hQ:∀a s,Q a s->Q' a s):wpAny M A t Q' E s:=aeG h hQ λ_ _ x=>x
def yJ(h:wpAny M A t (EP X af U Q) E s)(k:∀v s1 x H1,Inv X af U H1 s1->RelV x v->Q x H1->Q' v s1):wpAny M A t Q' E s:=cX h λv s1 #[x,H1,I,r,q]=>k v s1 x H1 I r q
def xT(h:wpAny M A t (AP X af U Q) E s)(k:∀v s1 x H1,Inv X af U H1 s1->aW x v->Q x H1->Q' v s1):wpAny M A t Q' E s:=cX h λv s1 #[x,H1,I,r,q]=>k v s1 x H1 I r q
def G0(h:wpAny M A t (TP X af U Q) E s)(k:∀v s1 H1,Inv X af U H1 s1->Q v H1->Q' v s1):wpAny M A t Q' E s:=cX h λv s1 #[H1,I,q]=>k v s1 H1 I q
def PE.n(a:PE X e t)(I:Inv X af U H s)(h:t U H Q)(k:∀v s1 x H1,Inv X af U H1 s1->RelV x v->Q x H1->Q' v s1):wpAny (model X.prog X.w) X.A (eval e X.env) Q' X.xe s:=yJ (a af s U H Q I h) k
def PT.n(a:PT X e t)(I:Inv X af U H s)(h:t U H Q)(k:∀v s1 H1,Inv X af U H1 s1->Q v H1->Q' v s1):wpAny (model X.prog X.w) X.A (isTrue e X.env (eval e X.env)) Q' X.xe s:=G0 (a af s U H Q I h) k
def PA.n(a:PA X e t)(I:Inv X af U H s)(h:t U H Q)(k:∀v s1 x H1,Inv X af U H1 s1->aW x v->Q x H1->Q' v s1):wpAny (model X.prog X.w) X.A (spliced (backTo pos (starEach e X.env))) Q' X.xe s:=xT (a pos af s U H Q I h) k
section
def qC(i:Nat):TE:=λU H Q=>∃v,U[i]? = some (some v)/\Q v H
def tC(v:V):TE:=λ_ H Q=>Q v H
def JF(hN:X.N[i]? = some x)(hv:Bp X.env.scope x)(hd:(x==("__debug__":Str))=false:=by decide)(kR:(x==("__classdict__":Str))=false:=by decide):PE X (.Name x pos) (qC i):=by
 intro af s U H Q I h;let#[v,e,h]:=h;let#[m,hn,hl]:=I.loc;let#[u,r,l]:=hl i x v hN e hv;have fin:EP X af U Q u s:=#[v,H,I,r,h]
 rcases l with⟨hk,hm⟩|⟨hk,c,hc,Oo⟩
 .exact wpAny_Name (wpAny_loadName_local I.ok.kind hk hn hm fin) hd
 .rcases hk with hk|hk
  .exact wpAny_Name (wpAny_loadName_cell I.ok.kind hk hc Oo fin) hd
  .exact wpAny_Name (wpAny_loadName_free I.ok.kind hk hc Oo fin kR) hd
def CH{i j pos}:PE X (.Constant (.int i) j pos) (tC (.int i)):=λ_ _ _ H _ I h=>wpAny_Constant_int #[.int i,H,I.tok _,#[_,rfl],h]
def aeE{b j pos}:PE X (.Constant (.bool b) j pos) (tC (.bl b)):=λ_ _ _ H _ I h=>Constant_bool #[.bl b,H,I,rfl,h]
def Yd{j pos}:PE X (.Constant .none j pos) (tC .aJ):=λ_ _ _ H _ I h=>Constant_none #[.aJ,H,I,rfl,h]
def QL{x j pos}:PE X (.Constant (.str x) j pos) (tC (.str x)):=λ_ _ _ H _ I h=>Calls.Constant_str #[.str x,H,I.tok _,#[_,rfl],h]
def Gl(X:Cx)(x:Str):Prop:=X.env.kindOf x=some .globalImplicit
def sY(I:Inv X af U H s)(hg:Gl X x)(hm:X.mg x=some u)(h:Q u s)
  (hd:(x==("__debug__":Str))=false:=by decide):wpAny (model X.prog X.w) X.A (eval (.Name x pos) X.env) Q E s:=
 Calls.Name_function_global I.ok.kind hg (Calls.loadGlobal_global (by rw[I.ok.glob];apply I.mod.glob.keeps I.bk) hm h) hd
def qw(I:Inv X af U H s)(hg:Gl X x)(hm:X.mg x=none)(hv:bootBuiltins x=some u)(h:Q u s)
  (hn:x≠"__name__":=by decide) (hd:(x==("__debug__":Str))=false:=by decide):wpAny (model X.prog X.w) X.A (eval (.Name x pos) X.env) Q E s:=by
 let#[mb,h1,h2]:=I.mod.blt;apply Calls.Name_function_global I.ok.kind hg (Calls.loadGlobal_builtin (by rw[I.ok.glob];apply I.mod.glob.keeps I.bk) hm (by rw[I.ok.blt];apply h1.keeps I.bk) ((h2 x hn).trans hv) h) hd
def Nt(hg:Gl X x)(hm:X.mg x=some u)(r:RelV v u)(hd:(x==("__debug__":Str))=false:=by decide):PE X (.Name x pos) (tC v):=
 λ_ _ _ H _ I h=>sY I hg hm #[v,H,I,r,h] hd
def Bl(hg:Gl X x)(hm:X.mg x=none)(hv:bootBuiltins x=some u)(r:RelV v u)(hn:x≠"__name__":=by decide)(hd:(x==("__debug__":Str))=false:=by decide):PE X (.Name x pos) (tC v):=
 λ_ _ _ H _ I h=>qw I hg hm hv #[v,H,I,r,h] hn hd
def PC(X:Cx)(op:CmpOp)(a b:Expr)(t:TE):Prop:=
 ∀(af) (s) (U) (H) (Q),Inv X af U H s->t U H Q->
  wpAny (model X.prog X.w) X.A (eval a X.env) (λv cL=>wpAny (model X.prog X.w) X.A (eval b X.env) (λu rX=>wpAny (model X.prog X.w) X.A (compareOp op v u) (EP X af U Q) X.xe rX) X.xe cL) X.xe s
def tB(t:TE):TT:=λU H Q=>t U H λx H1=>∃c,x=.bl c/\Q c H1
def NU(h:PC X op a b t)(h1:behindInMarks op b=false:=by first|exact Yq _ (by decide) (by decide)|rfl):PE X (.Compare a [op] [b] pos) t:=λaf s U H Q I hw=>wpAny_Compare1 (h af s U H Q I hw) h1
def ah2(h:PC X op a b t)(h1:behindInMarks op b=false:=by first|exact Yq _ (by decide) (by decide)|rfl):PT X (.Compare a [op] [b] pos) (tB t):=by
 intro af s U H Q I hw;refine wpAny_isTrue_Compare1 (cX (h af s U H _ I hw) λv s1 h1=>cX h1 λu s2 h2=>cX h2 λc s3 #[x,H1,I1,r1,q1]=>?_) h1;let#[d,rfl,q]:=q1;ext r1;apply agz #[H1,I1,q]
def Uz(h:PE X e t)(he:∀whole,isTrue e X.env whole=(do let v <- whole;standAt e.pos;holding [v] (truthy v)):=by intro _;rfl):PT X e (tB t):=by
 intro af s U H Q I hw;refine isTrue_plain (h.n I hw λv s1 x H1 I1 r1 q1=>?_) (he _);let#[d,rfl,q]:=q1;ext r1;apply agz #[H1,I1,q]
variable{rest:List Expr}
def aa4(t u:TT):TT:=λU H Q=>t U H λc H1=>if c=true then u U H1 Q else Q false H1
def tOr(t u:TT):TT:=λU H Q=>t U H λc H1=>if c=true then Q true H1 else u U H1 Q
def agM(t:TT):TT:=λU H Q=>t U H λc H1=>Q (!c) H1
def T7(ha:PT X a tA):PW X (.BoolOp .And [a] pos) tA:=by
 intro wh af s U H Q I h;refine isTrue_and (cX (ha af s U H Q I h) λc s1 e=>?_);cases c with
 |true=>apply isTrue_and_nil e
 |false=>apply e
def abj(ha:PT X a tA):PW X (.BoolOp .Or [a] pos) tA:=by
 intro wh af s U H Q I h;refine isTrue_or (cX (ha af s U H Q I h) λc s1 e=>?_);cases c with
 |false=>apply isTrue_or_nil e
 |true=>apply e
def Fp(ha:PT X a tA)(hb:PW X (.BoolOp .And (b::rest) pos) Ir):PW X (.BoolOp .And (a::b::rest) pos) (aa4 tA Ir):=by
 intro wh af s U H Q I h;refine isTrue_and (ha.n I h λc s1 H1 I1 q1=>?_);cases c with
 |true=>apply hb wh af s1 U H1 Q I1 q1
 |false=>apply#[H1,I1,q1]
def ahy(ha:PT X a tA)(hb:PW X (.BoolOp .Or (b::rest) pos) Ir):PW X (.BoolOp .Or (a::b::rest) pos) (tOr tA Ir):=by
 intro wh af s U H Q I h;refine isTrue_or (ha.n I h λc s1 H1 I1 q1=>?_);cases c with
 |true=>apply#[H1,I1,q1]
 |false=>apply hb wh af s1 U H1 Q I1 q1
def afO(ha:PT X a tA):PT X (.UnaryOp .Not a pos) (agM tA):=by
 intro af s U H Q I h;apply isTrue_not (ha af s U H (λc H1=>Q (!c) H1) I h)
def aho(ta tb:TE):TE:=λU H Q=>ta U H λx H1=>∃c,x=.bl c/\if c=true then tb U H1 Q else Q (.bl false) H1
def afN(ta tb:TE):TE:=λU H Q=>ta U H λx H1=>∃c,x=.bl c/\if c=true then Q (.bl true) H1 else tb U H1 Q
def Xx(ta:TE):TE:=λU H Q=>ta U H λx H1=>∃c,x=.bl c/\Q (.bl (!c)) H1
def MP{op}(h:PE X a t):PE X (.BoolOp op [a] pos) t:=λaf s U H Q I hw=>BoolOp_one (h af s U H Q I hw)
def Yt(ha:PE X a ta)(hb:PE X (.BoolOp .And (b::rest) pos) tb):PE X (.BoolOp .And (a::b::rest) pos) (aho ta tb):=by
 intro af s U H Q I h;refine BoolOp_and (ha.n I h λv s1 x H1 I1 r1 q1=>?_);let#[c,rfl,q1]:=q1;ext r1;refine agz ?_;cases c with
 |true=>apply hb af s1 U H1 Q I1 q1
 |false=>apply#[.bl false,H1,I1,rfl,q1]
def acC(ha:PE X a ta)(hb:PE X (.BoolOp .Or (b::rest) pos) tb):PE X (.BoolOp .Or (a::b::rest) pos) (afN ta tb):=by
 intro af s U H Q I h;refine BoolOp_or (ha.n I h λv s1 x H1 I1 r1 q1=>?_);let#[c,rfl,q1]:=q1;ext r1;refine agz ?_;cases c with
 |false=>apply hb af s1 U H1 Q I1 q1
 |true=>apply#[.bl true,H1,I1,rfl,q1]
def agh(ha:PE X a ta):PE X (.UnaryOp .Not a pos) (Xx ta):=by
 intro af s U H Q I h;refine UnaryOp_ (ha.n I h λv s1 x H1 I1 r1 q1=>?_);let#[c,rfl,q1]:=q1;ext r1;apply not_of (agz #[.bl (!c),H1,I1,rfl,q1])
def tIf(t:TT)(ta tb:TE):TE:=λU H Q=>t U H λc H1=>if c=true then ta U H1 Q else tb U H1 Q
def afg(hc:PT X c tA)(ha:PE X a ta)(hb:PE X b tb):PE X (.IfExp c a b pos) (tIf tA ta tb):=by
 intro af s U H Q I h;refine wpAny_IfExp (hc.n I h λd s1 H1 I1 q1=>?_);cases d with
 |true=>apply ha af s1 U H1 Q I1 q1
 |false=>apply hb af s1 U H1 Q I1 q1
end
def cH(K:Fr)(H:Hp)(a:Addr)(xs:List V):Prop:=
 Rd H a (.lst xs)\/
  ∃(o:Obj) (ay:Array Value) (n:Nat),K.lookup a=some o/\o.cls=.type "list"/\o.dict=none/\o.data=.seq ay n/\ay.size<=sizeLine/\aW xs ay.toList
def cO(K:Fr)(H:Hp)(a:Addr)(xs:List V):Prop:=
 Rd H a (.tup xs)\/
  ∃(o:Obj) (ay:Array Value) (n:Nat),K.lookup a=some o/\o.cls=.type "tuple"/\o.dict=none/\o.data=.seq ay n/\ay.size<=sizeLine/\aW xs ay.toList
def ai5:Value->Option V
 |.none=>some .aJ
 |.bool b=>some (.bl b)
 |.int i _=>some (.int i)
 |.str x _=>some (.str x)
 |.bytes b _=>some (.kF b)
 |.float b _=>some (.tE b)
 |.ref a=>some (.ref a)
 |.type n=>some (.ty n)
 |_=>none
def RelV.abs(r:RelV x u):ai5 u=some x:=by
 cases x with
 |aJ=>ext r;rfl
 |bl _=>ext r;rfl
 |int _=>let#[t,rfl]:=r;rfl
 |str _=>let#[t,rfl]:=r;rfl
 |kF _=>let#[t,rfl]:=r;rfl
 |tE _=>let#[t,rfl]:=r;rfl
 |ref _=>ext r;rfl
 |ty _=>ext r;rfl
def RelV.inj(r:RelV x u)(q:RelV y u):x=y:=abH (r.abs.symm.trans q.abs)
def aW.inj:∀{xs ys} {us},aW xs us->aW ys us->xs=ys
 |_,_,_,.nil,.nil=>rfl
 |_,_,_,.cons r t,.cons r' t'=>by rw[r.inj r',aW.inj t t']
def cH.of{K:Fr}(h:H a=some (.lst xs)):cH K H a xs:=.inl (.inl h)
def cO.of{K:Fr}(h:H a=some (.tup xs)):cO K H a xs:=.inl (.inl h)
def Inv.list(I:Inv X af U H s)(h:cH X.K H a xs):∃ay:List Value,aW xs ay/\PlainL s.heap a ay.toArray/\xs.length<=sizeLine:=by
 rcases h with h|⟨o,ay,n,hk,hc,hd,hs,hz,r⟩
 .let#[z,ay,n,r,e]:=h.ok I.aM;apply#[ay,r,#[_,n,e,rfl,rfl,rfl],z]
 .refine#[ay.toList,r,#[o,n,I.dJ a o hk,hc,hd,by simpa using hs],?_];have e:=r.length;simp only[agm] at e;omega
def Inv.Om(I:Inv X af U H s)(h:cO X.K H a xs):∃ay:List Value,aW xs ay/\l9 s.heap a ay.toArray/\xs.length<=sizeLine:=by
 rcases h with h|⟨o,ay,n,hk,hc,hd,hs,hz,r⟩
 .let#[z,ay,r,p]:=h.ok I.aM;apply#[ay,r,p,z]
 .refine#[ay.toList,r,#[o,I.dJ a o hk,hc,hd,n,by simpa using hs],?_];have e:=r.length;simp only[agm] at e;omega
def Inv.tuple(I:Inv X af U H s)(h:cO X.K H a xs):∃ay:List Value,aW xs ay/\IsTup s.heap a ay.toArray/\xs.length<=sizeLine:=by
 rcases h with h|⟨o,ay,n,hk,hc,hd,hs,hz,r⟩
 .let#[z,ay,r,p]:=h.ok I.aM;apply#[ay,r,p.isTup,z]
 .refine#[ay.toList,r,#[o,I.dJ a o hk,hc,n,by simpa using hs],?_];have e:=r.length;simp only[agm] at e;omega
def Inv.Fd(I:Inv X af U H s)(h:cH X.K H a xs)(h':cH X.K H a ys):xs=ys:=by
 let#[ay,r,#[o,n,e,_,_,d],_]:=I.list h;let#[its',r',#[o',n',e',_,_,d'],_]:=I.list h';rw[e] at e';ext e';rw[d] at d';injection d' with d1 _;have:ay=its':=by simpa using congrArg Array.toList d1
 subst this;apply r.inj r'
def Inv.Z8(I:Inv X af U H s)(h:cO X.K H a xs)(h':cO X.K H a ys):xs=ys:=by
 let#[ay,r,#[o,e,_,n,d],_]:=I.tuple h;let#[its',r',#[o',e',_,n',d'],_]:=I.tuple h';rw[e] at e';ext e';rw[d] at d';injection d' with d1 _;have:ay=its':=by simpa using congrArg Array.toList d1
 subst this;apply r.inj r'
abbrev Cx.kX(X:Cx)(E:Value->Shared->Prop):Cx:={ X with xe:=E }
abbrev Cx.gJ(X:Cx):Cx:=X.kX λ_ _=>False
def Cx.Ok.kX{X:Cx}(ok:X.Ok)(E:Value->Shared->Prop):(X.kX E).Ok:=
 #[ok.mod,ok.kind,ok.glob,ok.blt,ok.above,ok.inj,ok.has,ok.qe,ok.hd,ok.frames,ok.rL,ok.uf,ok.bs,ok.jI,ok.pR,ok.qm,ok.jG,ok.l_]
def Cx.Ok.lU{X:Cx}(ok:(X.kX E).Ok):X.Ok:=
 #[ok.mod,ok.kind,ok.glob,ok.blt,ok.above,ok.inj,ok.has,ok.qe,ok.hd,ok.frames,ok.rL,ok.uf,ok.bs,ok.jI,ok.pR,ok.qm,ok.jG,ok.l_]
def Inv.kX(I:Inv X af U H s)(E:Value->Shared->Prop):Inv (X.kX E) af U H s:=#[I.ok.kX E,I.os,I.bare,I.base,I.loc,I.cell,I.free,I.iC,I.pin,I.aM,I.len,I.hq]
def Inv.lU(I:Inv (X.kX E) af U H s):Inv X af U H s:=#[I.ok.lU,I.os,I.bare,I.base,I.loc,I.cell,I.free,I.iC,I.pin,I.aM,I.len,I.hq]
def SP.lU(h:SP (X.kX E) af D f s'):SP X af D f s':=by
 cases f with
 |next=>let#[aG,H',I,q]:=h;apply#[aG,H',I.lU,q]
 |brk=>let#[aG,H',I,q]:=h;apply#[aG,H',I.lU,q]
 |cont=>let#[aG,H',I,q]:=h;apply#[aG,H',I.lU,q]
 |ret u=>let#[v,aG,H',I,r,q]:=h;apply#[v,aG,H',I.lU,r,q]
def iX.gJ{st:List Stmt}(h:iX X.gJ st t):iX X st t:=λaf s U H D I hw=>
 aeG (h af s U H D (I.kX _) hw) (λ_ _ q=>q.lU) λ_ _ z=>False.elim z
section
variable{st:Stmt}{rest:List Stmt}
def abY:TS:=λD U H=>D.nx U H
def ade(t u:TS):TS:=λD U H=>t { D with nx:=u D } U H
def Sx:iX X [] abY:=λ_ _ U H _ I h=>ajM #[U,H,I,h]
def Ac(h1:PS X st t)(h2:iX X rest u):iX X (st::rest) (ade t u):=by
 intro af s U H D I h;refine wpAny_execs_cons (cX (h1 af s U H { D with nx:=u D } I h) λf s1 q=>?_);cases f with
 |next=>
  let#[aG,H',I',q]:=q;apply h2 af s1 aG H' D I' q
 |ret v=>apply q
 |brk=>apply q
 |cont=>apply q
def Qt(h1:PS X st t):iX X [st] t:=by
 intro af s U H D I h;refine wpAny_execs_cons (cX (h1 af s U H D I h) λf s1 q=>?_);cases f with
 |next=>apply ajM q
 |ret v=>apply q
 |brk=>apply q
 |cont=>apply q
def Inv.quiet(I:Inv X af U H s):interactive X.env=false:=by simp[interactive,I.ok.kind]
def aiS(te:TE):TS:=λD U H=>te U H λ_ H1=>D.nx U H1
def xQ(he:PE X e te)(hs:swapsWith e none pos.line X.env=pure false:=by rfl):PS X (.Expr e pos) (aiS te):=by
 intro af s U H D I h;apply wpAny_Expr_any (he.n I h λv s1 x H1 I1 r1 q1=>#[U,H1,I1,q1]) I.quiet hs
def Z2(te:TE):TS:=λD U H=>te U H D.rt
def za(he:PE X e te):PS X (.Return (some e) pos) (Z2 te):=by
 intro af s U H D I h;apply wpAny_Return_some (he.n I h λv s1 x H1 I1 r1 q1=>#[x,U,H1,I1,r1,q1])
def abz(c:TT)(t u:TS):TS:=λD U H=>c U H λb H1=>if b=true then t D U H1 else u D U H1
def IZ(hc:PT X c tc)(ha:iX X a t)(hb:iX X b u):PS X (.If c a b pos) (abz tc t u):=by
 intro af s U H D I h;refine wpAny_If (hc.n I h λd s1 H1 I1 q1=>?_);cases d with
 |true=>apply ha af s1 U H1 D I1 q1
 |false=>apply hb af s1 U H1 D I1 q1
def Rg:TS:=λ_ _ _=>False
def Tn:PS X st Rg:=λ_ _ _ _ _ _ h=>h.elim
def ahN:iX X sts Rg:=λ_ _ _ _ _ _ h=>h.elim
end
abbrev TG:=V->St->Hp->(St->Hp->Prop)->Prop
abbrev y9:=List V->St->Hp->(St->Hp->Prop)->Prop
def PG(X:Cx)(target:Expr)(t:TG):Prop:=
 ∀(af) (s) (U) (H) (v) (u) (Q),Inv X af U H s->RelV v u->t v U H Q->
  wpAny (model X.prog X.w) X.A (assign target X.env u) (λ_ s'=>∃aG H',Inv X af aG H' s'/\Q aG H') X.xe s
def yy(X:Cx)(ts:List Expr)(t:y9):Prop:=
 ∀(af) (s) (U) (H) (vs) (us) (Q),Inv X af U H s->aW vs us->t vs U H Q->
  wpAny (model X.prog X.w) X.A (assignInOrder ((assignEach ts X.env).map (·.2)) us) (λ_ s'=>∃aG H',Inv X af aG H' s'/\Q aG H') X.xe s
def ug(i:Nat):TG:=λv U H Q=>Q (U.set i (some v)) H
def Q0(hN:X.N.Nodup)(hi:X.N[i]? = some x)(hx:Loc X.env.scope x)(hf:X.fn x=true\/X.env.scope.names.lookup x=some .local:=by first|exact .inl rfl|exact .inr rfl|assumption):PG X (.Name x pos) (ug i):=by
 intro af s U H v u Q I r h;apply wpAny_assign_Name (FQ I hN hi hx r (λs' I'=>#[_,H,I',h]) hf)
def ZF:y9:=λvs U H Q=>vs=[]/\Q U H
def afs(t:TG)(u:y9):y9:=λvs U H Q=>∃v r,vs=v::r/\t v U H λaG H'=>u r aG H' Q
def Yj:yy X [] ZF:=by
 intro af s U H vs us Q I r h;let#[e,h]:=h;subst e;ext r;apply assignInOrder_nil #[U,H,I,h]
def VI(h1:PG X e t)(h2:yy X es u)
  (hs:(assignEach (e::es) X.env).map (·.2)=assign e X.env::(assignEach es X.env).map (·.2):=by rfl):yy X (e::es) (afs t u):=by
 intro af s U H vs us Q I r h;let#[v,vr,e1,h]:=h;subst e1;cases r with
 |cons r rr=>
  rw[hs];refine assignInOrder_cons (cX (h1 af s U H _ _ _ I r h) ?_)
  rintro _ s1 ⟨pZ,H1,I1,q1⟩
  apply h2 af s1 pZ H1 _ _ Q I1 rr q1
def Z4(K:Fr)(n:Nat)(t:y9):TG:=λv U H Q=>∃a xs,v=.ref a/\cO K H a xs/\xs.length=n/\t xs U H Q
def aec(hc:X.calm=true)(h:yy X es t)
  (hn:(assignEach es X.env).length=n:=by rfl) (dM:(assignEach es X.env).findIdx? (·.1)=none:=by rfl):PG X (.Tuple es k pos) (Z4 X.K n t):=by
 intro af s U H v u Q I r hw;let#[a,xs,e1,hq,hl,hw]:=hw;subst e1;ext r;let#[ay,rv,ht,hz]:=I.tuple hq;refine assign_Tuple_tuple (I.ok.hd hc) ht (by simp[hn,<- hl,rv.length]) dM λh' hx=>?_
 have I1:=I.kept (t':=s.toks) λb o e=>hx b o (aco (abb e)) e
 apply h af _ U H xs _ Q I1 (by simpa using rv) hw
def IC(te:TE)(g:TG):TS:=λD U H=>te U H λx H1=>g x U H1 D.nx
def ahE(he:PE X e te)(hg:PG X tg g)(hs:swapsWithSole [tg] e pos.line X.env=pure false:=by rfl)(hw:swappedStores [tg] e X.env=pure none:=by rfl)
  (h1:(assignEach [tg] X.env).map (·.2)=[assign tg X.env]:=by rfl):PS X (.Assign [tg] e pos) (IC te g):=by
 intro af s U H D I h;refine wpAny_Assign_stores (he.n I h λv s1 x H1 I1 r1 q1=>?_) hs hw;rw[h1];apply cX (hg af s1 U H1 x v _ I1 r1 q1) λ_ s2 q=>q
def DS(hN:X.N.Nodup)(hi:X.N[i]? = some x)(hx:Loc X.env.scope x)(he:PE X e te)(hs:swapsWith e (some (.Name x pos')) pos.line X.env=pure false:=by rfl)(hf:X.fn x=true\/X.env.scope.names.lookup x=some .local:=by first|exact .inl rfl|exact .inr rfl|assumption):
  PS X (.Assign [.Name x pos'] e pos) (IC te (ug i)):=by
 intro af s U H D I h;refine wpAny_Assign_Name (he.n I h λv s1 y H1 I1 r1 q1=>?_) hs;apply FQ I1 hN hi hx r1 (λs2 I2=>#[_,H1,I2,q1]) hf
def aeu(c:TT)(tb:TS):TS:=λD U H=>∃W:Nat->St->Hp->Prop,(∃m,W m U H)/\∀m U H,W m U H->
 c U H λb H1=>if b=true then ∃N:St->Hp->Prop,(∀aG H',N aG H'->∃m',m'<m/\W m' aG H')/\tb { D with nx:=N,ct:=N,bk:=D.nx } U H1 else D.nx U H1
def Pz(hp:PassesOwn (model X.prog X.w) X.A X.env X.xe)(hc:PT X c tc)(hb:iX X body tb):PS X (.While c body [] pos) (aeu tc tb):=by
 intro af s U H D I h;let#[W,#[m0,w0],turn]:=h;refine wpAny_While (codeAny_whileLoop (λn s'=>∃aG H',Inv X af aG H' s'/\W n aG H') ?_ m0 #[U,H,I,w0])
 rintro n s1 ⟨pZ,H1,I1,w1⟩
 refine ajd hp (G0 (hc af s1 pZ H1 _ I1 (turn n pZ H1 w1)) λb s2 H2 I2 q2=>?_);cases b with
 |true=>
  let#[N,hN,q2]:=q2;rw[if_pos rfl];refine ajd hp (cX (hb af s2 pZ H2 _ I2 q2) λf s3 q3=>?_);cases f with
  |next=>
   let#[d9,H3,I3,n3]:=q3;let#[m',hm,w3]:=hN d9 H3 n3;apply#[m',hm,d9,H3,I3,w3]
  |cont=>
   let#[d9,H3,I3,n3]:=q3;let#[m',hm,w3]:=hN d9 H3 n3;apply#[m',hm,d9,H3,I3,w3]
  |brk=>apply q3
  |ret v=>apply q3
 |false=>
  rw[aa0 aaH];apply ajM #[pZ,H2,I2,q2]
structure It where
 go:Nat->Hp->Prop
 Ai:Nat->Hp->V->Hp->Prop
 stop:Nat->Hp->Prop
 rg:Bool
def ju(X:Cx)(af:List (Addr×Obj))(H:Hp)(b:Addr):Prop:=
 H b=none/\b≠X.env.locals/\b∉X.fs/\(b∈X.ex\/X.dH.heap.objs.size<=b)/\(∀x c,X.env.cells.lookup x=some c->c≠b)/\∀p∈X.pn++af,p.1≠b
def Inv.rZ(I:Inv X af U H s)(hb:s.heap.objs.size<=b)(hn:H' b=none):ju X af H' b:=by
 refine#[hn,ah7 (acH I.lt hb),I.RJ hb,.inr (aeC I.sz hb),λx c e z=>?_,λp hp z=>?_]
 .let#[v,q]:=I.cell x c e;apply absurd (acH q.lt (by rw[z];apply hb)) (agg _)
 .exact absurd (acH (abb (I.pin p hp).1) (by rw[z];apply hb)) (agg _)
structure Turn(P:Program)(w:World)(K:Fr)(tg:Expr)(J:It)(fp:List Addr)(it:Addr)(tn:Nat->Heap->Prop):Prop where
 mem:it∈fp
 obj:∀i h,tn i h->∀b∈fp,∃o,h.get? b=some o/\∀v,o.data≠.cell v
 keep:∀i h h',tn i h->(∀b∈fp,∀o,h.get? b=some o->h'.get? b=some o)->tn i h'
 item:∀(X),X.prog=P->X.w=w->X.K=K->(X.calm=true\/J.rg=true)->∀(i) (af) (s) (U) (H) (E),Inv X af U H s->(∀b∈fp,ju X af H b)->tn i s.heap->J.go i H->
  wpAny (model P w) X.A (pyNext (.ref it)) (λr s1=>∃u,r=some u/\
   wpAny (model P w) X.A (letOwnedTupleGo tg (.ref it) u) (λ_ s2=>∃x H',Inv X af U H' s2/\RelV x u/\J.Ai i H x H'/\tn (i+1) s2.heap/\∀b∈fp,H' b=none) E s1) E s
 done:∀(X),X.prog=P->X.w=w->X.K=K->(X.calm=true\/J.rg=true)->∀(i) (af) (s) (U) (H) (E),Inv X af U H s->(∀b∈fp,ju X af H b)->tn i s.heap->J.stop i H->
  wpAny (model P w) X.A (pyNext (.ref it)) (λr s1=>r=none/\Inv X af U H s1) E s
 self:∀(A) (i) (s) (Q) (E),tn i s.heap->Q (.ref it) s->wpAny (model P w) A (pyIter (.ref it)) Q E s
abbrev TI:=St->Hp->(It->Hp->Prop)->Prop
def Q2(X:Cx)(af:List (Addr×Obj))(U:St)(tg:Expr)(R:It->Hp->Prop)(CD:Value)(s2:Shared):Prop:=
 ∃(it:Addr) (fp:List Addr) (tn:Nat->Heap->Prop) (J:It) (H':Hp),CD=.ref it/\Inv X af U H' s2/\Turn X.prog X.w X.K tg J fp it tn/\tn 0 s2.heap/\(∀b∈fp,ju X af H' b)/\R J H'
def PI(X:Cx)(tg iter:Expr)(wi:TI):Prop:=
 ∀(af) (s) (U) (H) (R),Inv X af U H s->wi U H R->
  wpAny (model X.prog X.w) X.A (eval iter X.env) (λv s1=>wpAny (model X.prog X.w) X.A (pyIter v) (Q2 X af U tg R) X.xe s1) X.xe s
def B0(ho:s.heap.get? it=some o)(hc:o.cls=.type n)(hd:o.data=.fields vs)
    (hn:["enumerate","zip","dict_itemiterator","dict_reverseitemiterator","odict_iterator","itertools.zip_longest","itertools.pairwise"].contains n=false) (hQ:Q () s):wpAny M A (letOwnedTupleGo tg (.ref it) u) Q E s:=by
  unfold letOwnedTupleGo;ext tg<;>first
    |exact acp hQ
    | (cases u <;> first
        |exact acp hQ
        | (refine aaK (wpAny_load ho ?_)
           rw[hc,hd];show wpAny M A (if(["enumerate","zip","dict_itemiterator","dict_reverseitemiterator","odict_iterator","itertools.zip_longest","itertools.pairwise"].contains n&&vs[0]?==some (rawInt _))=true then _ else _) Q E s;rw[aa0 (by intro h;rw[hn,Bool.false_and] at h;ext h)];apply acp hQ))
def C_(K:Fr)(a:Addr):It:=
 #[λi H=>∃xs x,cH K H a xs/\xs[i]? = some x,λi H x H'=>H'=H/\∀xs,cH K H a xs->xs[i]? = some x,λi H=>∃xs,cH K H a xs/\xs.length<=i,false]
def GU(K:Fr)(a:Addr):It:=
 #[λi H=>∃xs x,cO K H a xs/\xs[i]? = some x,λi H x H'=>H'=H/\∀xs,cO K H a xs->xs[i]? = some x,λi H=>∃xs,cO K H a xs/\xs.length<=i,false]
def yC(lo:Int)(n:Nat):It:=#[λi _=>i<n,λi H x H'=>H'=H/\x=.int (lo+i),λi _=>n<=i,true]
def aiO{K:Fr}(a it:Addr):Turn P w K tg (C_ K a) [it] it (λi h=>h.IsListIter it a i) where
 mem:=by simp
 obj:=λi h st b hb=>by
  have e:b=it:=by simpa using hb
  subst e;let#[o,e,c,d]:=st;apply#[o,e,λv z=>by rw[d] at z;ext z]
 keep:=λi h h' st k=>st.at λo e=>k it (by simp) o e
 item:=by
  intro X hP hw hK hc i af s U H E I hf st hg;subst hP hw hK;let#[xs,x,hq,hx]:=hg;let#[ay,rv,p,hz]:=I.list hq;let#[u,hu,ru]:=rv.get hx;let#[f0,f1,f2,f3,f4,f5]:=hf it (by simp);refine wpAny_pyNext_list_item st p.isList (by simpa using hu) λh' lQ sb=>?_
  have I1:=I.turned (t':=s.toks) (λb o hb e=>(sb.2 b hb).trans e) f0 f1 f3 f4 f5;let#[o,e,c,d]:=id lQ;apply#[u,rfl,B0 e c d (by decide) #[x,H,I1,ru,#[rfl,λys hy=>by rw[I.Fd hy hq];apply hx],lQ,λb hb=>(hf b hb).1]]
 done:=by
  intro X hP hw hK hc i af s U H E I hf st hg;subst hP hw hK;let#[xs,hq,hx]:=hg;let#[ay,rv,p,hz]:=I.list hq;let#[f0,f1,f2,f3,f4,f5]:=hf it (by simp);have hl:=rv.length;apply wpAny_pyNext_list_end (I.ok.hd (hc.resolve_right λz=>aaH z)) st p.isList (by simp;omega) λh' eb=>#[rfl,I.turned (λb o hb e=>eb b o hb e) f0 f1 f3 f4 f5]
 self:=λ_ _ _ _ _ st h=>wpAny_pyIter_listiter st h
def agf{K:Fr}(a it:Addr):Turn P w K tg (GU K a) [it] it (λi h=>h.IsTupleIter it a i) where
 mem:=by simp
 obj:=λi h st b hb=>by
  have e:b=it:=by simpa using hb
  subst e;let#[o,e,c,d]:=st;apply#[o,e,λv z=>by rw[d] at z;ext z]
 keep:=λi h h' st k=>st.at λo e=>k it (by simp) o e
 item:=by
  intro X hP hw hK hc i af s U H E I hf st hg;subst hP hw hK;let#[xs,x,hq,hx]:=hg;let#[ay,rv,p,hz]:=I.tuple hq;let#[u,hu,ru]:=rv.get hx;let#[f0,f1,f2,f3,f4,f5]:=hf it (by simp);refine wpAny_pyNext_tuple_item st (show s.heap.IsTuple a ay.toArray from p) (by simpa using hu) λh' lQ sb=>?_
  have I1:=I.turned (t':=s.toks) (λb o hb e=>(sb.2 b hb).trans e) f0 f1 f3 f4 f5;let#[o,e,c,d]:=id lQ;apply#[u,rfl,B0 e c d (by decide) #[x,H,I1,ru,#[rfl,λys hy=>by rw[I.Z8 hy hq];apply hx],lQ,λb hb=>(hf b hb).1]]
 done:=by
  intro X hP hw hK hc i af s U H E I hf st hg;subst hP hw hK;let#[xs,hq,hx]:=hg;let#[ay,rv,p,hz]:=I.tuple hq;let#[f0,f1,f2,f3,f4,f5]:=hf it (by simp);have hl:=rv.length;apply wpAny_pyNext_tuple_end (I.ok.hd (hc.resolve_right λz=>aaH z)) st (show s.heap.IsTuple a ay.toArray from p) (by simp;omega) λh' eb=>#[rfl,I.turned (λb o hb e=>eb b o hb e) f0 f1 f3 f4 f5]
 self:=λ_ _ _ _ _ st h=>wpAny_pyIter_tupleiter st h
def Wj{K:Fr}(it:Addr)(lo:Int)(n:Nat):Turn P w K tg (yC lo n) [it] it (λi h=>IsRangeIter h it (lo+(i:Nat)*1) ((n:Int)-(i:Nat)) 1) where
 mem:=by simp
 obj:=λi h st b hb=>by
  have e:b=it:=by simpa using hb
  subst e;apply#[_,st,λv z=>by
   have z':=z;ext z']
 keep:=λi h h' st k=>k it (by simp) _ st
 item:=by
  intro X hP hw hK hc i af s U H E I hf st hg;subst hP hw hK;let#[f0,f1,f2,f3,f4,f5]:=hf it (by simp);refine wpAny_pyNext_range_item st (by have:i<n:=hg;omega) λh' lQ sb=>?_
  have I1:Inv X af U H { s with heap:=h',toks:=s.toks+1 }:=I.turned (λb o hb e=>(sb.2 b hb).trans e) f0 f1 f3 f4 f5;have e1:lo+((i+1:Nat):Int)*1=lo+(i:Int)*1+1:=by omega
  have e2:(n:Int)-((i+1:Nat):Int)=(n:Int)-(i:Int)-1:=by omega
  refine#[_,rfl,B0 lQ rfl rfl (by decide) #[.int (lo+i),H,I1,#[s.toks,?_],#[rfl,rfl],by rw[e1,e2];apply lQ,λb hb=>(hf b hb).1]];rw[Int.mul_one]
 done:=by
  intro X hP hw hK hc i af s U H E I hf st hg;subst hP hw hK;let#[f0,f1,f2,f3,f4,f5]:=hf it (by simp);rcases I.hq.hd with h0|⟨a',ob,u,vs,h0,h1,h2,h3⟩
  .exact wpAny_pyNext_range_end h0 st (by have:n<=i:=hg;omega) λh' eb=>#[rfl,I.turned (λb o hb e=>eb b o hb e) f0 f1 f3 f4 f5]
  .exact abB h0 (I.aM a' _ h1).1 h2 h3 st (by have:n<=i:=hg;omega) λh' eb=>#[rfl,I.turned (λb o hb e=>eb b o hb e) f0 f1 f3 f4 f5]
 self:=λ_ _ _ _ _ st h=>wpAny_pyIter_rangeiter st h
def QF{lo hi:Int}{tk:Nat}(I:Inv X af U H s)(h1:-(2 ^ 62)<=lo)(h2:lo<2 ^ 62)(h3:-(2 ^ 62)<=hi)(h4:hi<2 ^ 62)
  (q:R (yC lo (hi-lo).toNat) H):wpAny (model X.prog X.w) X.A (pyIter (.ref s.heap.objs.size)) (Q2 X af U tg R) E { s with heap:=s.heap.push { cls:=.type "range",data:=.fields ([.int lo t,.int hi u,.int 1 v].toArray) },toks:=tk }:=by
 refine wpAny_pyIter_range (IsRange.new ..) (small_one h1 h2 h3 h4) ?_;have I1:Inv X af U H { s with heap:=s.heap.push { cls:=.type "range",data:=.fields ([.int lo t,.int hi u,.int 1 v].toArray) },toks:=tk }:=I.kept λb o e=>aaq _ e
 refine#[(s.heap.push { cls:=.type "range",data:=.fields ([.int lo t,.int hi u,.int 1 v].toArray) }).objs.size,[(s.heap.push { cls:=.type "range",data:=.fields ([.int lo t,.int hi u,.int 1 v].toArray) }).objs.size],_,_,H,rfl,
  I1.kept λb o e=>aaq _ e,Wj _ lo (hi-lo).toNat,?_,λb hb=>?_,q]
 .have e1:lo+((0:Nat):Int)*1=lo:=by simp
  have e2:(((hi-lo).toNat:Nat):Int)-((0:Nat):Int)=Builtin.Range.rangeSize lo hi 1:=by rw[rangeSize_one];split<;>omega
  rw[e1,e2];apply abp _ rfl
 .have e:b=(s.heap.push { cls:=.type "range",data:=.fields ([.int lo t,.int hi u,.int 1 v].toArray) }).objs.size:=by simpa using hb
  subst e;apply I1.rZ (abi _) (I1.aM.fresh (abi _))
def adU(ta:TA):TI:=λU H R=>ta U H λvs H1=>∃j:Int,vs=[.int j]/\-(2 ^ 62)<=j/\j<2 ^ 62/\R (yC 0 j.toNat) H1
def agx(ta:TA):TI:=λU H R=>ta U H λvs H1=>∃i j:Int,vs=[.int i,.int j]/\(-(2 ^ 62)<=i/\i<2 ^ 62/\-(2 ^ 62)<=j/\j<2 ^ 62)/\R (yC i (j-i).toNat) H1
def Xn{ta:TA}(hg:Gl X "range")(hm:X.mg "range"=none)(ha:PA X [a] ta)(hs:starEach [a] X.env=[(false,eval a X.env)]:=by rfl):PI X tg (.Call (.Name "range" p) [a] [] pos) (adU ta):=by
 intro af s U H R I h;refine Call_ (qw I hg hm boot_range (ahp (ha.n I h λus s1 vs H1 I1 r1 q1=>?_) hs rfl));let#[j,e,q1,q2,q]:=q1;subst e;cases r1 with
 |cons r rr=>
  ext rr;let#[t,rfl]:=r;apply call_range_1 (QF I1 (by omega) (by omega) q1 q2 (by simpa using q))
def Zo(hg:Gl X "range")(hm:X.mg "range"=none)(ha:PA X [a,b] ta)(hs:starEach [a,b] X.env=[(false,eval a X.env),(false,eval b X.env)]:=by rfl)(cV:starEach [b] X.env=[(false,eval b X.env)]:=by rfl):
  PI X tg (.Call (.Name "range" p) [a,b] [] pos) (agx ta):=by
 intro af s U H R I h;refine Call_ (qw I hg hm boot_range (ahp (ha.n I h λus s1 vs H1 I1 r1 q1=>?_) (by rw[hs,cV]) (by rw[cV];rfl)));let#[i,j,e,#[q1,q2,q3,q4],q]:=q1;subst e;cases r1 with
 |cons r rr=>
  cases rr with
  |cons r' rr=>
   ext rr;let#[t,rfl]:=r;let#[t',rfl]:=r';apply call_range_2 (QF I1 q1 q2 q3 q4 q)
def acG(wi:TI)(g:TG)(tb:TS):TS:=λD U H=>wi U H λJ H1=>∃W:Nat->Nat->St->Hp->Prop,(∃m,W 0 m U H1)/\∀i m U H,W i m U H->
 (J.stop i H/\D.nx U H)\/(J.go i H/\∃N:St->Hp->Prop,(∀aG H',N aG H'->∃m',m'<m/\W (i+1) m' aG H')/\∀x H',J.Ai i H x H'->g x U H' λi7 H2=>tb { D with nx:=N,ct:=N,bk:=D.nx } i7 H2)
def zp(fp:List Addr)(h:Heap):List (Addr×Obj):=fp.filterMap λb=>(h.get? b).map λo=>(b,o)
def Bc(hb:b∈fp)(e:h.get? b=some o):(b,o)∈zp fp h:=ai8.mpr #[b,hb,by rw[e];rfl]
def afa(hp:p∈zp fp h):p.1∈fp/\h.get? p.1=some p.2:=by
 let#[b,hb,e]:=ai8.mp hp;exists q,h.get? b,o,e;have e':=abH e;subst e';apply#[hb,q]
def Inv.pinned(I:Inv X af U H s)(hf:∀b∈fp,ju X af H b)(ho:∀b∈fp,∃o,s.heap.get? b=some o/\∀v,o.data≠.cell v):Inv X (af++zp fp s.heap) U H s:=
 I.uY λp hp=>(abc.mp hp).elim (λz=>I.pin p (aaJ _ z)) λz=>by
  let#[hb,e]:=afa z;let#[f0,f1,f2,_]:=hf p.1 hb;let#[o,e',d]:=ho p.1 hb;rw[e] at e';ext e';apply#[e,f0,f1,f2,d]
def Inv.Aj(I:Inv X (af++pl) U H s):Inv X af U H s:=I.uY λp hp=>I.pin p (aaJ _ (aaL _ hp))
def acv(hp:PassesOwn (model X.prog X.w) X.A X.env X.xe)(hc:X.calm=true)(hi:PI X tg iter wi)(hg:PG X tg g)(hb:iX X body tb)
  (hs:∀x,foldedSetIterable iter X.env x=pure x:=by intro _;rfl):PS X (.For tg iter body [] pos) (acG wi g tb):=by
 intro af s U H D I h;refine wpAny_For (cX (hi af s U H _ I h) λv s1 h1=>cX h1 λCD s2 h2=>?_) hs;let#[it,fp,tn,J,H2,e,I2,T,uC,f2,W,#[m0,w0],turn]:=h2;subst e;have uH:∀{H':Hp},(∀b∈fp,H' b=none)->∀b∈fp,ju X af H' b:=λhn b hb=>#[hn b hb,(f2 b hb).2]
 refine codeAny_forLoop_any (λn s'=>∃i aG H',Inv X af aG H' s'/\tn i s'.heap/\(∀b∈fp,H' b=none)/\W i n aG H') ?_ m0 #[0,U,H2,I2,uC,λb hb=>(f2 b hb).1,w0]
 rintro n s3 ⟨i,d9,H3,I3,U7,M5,w3⟩
 rcases turn i n d9 H3 w3 with⟨stop,qn⟩|⟨go,N,hN,step⟩
 .refine ajd hp (cX (T.done X rfl rfl rfl (.inl hc) i af s3 d9 H3 X.xe I3 (uH M5) U7 stop) ?_)
  rintro r s4 ⟨hr,I4⟩
  subst hr;apply ajM #[d9,H3,I4,qn]
 .refine ajd hp (cX (T.item X rfl rfl rfl (.inl hc) i af s3 d9 H3 X.xe I3 (uH M5) U7 go) ?_)
  rintro r s4 ⟨u,hr,h4⟩
  subst hr;refine ajd hp (cX h4 ?_)
  rintro _ s5 ⟨x,H5,I5,r5,y5,vg,mW⟩
  have I5':=I5.pinned (uH mW) (T.obj _ _ vg);refine ajd hp (cX (hg _ s5 d9 H5 x u _ I5' r5 (step x H5 y5)) ?_)
  rintro _ s6 ⟨qK,H6,I6,q6⟩
  refine ajd hp (cX (hb _ s6 qK H6 _ I6 q6) λf s7 q7=>?_);have again:∀{m7:St}{H7:Hp},Inv X (af++zp fp s5.heap) m7 H7 s7->N m7 H7->∃m,m<n/\∃i aG H',Inv X af aG H' s7/\tn i s7.heap/\(∀b∈fp,H' b=none)/\W i m aG H':=λ{m7 H7} I7 n7=>by
   let#[m',hm,w7]:=hN m7 H7 n7;refine#[m',hm,i+1,m7,H7,I7.Aj,T.keep _ _ _ vg λb hb o e=>(I7.pin (b,o) (aaJ _ (aaJ _ (Bc hb e)))).1,λb hb=>?_,w7];let#[o,e,d]:=T.obj _ _ vg b hb;apply(I7.pin (b,o) (aaJ _ (aaJ _ (Bc hb e)))).2.1
  cases f with
  |next=>let#[m7,H7,I7,n7]:=q7;apply again I7 n7
  |cont=>let#[m7,H7,I7,n7]:=q7;apply again I7 n7
  |brk=>let#[m7,H7,I7,q7]:=q7;apply#[m7,H7,I7.Aj,q7]
  |ret v=>let#[x7,m7,H7,I7,r7,q7]:=q7;apply#[x7,m7,H7,I7.Aj,r7,q7]
abbrev R2:=V->V->Hp->VK->Prop
def eB(X:Cx)(f:Value->Value->Sem Value)(r:R2):Prop:=
 ∀(af:List (Addr×Obj)) (s:Shared) (U:St) (H:Hp) (x y:V) (v u:Value) (Q:VK),Inv X af U H s->RelV x v->RelV y u->r x y H Q->
  wpAny (model X.prog X.w) X.A (f v u) (EP X af U Q) X.xe s
def JR(X:Cx)(f:Value->Sem Value)(r:V->Hp->VK->Prop):Prop:=
 ∀(af:List (Addr×Obj)) (s:Shared) (U:St) (H:Hp) (x:V) (v:Value) (Q:VK),Inv X af U H s->RelV x v->r x H Q->
  wpAny (model X.prog X.w) X.A (f v) (EP X af U Q) X.xe s
def ic(X:Cx)(f:Value)(r:List V->Hp->VK->Prop):Prop:=
 ∀(af:List (Addr×Obj)) (s:Shared) (U:St) (H:Hp) (xs:List V) (us:List Value) (Q:VK),Inv X af U H s->aW xs us->r xs H Q->
  wpAny (model X.prog X.w) X.A (call f us) (EP X af U Q) X.xe s
def agT(X:Cx)(r:V->Hp->(Bool->Hp->Prop)->Prop):Prop:=
 ∀(af:List (Addr×Obj)) (s:Shared) (U:St) (H:Hp) (x:V) (v:Value) (Q:Bool->Hp->Prop),Inv X af U H s->RelV x v->r x H Q->
  wpAny (model X.prog X.w) X.A (truthy v) (TP X af U Q) X.xe s
def r_(r:R2)(ta tb:TE):TE:=λU H Q=>ta U H λx H1=>tb U H1 λy H2=>r x y H2 Q
def tUn(r:V->Hp->VK->Prop)(ta:TE):TE:=λU H Q=>ta U H λx H1=>r x H1 Q
def rI(C:Int->Int->Prop)(g:Int->Int->V):R2:=λx y H Q=>∃i j,x=.int i/\y=.int j/\C i j/\Q (g i j) H
def nS(g:Int->Int->V):R2:=λx y H Q=>∃i j,x=.int i/\y=.int j/\Q (g i j) H
def rU(g:Int->V):V->Hp->VK->Prop:=λx H Q=>∃i,x=.int i/\Q (g i) H
def Gh(ha:PE X a ta)(hb:PE X b tb){R:V->V->Hp->Prop}(I:Inv X af U H s)
  (h:ta U H λx H1=>tb U H1 λy H2=>R x y H2) {f:Value->Value->Sem Value}
  (hf:∀v u s2 x y H2,Inv X af U H2 s2->RelV x v->RelV y u->R x y H2->wpAny (model X.prog X.w) X.A (f v u) Q X.xe s2) :
  wpAny (model X.prog X.w) X.A (eval a X.env) (λv cL=>wpAny (model X.prog X.w) X.A (eval b X.env) (λu rX=>wpAny (model X.prog X.w) X.A (f v u) Q X.xe rX) X.xe cL) X.xe s:=by
 refine ha.n I h λv s1 x H1 I1 r1 q1=>?_
 refine hb.n I1 q1 λu s2 y H2 I2 r2 q2=>?_
 apply hf v u s2 x y H2 I2 r1 r2 q2
def Se{r:R2}(ho:eB X (binaryOp op) r)(ha:PE X a ta)(hb:PE X b tb):PE X (.BinOp a op b pos) (r_ r ta tb):=by
 intro af s U H Q I h;apply wpAny_BinOp (Gh ha hb I h λv u s2 x y H2 I2 rx ry q=>ho af s2 U H2 x y v u Q I2 rx ry q)
def agr(ho:JR X (unaryOp op) r)(ha:PE X a ta):PE X (.UnaryOp op a pos) (tUn r ta):=by
 intro af s U H Q I h;apply UnaryOp_ (ha.n I h λv s1 x H1 I1 r1 q1=>ho af s1 U H1 x v Q I1 r1 q1)
def DO{g:Int->Int->Int}
  (rule:∀(i j:Int) (t u:Tok) (s:Shared) (Q:Value->Shared->Prop) (E:Value->Shared->Prop),C i j->Q (.int (g i j) s.toks) { s with toks:=s.toks+1 }->wpAny (model X.prog X.w) X.A (f (.int i t) (.int j u)) Q E s) :
  eB X f (rI C λi j=>.int (g i j)):=by
 intro af s U H x y v u Q I rx ry h;let#[i,j,rfl,rfl,hc,q]:=h;let#[t,rfl]:=rx;let#[t',rfl]:=ry;apply rule i j t t' s _ _ hc #[.int (g i j),H,I.tok _,#[_,rfl],q]
def Q5{g:Int->Int->Int}
  (rule:∀(i j:Int) (t u:Tok) (s:Shared) (Q:Value->Shared->Prop) (E:Value->Shared->Prop),Q (.int (g i j) s.toks) { s with toks:=s.toks+1 }->wpAny (model X.prog X.w) X.A (f (.int i t) (.int j u)) Q E s) :
  eB X f (nS λi j=>.int (g i j)):=by
 intro af s U H x y v u Q I rx ry h;let#[i,j,rfl,rfl,q]:=h;let#[t,rfl]:=rx;let#[t',rfl]:=ry;apply rule i j t t' s _ _ #[.int (g i j),H,I.tok _,#[_,rfl],q]
def BH{g:Int->Int->Bool}
  (rule:∀(i j:Int) (t u:Tok) (s:Shared) (Q:Value->Shared->Prop) (E:Value->Shared->Prop),Q (.bool (g i j)) s->wpAny (model X.prog X.w) X.A (f (.int i t) (.int j u)) Q E s) :
  eB X f (nS λi j=>.bl (g i j)):=by
 intro af s U H x y v u Q I rx ry h;let#[i,j,rfl,rfl,q]:=h;let#[t,rfl]:=rx;let#[t',rfl]:=ry;apply rule i j t t' s _ _ #[.bl (g i j),H,I,rfl,q]
def ad4(i j:Int):Prop:=0<j/\j<1073741824
def afU(i j:Int):Prop:=0<=j/\j<=1000000/\i.natAbs<2 ^ 64
def zy(i j:Int):Prop:=(-(2 ^ 64)<i/\i<2 ^ 64)\/(-(2 ^ 64)<j/\j<2 ^ 64)
def zy.ok(h:zy i j):IntMulOk i j:=by
 rcases h with⟨h1,h2⟩|⟨h1,h2⟩
 .exact .of_left (intBits_le_64 h1 h2)
 .exact .of_right (intBits_le_64 h1 h2)
def V8:eB X (binaryOp .Add) (nS λi j=>.int (i+j)):=Q5 λ_ _ _ _ _ _ _ q=>add_int q
def agV:eB X (binaryOp .Sub) (nS λi j=>.int (i-j)):=Q5 λ_ _ _ _ _ _ _ q=>sub_int q
def ahA:eB X (binaryOp .Mult) (rI zy λi j=>.int (i*j)):=DO λ_ _ _ _ _ _ _ hc q=>mul_int q hc.ok
def afe:eB X (binaryOp .FloorDiv) (rI ad4 λi j=>.int (i / j)):=DO λi j _ _ _ _ _ hc q=>by
 have h1:=hc.1;have h2:j<1073741824:=hc.2;apply floordiv_int (by omega) (by rw[Int.fdiv_eq_ediv_of_nonneg i (by omega)];apply q) (.inl (PyProof.noPylong_small (by omega)))
def Wp:eB X (binaryOp .Mod) (rI (λ_ j=>0<j) λi j=>.int (i % j)):=DO λi j _ _ _ _ _ hc q=>by
 have h1:=hc;apply mod_int' (by omega) (by rw[Int.fmod_eq_emod_of_nonneg i (by omega)];apply q)
def Xa:eB X (binaryOp .Pow) (rI afU λi j=>.int (i ^ j.toNat)):=DO λ_ _ _ _ _ _ _ hc q=>pow_int_small hc.1 hc.2.1 hc.2.2 q
def Xd{g:Int->Int}
  (rule:∀(i:Int) (t:Tok) (s:Shared) (Q:Value->Shared->Prop) (E:Value->Shared->Prop),Q (.int (g i) s.toks) { s with toks:=s.toks+1 }->wpAny (model X.prog X.w) X.A (f (.int i t)) Q E s) :
  JR X f (rU λi=>.int (g i)):=by
 intro af s U H x v Q I rx h;let#[i,rfl,q]:=h;let#[t,rfl]:=rx;apply rule i t s _ _ #[.int (g i),H,I.tok _,#[_,rfl],q]
def Wh:JR X (unaryOp .USub) (rU λi=>.int (-i)):=Xd λ_ _ _ _ _ q=>neg_int q
def Ub:V->V->Bool
 |.aJ,.aJ=>true|.aJ,.int _=>true|.int _,.aJ=>true|.aJ,.bl _=>true|.bl _,.aJ=>true|.aJ,.str _=>true|.str _,.aJ=>true
 |.int _,.int _=>true|.bl _,.bl _=>true|.str _,.str _=>true|.kF _,.kF _=>true
 |.int _,.str _=>true|.str _,.int _=>true|.bl _,.str _=>true|.str _,.bl _=>true
 |_,_=>false
def EJ:R2:=λx y H Q=>Ub x y=true/\Q (.bl (decide (x=y))) H
def Ug:R2:=λx y H Q=>Ub x y=true/\Q (.bl (!decide (x=y))) H
def Dl:decide (V.int i=V.int j)=(i==j):=by
 rw[aim];simp
def CM:decide (V.bl i=V.bl j)=(i==j):=by
 rw[aim];simp
def C1:decide (V.str i=V.str j)=(i==j):=by
 rw[aim];simp
def Vr:decide (V.kF i=V.kF j)=(i.toList==j.toList):=by
 rw[aim];ext i;ext j;simp
def eZ(I:Inv X af U H s)(q:Q (.bl k) H)(e:k=k'):EP X af U Q (.bool k') s:=by
 subst e;apply#[.bl k,H,I,rfl,q]
def Ji:eB X (compareOp .Eq) EJ:=by
 intro af s U H x y v u Q I rx ry h;let#[hs,q]:=h;cases x with
 |aJ=>
  ext rx;cases y with
  |aJ=>ext ry;apply PySem.EqNone.eq_none_none (eZ I q (by simp))
  |bl j=>ext ry;apply PySem.EqNone.eq_none_bool (eZ I q (by simp))
  |int j=>let#[t',rfl]:=ry;apply PySem.EqNone.eq_none_int (eZ I q (by simp))
  |str j=>let#[t',rfl]:=ry;apply PySem.EqNone.eq_none_str (eZ I q (by simp))
  |_=>apply absurd (show false=true from hs) aaH
 |bl i=>
  ext rx;cases y with
  |aJ=>ext ry;apply PySem.EqNone.eq_bool_none (eZ I q (by simp))
  |bl j=>ext ry;apply eq_bool (eZ I q CM)
  |str j=>let#[t',rfl]:=ry;apply PySem.EqMixed.eq_bool_str (eZ I q (by simp))
  |_=>apply absurd (show false=true from hs) aaH
 |int i=>
  let#[t,rfl]:=rx;cases y with
  |aJ=>ext ry;apply PySem.EqNone.eq_int_none (eZ I q (by simp))
  |int j=>let#[t',rfl]:=ry;apply eq_int (eZ I q Dl)
  |str j=>let#[t',rfl]:=ry;apply PySem.EqMixed.eq_int_str (eZ I q (by simp))
  |_=>apply absurd (show false=true from hs) aaH
 |str i=>
  let#[t,rfl]:=rx;cases y with
  |aJ=>ext ry;apply PySem.EqNone.eq_str_none (eZ I q (by simp))
  |bl j=>ext ry;apply PySem.EqMixed.eq_str_bool (eZ I q (by simp))
  |int j=>let#[t',rfl]:=ry;apply PySem.EqMixed.eq_str_int (eZ I q (by simp))
  |str j=>let#[t',rfl]:=ry;apply eq_str (eZ I q C1)
  |_=>apply absurd (show false=true from hs) aaH
 |kF i=>
  let#[t,rfl]:=rx;cases y with
  |kF j=>let#[t',rfl]:=ry;apply PySem.W.eq_bytes (eZ I q Vr)
  |_=>apply absurd (show false=true from hs) aaH
 |_=>ext y<;>apply absurd (show false=true from hs) aaH
def ZI:eB X (compareOp .NotEq) Ug:=by
 intro af s U H x y v u Q I rx ry h;let#[hs,q]:=h;cases x with
 |aJ=>
  ext rx;cases y with
  |aJ=>ext ry;apply PySem.EqNone.ne_none_none (eZ I q (by simp))
  |bl j=>ext ry;apply PySem.EqNone.ne_none_bool (eZ I q (by simp))
  |int j=>let#[t',rfl]:=ry;apply PySem.EqNone.ne_none_int (eZ I q (by simp))
  |str j=>let#[t',rfl]:=ry;apply PySem.EqNone.ne_none_str (eZ I q (by simp))
  |_=>apply absurd (show false=true from hs) aaH
 |bl i=>
  ext rx;cases y with
  |aJ=>ext ry;apply PySem.EqNone.ne_bool_none (eZ I q (by simp))
  |bl j=>ext ry;apply ne_bool (eZ I q (congrArg not CM))
  |str j=>let#[t',rfl]:=ry;apply PySem.EqMixed.ne_bool_str (eZ I q (by simp))
  |_=>apply absurd (show false=true from hs) aaH
 |int i=>
  let#[t,rfl]:=rx;cases y with
  |aJ=>ext ry;apply PySem.EqNone.ne_int_none (eZ I q (by simp))
  |int j=>let#[t',rfl]:=ry;apply ne_int (eZ I q (congrArg not Dl))
  |str j=>let#[t',rfl]:=ry;apply PySem.EqMixed.ne_int_str (eZ I q (by simp))
  |_=>apply absurd (show false=true from hs) aaH
 |str i=>
  let#[t,rfl]:=rx;cases y with
  |aJ=>ext ry;apply PySem.EqNone.ne_str_none (eZ I q (by simp))
  |bl j=>ext ry;apply PySem.EqMixed.ne_str_bool (eZ I q (by simp))
  |int j=>let#[t',rfl]:=ry;apply PySem.EqMixed.ne_str_int (eZ I q (by simp))
  |str j=>let#[t',rfl]:=ry;apply ne_str (eZ I q (congrArg not C1))
  |_=>apply absurd (show false=true from hs) aaH
 |kF i=>
  let#[t,rfl]:=rx;cases y with
  |kF j=>let#[t',rfl]:=ry;apply PySem.W.ne_bytes (eZ I q (congrArg not Vr))
  |_=>apply absurd (show false=true from hs) aaH
 |_=>ext y<;>apply absurd (show false=true from hs) aaH
def Mj:eB X (compareOp .Lt) (nS λi j=>.bl (decide (i<j))):=BH λ_ _ _ _ _ _ _ q=>lt_int q
def GQ:eB X (compareOp .LtE) (nS λi j=>.bl (decide (i<=j))):=BH λ_ _ _ _ _ _ _ q=>le_int q
def aer:eB X (compareOp .Gt) (nS λi j=>.bl (decide (j<i))):=BH λ_ _ _ _ _ _ _ q=>gt_int q
def aia:eB X (compareOp .GtE) (nS λi j=>.bl (decide (j<=i))):=BH λ_ _ _ _ _ _ _ q=>ge_int q
def Qc:eB X (compareOp .Is) (λx y H Q=>y=.aJ/\Q (.bl (decide (x=.aJ))) H):=by
 intro af s U H x y v u Q I rx ry h;let#[rfl,q]:=h;ext ry;refine is_none_gen (eZ I q ?_);ext x<;>first
  |(ext rx;rfl)
  |(let#[t,rfl]:=rx;rfl)
def aaC:eB X (compareOp .IsNot) (λx y H Q=>y=.aJ/\Q (.bl (!decide (x=.aJ))) H):=by
 intro af s U H x y v u Q I rx ry h;let#[rfl,q]:=h;ext ry;refine isnot_none_gen (eZ I q ?_);ext x<;>first
  |(ext rx;rfl)
  |(let#[t,rfl]:=rx;rfl)
def jV(b:Expr)(h:op≠.In:=by decide)(h2:op≠.NotIn:=by decide):behindInMarks op b=false:=by
 have e1:(op==CmpOp.In)=false:=by ext op<;>first|rfl|exact absurd rfl h
 have e2:(op==CmpOp.NotIn)=false:=by ext op<;>first|rfl|exact absurd rfl h2
 ext b<;>simp[behindInMarks,e1,e2]
def ZM{r:R2}(ho:eB X (compareOp op) r)(ha:PE X a ta)(hb:PE X b tb)(hm:behindInMarks op b=false):PE X (.Compare a [op] [b] pos) (r_ r ta tb):=by
 intro af s U H Q I h;apply wpAny_Compare1 (Gh ha hb I h λv u s2 x y H2 I2 rx ry q=>ho af s2 U H2 x y v u Q I2 rx ry q) hm
def Tc(t:TE):TT:=λU H Q=>t U H λx H'=>∃k,x=.bl k/\Q k H'
def MC(ho:eB X (compareOp op) r)(ha:PE X a ta)(hb:PE X b tb)(hm:behindInMarks op b=false):PT X (.Compare a [op] [b] pos) (Tc (r_ r ta tb)):=by
 intro af s U H Q I h;refine wpAny_isTrue_Compare1 (ha.n I h λv s1 x H1 I1 r1 q1=>hb.n I1 q1 λu s2 y H2 I2 r2 q2=>
  cX (ho af s2 U H2 x y v u _ I2 r1 r2 q2) λc s3 #[z,H3,I3,r3,k,e,q3]=>?_) hm
 subst e;ext r3;apply agz #[H3,I3,q3]
def ahQ(r r':R2)(ta tb tc:TE):TE:=λU H Q=>ta U H λx H1=>tb U H1 λy H2=>r x y H2 λz H3=>∃k,z=.bl k/\
 (if k=true then tc U H3 λw' H4=>r' y w' H4 Q else Q (.bl false) H3)
def Zj(ho:eB X (compareOp op) r)(mT:eB X (compareOp A0) r')(ha:PE X a ta)(hb:PE X b tb)(hc:PE X c tc)
  (hm:lastMarks [op,A0] [b,c]=false:=by with_unfolding_all rfl):PE X (.Compare a [op,A0] [b,c] pos) (ahQ r r' ta tb tc):=by
 intro af s U H Q I h;refine Compare_chain (ha.n I h λv s1 x H1 I1 r1 q1=>chain_link (hb.n I1 q1 λu s2 y H2 I2 r2 q2=>
  cX (ho af s2 U H2 x y v u _ I2 r1 r2 q2) λd s3 #[z,H3,I3,r3,k,e,q3]=>?_)) hm
 subst e;ext r3;refine agz ?_;cases k with
 |false=>apply ite_ff #[.bl false,H3,I3,rfl,q3]
 |true=>apply ite_tt (chain_last (hc.n I3 q3 λw' s4 z' H4 I4 r4 q4=>mT af s4 U H4 y z' u w' Q I4 r2 r4 q4))
def PB(K:Fr)(x:V)(H:Hp)(k:Bool):Prop:=
 match x with
 |.aJ=>k=false
 |.bl b=>k=b
 |.int i=>k=(i != 0)
 |.str y=>y.length<=sizeLine/\k=((y.length:Int) != 0)
 |.kF y=>y.size<=sizeLine/\k=((y.size:Int) != 0)
 |.ref p=>(∃xs,cH K H p xs/\k=!xs.isEmpty)\/(∃xs,cO K H p xs/\k=!xs.isEmpty)\/∃ao,H p=some (.dK ao)/\k=!ao.isEmpty
 |_=>False
def VE(r:KV ao vs):(!vs.isEmpty)=!ao.isEmpty:=by
 ext r<;>rfl
def Ri(r:aW xs ay):(!ay.toArray.isEmpty)=!xs.isEmpty:=by
 ext r<;>simp
def Aa:(sizeLine:Nat)<2 ^ 63:=by rw[aft];decide
def ag0:agT X (λx H Q=>∃k,PB X.K x H k/\Q k H):=by
 intro af s U H x v Q I rx h;let#[k,e,q]:=h;have hl:=Aa;have hs:=aft;cases x with
 |aJ=>
  ext rx;have e':=e;subst e';apply truthy_none #[H,I,q]
 |bl b=>
  ext rx;have e':=e;subst e';apply agz #[H,I,q]
 |int i=>
  let#[t,rfl]:=rx;have e':=e;subst e';apply PySem.P.truthy_int #[H,I,q]
 |str y=>
  let#[t,rfl]:=rx;obtain⟨hy,e'⟩:y.length<=sizeLine/\k=((y.length:Int) != 0):=e;subst e';apply PySem.P.truthy_str (by omega) #[H,I.tok _,q]
 |kF y=>
  let#[t,rfl]:=rx;obtain⟨hy,e'⟩:y.size<=sizeLine/\k=((y.size:Int) != 0):=e;subst e';apply PySem.W.truthy_bytes (by omega) #[H,I.tok _,q]
 |ref p=>
  ext rx;have e':=e;rcases e' with⟨xs,hx,e'⟩|⟨xs,hx,e'⟩|⟨ao,hx,e'⟩
  .subst e';let#[ay,r,pl,hz]:=I.list hx;have hlen:=r.length;apply wpAny_truthy_list pl.isList (by simp only[abF];omega) #[H,I.tok _,by rw[Ri r];apply q]
  .subst e';let#[ay,r,pl,hz]:=I.tuple hx;have hlen:=r.length;apply truthy_tuple pl (by simp only[abF];omega) #[H,I.tok _,by rw[Ri r];apply q]
  .subst e';obtain⟨hz,hS,vs,r,m⟩:ao.length<=sizeLine/\(p==sysModules)=false/\∃vs,KV ao vs/\s.heap.DictOf (gO X.prog X.w) p vs:=I.aM p _ hx;have hlen:=Paired.length r;apply wpAny_truthy_dict hS m (by omega) #[H,I.tok _,by rw[VE r];apply q]
 |_=>apply(show False from e).elim
def acq(ha:PE X a ta)(he:∀whole,isTrue a X.env whole=(do let v <- whole;standAt a.pos;holding [v] (truthy v))):
  PT X a (λU H Q=>ta U H λx H'=>∃k,PB X.K x H' k/\Q k H'):=by
 intro af s U H Q I h;apply isTrue_plain (ha.n I h λv s1 x H1 I1 r1 q1=>ag0 af s1 U H1 x v Q I1 r1 q1) (he _)
def vals1(r:aW [x] us):∃u,us=[u]/\RelV x u:=by
 cases r with
 |cons r1 r2=>ext r2;apply#[_,rfl,r1]
def vals2(r:aW [x,y] us):∃u w',us=[u,w']/\RelV x u/\RelV y w':=by
 cases r with
 |cons r1 r2=>
  cases r2 with
  |cons r3 r4=>ext r4;apply#[_,_,rfl,r1,r3]
def abS(hc:X.calm=true):ic X (.builtin "max") (λxs H Q=>∃i j,xs=[.int i,.int j]/\Q (.int (if j > i then j else i)) H):=by
 intro af s U H xs us Q I r h;let#[i,j,rfl,q]:=h;let#[u,w',rfl,#[t,rfl],#[t',rfl]]:=vals2 r;refine max_two_ints (I.ok.hd hc) λh' tk k=>#[_,H,I.kept k,?_,q]
 by_cases hj:j > i
 .rw[if_pos hj,if_pos hj];apply#[_,rfl]
 .rw[aa0 hj,aa0 hj];apply#[_,rfl]
def XT(hc:X.calm=true):ic X (.builtin "min") (λxs H Q=>∃i j,xs=[.int i,.int j]/\Q (.int (if j<i then j else i)) H):=by
 intro af s U H xs us Q I r h;let#[i,j,rfl,q]:=h;let#[u,w',rfl,#[t,rfl],#[t',rfl]]:=vals2 r;refine min_two_ints (I.ok.hd hc) λh' tk k=>#[_,H,I.kept k,?_,q]
 by_cases hj:j<i
 .rw[if_pos hj,if_pos hj];apply#[_,rfl]
 .rw[aa0 hj,aa0 hj];apply#[_,rfl]
structure uU(h:Heap)(x dx C:Addr)(mA:Str->Option Value):Prop where
 obj:h.get? x=some (PySem.W.instObj C dx)
 ns:h.Ns1 dx mA
 ne:dx≠x
def acT{h:Heap}(n:h.Ns1 dx mA):∃od,h.get? dx=some od/\∀name,PySem.W.lookIn name od=some (mA name):=by
 let#[o,es,ep,ho,hd,hk,_,hm]:=n;refine#[o,ho,λname=>?_];have e:=hm name;unfold nsFind findBy at e;rw[<- Array.find?_toList] at e;unfold PySem.W.lookIn;rw[hd];dsimp only
 split
 .rename_i y q;rw[q] at e;apply congrArg some e
 .rename_i q;rw[q] at e;have a:es.toList.any (·.refKey)=false:=by
   rw[List.any_eq_false];intro y hy;let#[z,t,zY]:=hk y (Array.mem_toList_iff.mp hy);simp[DictEntry.refKey,zY]
  have a':¬es.toList.any (·.refKey)=true:=by rw[a];apply aaH
  rw[aa0 a'];apply congrArg some e
def uU.look(I:uU h x dx C mA):∃od,PySem.W.InstAt h x (PySem.W.instObj C dx) C (some od)/\∀name,PySem.W.lookIn name od=some (mA name):=
 let#[od,ho,hl]:=acT I.ns
 #[od,#[I.obj,rfl,rfl,ho],hl]
section
variable{K:Fr}
def get_map(X:K.In s.heap)(I:uU s.heap x dx C mA)(hg:PySem.W.plainGet K C name=true)(hh:PySem.W.hasDictIn K C=true)
  (ha:PySem.W.findIn K (.ref C) name=some none) (hv:mA name=some v) (lX:PySem.W.handedIn v=true) (h:Q v { s with toks:=s.toks+1 }) :
  wpAny (model prog w) A (getAttr (.ref x) name expr) Q E s:=by
 let#[od,J,hl]:=I.look;apply PySem.W.get_value X J (PySem.W.plainGet_of hg).1 (PySem.W.findObj_own hh ha rfl (by rw[hl,hv])) lX h
def Xf(X:K.In s.heap)(I:uU s.heap x dx C mA)(hg:PySem.W.plainGet K C name=true)
  (hf:PySem.W.findIn K (.ref C) name=some (some (.ref f))) (ht:PySem.W.isFn K (.ref f)=true) (hv:mA name=none) (h:Q (.ref f,[.ref x]) s) :
  wpAny (model prog w) A (getMethod (.ref x) name pl) Q E s:=by
 let#[od,J,hl]:=I.look;apply PySem.W.method_fn X J (PySem.W.plainGet_of hg).1 (PySem.W.plainGet_of hg).2 hf (ahF.mp ht) (by show(PySem.W.lookIn name od).map (·.isSome)=some false;rw[hl,hv];rfl) h
def Zg(X:K.In s.heap)(I:uU s.heap x dx C mA)
  (hs:PySem.W.findIn K (.ref C) "__setattr__"=some (some (.builtin "object.__setattr__"))) (hp:PySem.W.plainOver K C=true) (ht:PySem.W.takerIn K C name=some none) (hh:PySem.W.hasDictIn K C=true)
  (hw:PySem.Within mA ns) (hsz:ns.length<=sizeLine)
  (h:∀h',uU h' x dx C (λy=>if y=name then some v else mA y)->Heap.SameBut dx s.heap h'->Q () { s with heap:=h',toks:=s.toks+2 }) :
  wpAny (model prog w) A (setAttr (.ref x) name v) Q E s:=by
 let#[od,J,hl]:=I.look;refine PySem.W.set_plain X J hs (PySem.W.osa_open (r:=none) X J hp ht λb=>?_);let#[cd,hc,KH]:=PySem.W.any_some hh;have hx:=I.obj;refine aaK (acp (aaK (aaK (wpAny_loadPart hx (aaK (PySem.W.Looks.here (PySem.W.looks_clsIn X hc) ?_))))));rw[KH];refine acp (aaK (acp (aaK ?_)));refine wpAny_nsSet1 I.ns λh' xU cV=>?_
 let#[oD,esD,epD,Ll,hdD,hcD]:=xU.count (PySem.Within.cons name v hw);refine aaK (wpAny_lookBehind Ll (by rw[hdD];apply pastItsLine_dict (aeC hcD (by rw[abZ];omega))) ?_);apply acp (h _ #[(cV.2 _ (ahc I.ne)).trans I.obj,xU,I.ne] cV)
def aef(X:K.In s.heap)(hm:PySem.W.makesIn K C=true)
  (hi:PySem.W.findIn K (.ref C) "__init__"=some (some (.ref f))) (hf:PySem.W.typeIn K (.ref f)=some (.type "function"))
  (h:codeAny (model prog w) (A.under (.builtin "type.__call__" #[.ref C::vs,kw])) (.call (.ref f) #[.ref (s.heap.objs.size + 1)::vs,kw]) (PySem.W.InitBack (s.heap.objs.size + 1) R)
   { s with heap:=(s.heap.push PySem.W.emptyDict).push (PySem.W.instObj C s.heap.objs.size) }) :
  codeAny (model prog w) A (.call (.ref C) #[vs,kw]) R s:=by
 let#[hh,g,d,t,os]:=s;apply PySem.W.make_core (PySem.W.makes_of X hm) (PySem.W.looks_findIn X hi) (λself=>PySem.W.bind_fn X self hf) (.inl rfl) h
end
def gj(f:Str)(v:V):List (Str×V)->List (Str×V)
 |[]=>[(f,v)]
 |(g,x)::r=>if g=f then(g,v)::r else(g,x)::gj f v r
theorem Ox(f g:Str)(v:V):∀fs:List (Str×V),(gj f v fs).lookup g=if g=f then some v else fs.lookup g
 |[]=>by
  show List.lookup g [(f,v)]=_
  by_cases h:g=f
  .have hb:=ahF.mpr h;simp only[List.lookup,hb,if_pos h]
  .have hb:=ae0.mpr h;simp only[List.lookup,hb,aa0 h]
 |(k,x)::r=>by
  have ih:=Ox f g v r;rw[show gj f v ((k,x)::r)=(if k=f then(k,v)::r else(k,x)::gj f v r) from rfl]
  by_cases hk:k=f
  .rw[if_pos hk]
   by_cases h:g=k
   .have hb:=ahF.mpr h;simp only[List.lookup,hb,if_pos (h.trans hk)]
   .have hb:=ae0.mpr h;simp only[List.lookup,hb,aa0 (λe:g=f=>h (e.trans hk.symm))]
  .rw[aa0 hk]
   by_cases h:g=k
   .have hb:=ahF.mpr h;simp only[List.lookup,hb,aa0 (λe:g=f=>hk (h.symm.trans e))]
   .have hb:=ae0.mpr h;simp only[List.lookup,hb];apply ih
theorem JU(f:Str)(v:V):∀fs:List (Str×V),f∈(gj f v fs).map (·.1)/\∀g,g∈fs.map (·.1)->g∈(gj f v fs).map (·.1)
 |[]=>#[by simp[gj],λg h=>by simp at h]
 |(k,x)::r=>by
  let#[i1,i2]:=JU f v r;rw[show gj f v ((k,x)::r)=(if k=f then(k,v)::r else(k,x)::gj f v r) from rfl]
  by_cases hk:k=f
  .rw[if_pos hk];subst hk;apply#[by simp,λg h=>by simpa using h]
  .rw[aa0 hk];refine#[?_,λg h=>?_]
   .rw[aar];apply aaf _ i1
   .rw[aar] at h ⊢;rcases aaA.mp h with e|e
    .exact aaA.mpr (.inl e)
    .exact aaf _ (i2 g e)
theorem P9(f:Str)(v:V):∀fs:List (Str×V),(gj f v fs).length<=fs.length+1
 |[]=>by simp[gj]
 |(k,x)::r=>by
  have ih:=P9 f v r;rw[show gj f v ((k,x)::r)=(if k=f then(k,v)::r else(k,x)::gj f v r) from rfl]
  by_cases hk:k=f
  .rw[if_pos hk,abZ,abZ];omega
  .rw[aa0 hk,abZ,abZ];omega
def iK.some_of(r:iK (some v) o):∃u,o=some u/\RelV v u:=by
 cases o with
 |none=>apply(show False from r).elim
 |some u=>apply#[u,rfl,r]
def iK.none_of(r:iK none o):o=none:=by
 cases o with
 |none=>rfl
 |some u=>apply(show False from r).elim
def abe(r:RelV v u):PySem.W.handedIn u=true:=by
 cases v with
 |aJ=>cases(show u=Value.none from r);rfl
 |bl b=>cases(show u=Value.bool b from r);rfl
 |int i=>let#[t,e]:=(show ∃t,u=Value.int i t from r);ext e;rfl
 |str x=>let#[t,e]:=(show ∃t,u=Value.str x t from r);ext e;rfl
 |kF b=>let#[t,e]:=(show ∃t,u=Value.bytes b t from r);ext e;rfl
 |tE b=>let#[t,e]:=(show ∃t,u=Value.float b t from r);ext e;rfl
 |ref a=>cases(show u=Value.ref a from r);rfl
 |ty n=>cases(show u=Value.type n from r);rfl
def Ca(aM:dU P w H h)(e:H a=some (.ins C dx fs)):∃mA,uU h a dx C mA/\(∀f,iK (fs.lookup f) (mA f))/\PySem.Within mA (fs.map (·.1))/\fs.length<=1000/\H dx=some (.own a):=by
 let#[d,z,ne,ob,mA,n,r,q]:=(show dZ P w H h a (.ins C dx fs) from aM a _ e)
 apply#[mA,#[ob,n,ne],r,q,z,d]
structure kg(K:Fr)(C:Addr):Prop where
 pg:PySem.W.plainGet K C Str.empty=true
 hd:PySem.W.hasDictIn K C=true
 po:PySem.W.plainOver K C=true
 sa:PySem.W.findIn K (.ref C) "__setattr__"=some (some (.builtin "object.__setattr__"))
def kg.get{K:Fr}(c:kg K C)(f:Str):PySem.W.plainGet K C f=true:=c.pg
def jb(K:Fr)(C:Addr)(f:Str):Prop:=PySem.W.findIn K (.ref C) f=some none
def jb.acf{K:Fr}(n:jb K C f):PySem.W.takerIn K C f=some none:=by
 unfold PySem.W.takerIn;rw[show PySem.W.findIn K (.ref C) f=some none from n];rfl
structure j_(K:Fr)(C:Addr)(m:Str)(f:Addr):Prop where
 at_:PySem.W.findIn K (.ref C) m=some (some (.ref f))
 fn:PySem.W.isFn K (.ref f)=true
 kp:PySem.W.keepIn K (.ref f)=true
def Ux(I:Inv X af U H s)(e:H a=some (.ins C dx fs))(c:kg X.K C)(n:jb X.K C f)(l:fs.lookup f=some v)
  (h:∀u s',Inv X af U H s'->RelV v u->Q u s'):wpAny (model X.prog X.w) A (getAttr (.ref a) f b) Q E s:=by
 let#[mA,O,r,_,_,_]:=Ca I.aM e;let#[u,hu,ru]:=iK.some_of (by rw[<- l];apply r f);apply get_map I.dJ O (c.get f) c.hd n hu (abe ru) (h u _ (I.tok _) ru)
def JO(I:Inv X af U H s)(e:H a=some (.ins C dx fs))(c:kg X.K C)(k:j_ X.K C m g)(l:fs.lookup m=none)
  (h:Q (.ref g,[.ref a]) s):wpAny (model X.prog X.w) A (getMethod (.ref a) m pl) Q E s:=by
 let#[mA,O,r,_,_,_]:=Ca I.aM e;have hn:=iK.none_of (by rw[<- l];apply r m);apply Xf I.dJ O (c.get m) k.at_ k.fn hn h
def PN(I:Inv X af U H s)(e:H a=some (.ins C dx fs))(c:kg X.K C)(n:jb X.K C f)(hl:fs.length<1000)(ry:RelV y u)
  (h:∀s',Inv X af U (upd H a (.ins C dx (gj f y fs))) s'->Q () s'):wpAny (model X.prog X.w) A (setAttr (.ref a) f u) Q E s:=by
 let#[mA,O,r,wi,_,ho]:=Ca I.aM e;have hz:(fs.map (·.1)).length<=sizeLine:=by rw[List.length_map,aft];omega
 refine Zg I.dJ O c.sa c.po n.acf c.hd wi hz λh' O' sb=>h _ ?_
 have hd:∃o,h'.get? dx=some o:=let#[o,_,_,e',_]:=O'.ns;#[o,e']
 refine I.write (by rw[e];apply True.intro) (.inr ho) (λb q hb z=>(sb.2 b hb).trans z) hd ?_;refine#[by rw[aP O.ne];apply ho,?_,O.ne,O'.obj,_,O'.ns,λg=>?_,λg hg=>?_]
 .have:=P9 f y fs;omega
 .show iK ((gj f y fs).lookup g) (if g=f then some u else mA g);rw[Ox]
  by_cases q:g=f
  .rw[if_pos q,if_pos q];apply ry
  .rw[aa0 q,aa0 q];apply r g
 .by_cases q:g=f
  .rw[q];apply(JU f y fs).1
  .refine(JU f y fs).2 g (wi g λz=>hg ?_);show(if g=f then some u else mA g)=none;rw[aa0 q];apply z
def Inv.made(I:Inv X af U H s):Inv X af U (upd (upd H s.heap.objs.size (.own (s.heap.objs.size+1))) (s.heap.objs.size+1) (.ins C s.heap.objs.size []))
  { s with heap:=(s.heap.push PySem.W.emptyDict).push (PySem.W.instObj C s.heap.objs.size) }:=by
 have e1:(s.heap.push PySem.W.emptyDict).get? s.heap.objs.size=some PySem.W.emptyDict:=abp s.heap rfl;have e2:((s.heap.push PySem.W.emptyDict).push (PySem.W.instObj C s.heap.objs.size)).get? (s.heap.objs.size+1)=some (PySem.W.instObj C s.heap.objs.size):=by
  have:=abp (s.heap.push PySem.W.emptyDict) (o:=PySem.W.instObj C s.heap.objs.size) rfl
  rwa [ajn] at this
 have e3:(s.heap.push PySem.W.emptyDict).Ns s.heap.objs.size (λ_=>none):=#[PySem.W.emptyDict,([].toArray),_,e1,rfl,(λe he=>absurd he (by simp)),λ_=>rfl]
 have I1:=I.laid (o:=.own (s.heap.objs.size+1)) (t':=s.toks) (λb u q=>aaq _ q) (abi _) #[_,e1];refine I1.laid (λb u q=>aaq _ q) (Nat.le_of_eq (ajn _ _)) ?_;have ne:s.heap.objs.size≠s.heap.objs.size+1:=aco (aiV _);refine#[by rw[aP ne,cg],aeQ _,ne,e2,λ_=>none,(Heap.Ns1.of_empty e3).at λo q=>aaq _ q,λ_=>True.intro,λy hy=>absurd rfl hy]
def aiM(hb:attributeBase e f env (eval e env)=eval e env)
  (h:wpAny (model prog w) A (eval e env) (λo cL=>wpAny (model prog w) A (getAttr o f true) Q E cL) E s):wpAny (model prog w) A (eval (.Attribute e f pos) env) Q E s:=
 Attribute_any_ h (by rw[arm_eval_Attribute,hb])
def IB(K:Fr)(ta:TE)(f:Str):TE:=λU H Q=>ta U H λx H1=>∃a C dx fs v,x=.ref a/\H1 a=some (.ins C dx fs)/\kg K C/\jb K C f/\fs.lookup f=some v/\Q v H1
def agy(K:Fr)(ta tv:TE)(f:Str):TS:=λD U H=>tv U H λy H1=>ta U H1 λx H2=>∃a C dx fs,x=.ref a/\H2 a=some (.ins C dx fs)/\kg K C/\jb K C f/\fs.length<1000/\
 D.nx U (upd H2 a (.ins C dx (gj f y fs)))
def Sy(X:Cx)(op:Operator)(rd:V->V->Hp->VK->Prop):Prop:=
 ∀(af) (s) (U) (H) (x y) (u v) (Q),Inv X af U H s->RelV x u->RelV y v->rd x y H Q->wpAny (model X.prog X.w) X.A (inplaceOp op u v) (EP X af U Q) X.xe s
def ahV(K:Fr)(ta tv:TE)(rd:V->V->Hp->VK->Prop)(f:Str):TS:=λD U H=>ta U H λx H1=>∃a C dx fs v,x=.ref a/\H1 a=some (.ins C dx fs)/\kg K C/\jb K C f/\fs.lookup f=some v/\
 tv U H1 λy H2=>rd v y H2 λz H3=>∃Ak wB,H3 a=some (.ins C Ak wB)/\wB.length<1000/\D.nx U (upd H3 a (.ins C Ak (gj f z wB)))
def oY(he:PE X e ta)(hb:attributeBase e f X.env (eval e X.env)=eval e X.env):PE X (.Attribute e f pos) (IB X.K ta f):=by
 intro af s U H Q I h;refine aiM hb (he.n I h λu s1 x H1 I1 rx q=>?_);let#[a,C,dx,fs,v,ex,ea,c,n,l,q]:=q;subst ex;obtain rfl:u=Value.ref a:=rx;apply Ux I1 ea c n l λu' s2 I2 ru=>#[v,H1,I2,ru,q]
def Zc(ha:PE X o ta)(hv:PE X value tv)(hs:swapsWith value (some (.Attribute o f pos')) pos.line X.env=pure false):PS X (.Assign [.Attribute o f pos'] value pos) (agy X.K ta tv f):=by
 intro af s U H D I h;refine plainObj_wpAny_Assign_Attribute (hv.n I h λu s1 y H1 I1 ry q=>ha.n I1 q λov s2 x H2 I2 rx q=>?_) hs;let#[a,C,dx,fs,ex,ea,c,n,l,q2]:=q;subst ex;obtain rfl:ov=Value.ref a:=rx;apply PN I2 ea c n l ry λs3 I3=>#[U,_,I3,q2]
def ahC(ha:PE X o ta)(hv:PE X value tv)(hop:Sy X op rd):PS X (.AugAssign (.Attribute o f ajK) op value pos) (ahV X.K ta tv rd f):=by
 intro af s U H D I h;refine wpAny_AugAssign_AttributeAny (ha.n I h λov s1 x H1 I1 rx q=>?_);let#[a,C,dx,fs,v,ex,ea,c,n,l,q]:=q;subst ex;obtain rfl:ov=Value.ref a:=rx;refine Ux I1 ea c n l λu s2 I2 ru=>hv.n I2 q λw3 s3 y H2 I3 ry q3=>yJ (hop af s3 U H2 v y u w3 _ I3 ru ry q3) λw4 s4 z H3 I4 rz q=>?_
 let#[Ak,wB,ZE,l',q4]:=q;apply PN I4 ZE c n l' rz λs5 I5=>#[U,_,I5,q4]
def aax:V->V->Hp->VK->Prop:=λx y H Q=>∃i j,x=.int i/\y=.int j/\Q (.int (i+j)) H
def ahb:Sy X .Add aax:=by
 rintro af s U H x y u v Q I rx ry ⟨i,j,rfl,rfl,q⟩
 let#[t,rfl]:=(show ∃t,u=Value.int i t from rx)
 let#[t',rfl]:=(show ∃t',v=Value.int j t' from ry)
 apply PyProof.Rows.iadd_int #[.int (i+j),H,I.tok _,#[_,rfl],q]
inductive jX(K:Fr)(H:Hp):V->Value->Prop where
 |aJ:jX K H .aJ (.type "NoneType")
 |bl (x:Bool):jX K H (.bl x) (.type "bool")
 |int (i:Int):jX K H (.int i) (.type "int")
 |str (x:Str):jX K H (.str x) (.type "str")
 |tE (x:UInt64):jX K H (.tE x) (.type "float")
 |lst {a:Addr}{xs:List V} (e:H a=some (.lst xs)):jX K H (.ref a) (.type "list")
 |cR {a:Addr}{o:Obj}{xs:List V} (e:H a=some (.cR o (.lst xs))):jX K H (.ref a) (.type "list")
 |tup {a:Addr}{xs:List V} (e:H a=some (.tup xs)):jX K H (.ref a) (.type "tuple")
 |dK {a:Addr}{ao:List (Key×V)} (e:H a=some (.dK ao)):jX K H (.ref a) (.type "dict")
 |dT {a:Addr}{ao:List (List Key×V)} (e:H a=some (.dT ao)):jX K H (.ref a) (.type "dict")
 |ins {a C dx:Addr}{fs:List (Str×V)} (e:H a=some (.ins C dx fs)) (cl:kg K C) (ha:PySem.W.findIn K (.ref C) "__class__"=some (some (.builtin "object.__class__")))
   (hn:PySem.W.specialIn K (.builtin "object.__class__") "__get__"=some (some (.builtin "getset_descriptor.__get__"))) (Pd:PySem.W.takesIn K (.builtin "object.__class__")=some true)
   (hm:PySem.W.mroIn K C (.type "object")=some true):jX K H (.ref a) (.ref C)
def acu(I:Inv X af U H s)(rx:RelV x u)(ty:jX X.K H x t)(e:PySem.W.kitOne X.K t c=some b)(h:∀tk,Q (.bool b) { s with toks:=tk }):
  wpAny (model X.prog X.w) A (call (.builtin "isinstance") [u,c]) Q E s:=by
 cases ty with
 |aJ=>cases(show u=Value.none from rx);apply PySem.W.kia_one PySem.W.kitx_none I.dJ True.intro e (λz=>nomatch z) h
 |bl y=>cases(show u=Value.bool y from rx);apply PySem.W.kia_one PySem.W.kitx_bool I.dJ True.intro e (λz=>nomatch z) h
 |int i=>let#[t,q]:=(show ∃t,u=Value.int i t from rx);ext q;apply PySem.W.kia_one PySem.W.kitx_int I.dJ True.intro e (λz=>nomatch z) h
 |str y=>let#[t,q]:=(show ∃t,u=Value.str y t from rx);ext q;apply PySem.W.kia_one PySem.W.kitx_str I.dJ True.intro e (λz=>nomatch z) h
 |tE y=>let#[t,q]:=(show ∃t,u=Value.float y t from rx);ext q;apply PySem.W.kia_one PySem.W.kitx_float I.dJ True.intro e (λz=>nomatch z) h
 | @lst a xs ea=>
  cases(show u=Value.ref a from rx);let#[_,_,n,_,h1]:=(show dZ X.prog X.w H s.heap a (.lst xs) from I.aM a _ ea)
  apply PySem.W.kia_one PySem.W.kitx_list I.dJ #[_,h1,rfl] e (λz=>nomatch z) h
 | @cR a ob xs ea=>
  cases(show u=Value.ref a from rx);let#[_,_,_,n,_,h1]:=(show dZ X.prog X.w H s.heap a (.cR ob (.lst xs)) from I.aM a _ ea)
  apply PySem.W.kia_one PySem.W.kitx_list I.dJ #[_,h1,rfl] e (λz=>nomatch z) h
 | @tup a xs ea=>
  cases(show u=Value.ref a from rx);let#[_,_,_,p]:=(show dZ X.prog X.w H s.heap a (.tup xs) from I.aM a _ ea)
  let#[o,h1,h2,_]:=p;apply PySem.W.kia_one PySem.W.kitx_tuple I.dJ #[o,h1,h2] e (λz=>nomatch z) h
 | @dK a ao ea=>
  cases(show u=Value.ref a from rx);let#[_,_,vs,_,p]:=(show dZ X.prog X.w H s.heap a (.dK ao) from I.aM a _ ea)
  let#[o,es,ep,h1,h2,_]:=p;apply PySem.W.kia_one PySem.W.kitx_dict I.dJ #[o,h1,h2.1] e (λz=>nomatch z) h
 | @dT a ao ea=>
  cases(show u=Value.ref a from rx);let#[_,_,xs,_,o,es,ep,h1,h2,_]:=(show dZ X.prog X.w H s.heap a (.dT ao) from I.aM a _ ea)
  apply PySem.W.kia_one PySem.W.kitx_dict I.dJ #[o,h1,h2.1] e (λz=>nomatch z) h
 | @ins a C dx fs ea cl ha hn Pd hm=>
  cases(show u=Value.ref a from rx);let#[mA,O,_]:=Ca I.aM ea;let#[od,J,_]:=O.look;apply PySem.W.kia_one (PySem.W.kitx_own (cl.get _) cl.hd ha hn Pd hm) I.dJ J e (λz=>nomatch z) h
structure bR(k:Nat)(A:Around)(cm:Bool:=true):Prop where
 hd:cm=true->A.handled=none
 dp:A.depth+3*k+5<recursionLimit
 un:A.units+16*k+200<cLine
 gd:A.guards=some []
def bR.mono(r:bR k A cm)(h:j<=k):bR j A cm:=#[r.hd,by have:=r.dp;omega,by have:=r.un;omega,r.gd]
def bR.deeper(r:bR (k+1) A cm)(env:Env):bR k (A.deeper env) cm:=
 #[r.hd,by have:=r.dp;show A.depth+1+3*k+5<_;omega,by have:=r.un;show A.units+3+16*k+200<_;omega,r.gd]
def bR.in1(r:bR (k+1) A cm):bR k A.in1 cm:=
 #[r.hd,by have:=r.dp;show A.depth+3*k+5<_;omega,by have:=r.un;show A.units+1+16*k+200<_;omega,r.gd]
def agw{A:Around}:(A.under (.builtin "type.__call__" #[.ref C::us,kw])).depth=A.depth+1:=by
 first|rfl|simp[Around.under,Code.weight,Code.isCreation,Code.isGuard,Code.isCaller,Code.frames,Code.isFrame,guardIds]
def aaW{A:Around}:(A.under (.builtin "type.__call__" #[.ref C::us,kw])).units=A.units+1:=by
 first|rfl|simp[Around.under,Code.cUnits,Code.frames,Code.isFrame]
def bR.make(r:bR (k+1) A cm)(C:Addr)(us:List Value)(kw:List (Str×Value)):bR k (A.under (.builtin "type.__call__" #[.ref C::us,kw])) cm:=
 #[r.hd,by have:=r.dp;rw[agw];omega,by have:=r.un;rw[aaW];omega,by first|exact r.gd|(simp[Around.under,Code.guards,Code.isGuard,guardIds,pushGuards];apply r.gd)]
def bR.depth(r:bR k A cm):A.depth<recursionLimit:=by have:=r.dp;omega
def bR.units(r:bR k A cm):A.units+64<cLine:=by have:=r.un;omega
def A6:TA:=λ_ H Q=>Q [] H
def Nb(ta:TE)(tr:TA):TA:=λU H Q=>ta U H λx H1=>tr U H1 λxs H2=>Q (x::xs) H2
def fT:PA X [] A6:=λ_ _ _ _ H Q I h=>Calls.spliced_nil #[[],H,I,.nil,h]
def dX(ha:PE X e te)(hr:PA X es t)(hs:starEach (e::es) X.env=(false,eval e X.env)::starEach es X.env:=by rfl):PA X (e::es) (Nb te t):=by
 intro pos af s U H Q I h;rw[hs];show wpAny _ _ (spliced ((false,eval e X.env)::backTo pos (starEach es X.env))) _ _ s;refine Calls.spliced_cons (ha.n I h λu s1 x H1 I1 r1 q1=>?_);apply hr.n I1 q1 λus s2 xs H2 I2 r2 q2=>#[x::xs,H2,I2,.cons r1 r2,q2]
def ZC(t:TA):TE:=λU H Q=>t U H λxs H1=>xs.length<=sizeLine/\∀p,H1 p=none->Q (.ref p) (upd H1 p (.tup xs))
def l7(t:TA):TE:=λU H Q=>t U H λxs H1=>xs.length<=sizeLine/\∀p,H1 p=none->Q (.ref p) (upd H1 p (.lst xs))
def Lc{x1}(h:PA X es t):PE X (.Tuple es x1 pos) (ZC t):=by
 intro af s U H Q I hq;refine wpAny_Tuple_spliced (cX (h pos af s U H _ I hq) ?_)
 rintro us s1 ⟨xs,H1,I1,r,z,q⟩
 refine#[by rw[<- r.length];apply z,?_];have hf:=I1.aM.fresh (abi _);refine#[.ref s1.heap.objs.size,upd H1 s1.heap.objs.size (.tup xs),I1.laid (t':=s1.toks) (λb u e=>aaq _ e) (abi _) ?_,rfl,q _ hf];apply#[z,us,r,#[_,abp _ rfl,rfl,rfl,_,rfl]]
def ai2(h:PA X es t):PE X (.List es pos) (l7 t):=by
 intro af s U H Q I hq;refine wpAny_List_spliced (cX (h pos af s U H _ I hq) ?_)
 rintro us s1 ⟨xs,H1,I1,r,z,q⟩
 refine#[by rw[<- r.length];apply z,?_];have hf:=I1.aM.fresh (abi _);refine#[.ref s1.heap.objs.size,upd H1 s1.heap.objs.size (.lst xs),I1.laid (t':=s1.toks) (λb u e=>aaq _ e) (abi _) ?_,rfl,q _ hf];apply#[z,us,0,r,abp _ rfl]
abbrev Sp:=List V->Hp->VK->XK->Prop
abbrev qS:=List Env->Hp->Shared->XK->Value->Shared->Prop
structure uN(P:Program)(w:World)(K:Fr)(mg:Str->Option Value)(base:Heap)(A:Around)(outer:List Env)(s:Shared)(H:Hp):Prop where
 frames:A.frames=some outer
 mod:Mod K mg base
 bs:∀b o,base.get? b=some o->s.heap.get? b=some o/\H b=none
 jI:base.objs.size<=s.heap.objs.size
 jG:s.heap.FunFrames base outer
 l_:∀b∈bK outer,H b=none
 aM:dU P w H s.heap
 bare:AllBare s.gens
 hq:Hq K A H
def CE(outer:List Env)(P:Program)(w:World)(H:Hp)(s:Shared)(Q:VK)(u:Value)(s':Shared):Prop:=
 ∃v H',s'.os=s.os/\AllBare s'.gens/\Un (bK outer) [] H H' s.heap s'.heap/\dU P w H' s'.heap/\RelV v u/\Q v H'
def CR(CX:qS)(outer:List Env)(P:Program)(w:World)(H:Hp)(s:Shared)(Q:VK)(E:XK)(r:Result)(s':Shared):Prop:=
 match r with
 |.ok (.ret u)=>CE outer P w H s Q u s'
 |.ok _=>False
 |.error e=>CX outer H s E e s'
structure bS(P:Program)(w:World)(K:Fr)(mg:Str->Option Value)(base:Heap)(CX:qS)(k:Nat)(f:Addr)(fd:FuncData)(ps:List Str)(sp:Sp)(cm:Bool:=true):Prop where
 len:∀vs H Q E,sp vs H Q E->vs.length=ps.length
 run:∀(A) (outer) (s) (H) (args) (us) (vs) (Q) (E),bR k A cm->uN P w K mg base A outer s H->BindsTo s fd args (ps.zip us)->aW vs us->sp vs H Q E->
  codeAny (model P w) A (.call (.ref f) args) (CR CX outer P w H s Q E) s
def bS.mono{K:Fr}(F:bS P w K mg base CX j f fd ps sp cm)(h:j<=k):
  bS P w K mg base CX k f fd ps sp cm:=#[F.len,λA outer s H args us vs Q E hr=>F.run A outer s H args us vs Q E (hr.mono h)]
def bS.imp{K:Fr}(F:bS P w K mg base CX k f fd ps sp cm)
  (h:∀vs H Q E,Z3 vs H Q E->sp vs H Q E):bS P w K mg base CX k f fd ps Z3 cm:=
 #[λvs H Q E q=>F.len vs H Q E (h _ _ _ _ q),λA outer s H args us vs Q E hr he hb hv hs=>F.run A outer s H args us vs Q E hr he hb hv (h _ _ _ _ hs)]
def uN.make{K:Fr}(e:uN P w K mg base A outer s H)(C:Addr)(us:List Value)(kw:List (Str×Value)):
  uN P w K mg base (A.under (.builtin "type.__call__" #[.ref C::us,kw])) outer s H:=#[by first|exact e.frames|(simpa[Around.under,Code.envs,Code.isFrame,pushEnvs] using e.frames),e.mod,e.bs,e.jI,e.jG,e.l_,e.aM,e.bare,#[e.hq.hd,e.hq.ok,e.hq.lm]]
def Inv.Ku(I:Inv X af U H s):uN X.prog X.w X.K X.mg X.base X.A X.stack s H:=
 #[I.ok.frames,I.ok.mod,I.bs,aeC I.ok.jI I.sz,I.stack,I.wc,I.aM,I.bare,I.hq]
def Inv.after(I:Inv X af U H s)(h:CE X.stack X.prog X.w H s Q u s'):EP X af U Q u s':=by
 let#[v,H',os,bare,un,aM,r,q]:=h;let#[hh,g,d,t,os']:=s';obtain rfl:os'=s.os:=os;apply#[v,H',I.call (g':=g) (d':=d) (ch:=[]) un aM bare (λb z=>absurd z (by simp)),r,q]
def Wg(sp:Sp)(eY:List V)(E:XK)(t:TA):TE:=λU H Q=>t U H λvs H1=>sp (vs++eY) H1 Q E
def Bb(C:Addr)(m:Str)(sp:Sp)(eY:List V)(E:XK)(ta:TE)(t:TA):TE:=λU H Q=>ta U H λx H1=>∃a dx fs,x=.ref a/\H1 a=some (.ins C dx fs)/\fs.lookup m=none/\
 t U H1 λvs H2=>sp (x::(vs++eY)) H2 Q E
def Jd(C:Addr)(sp:Sp)(eY:List V)(E:XK)(t:TA):TE:=λU H Q=>t U H λvs H1=>∀x dx,H1 x=none->H1 dx=none->dx≠x->
 sp (.ref x::(vs++eY)) (upd (upd H1 dx (.own x)) x (.ins C dx [])) (λv H2=>v=.aJ/\Q (.ref x) H2) E
def Binds(K:Fr)(fd:FuncData)(ps:List Str)(ds:List Value):Prop:=
 ∀(s) (us),K.In s.heap->(us++ds).length=ps.length->BindsTo s fd #[us,[]] (ps.zip (us++ds))
def Binds.all{K:Fr}(h:∀us:List Value,us.length=ps.length->bindArgs fd #[us,[]]=pure (ps.zip us)):Binds K fd ps []:=λs us _ hl=>by
 rw[ack] at hl ⊢;apply .of_eq (h us hl)
def Passes(CX:qS)(X:Cx)(E:XK):Prop:=∀(af) (U) (H) (s) (e) (s'),Inv X af U H s->CX X.stack H s E e s'->X.xe e s'
def EA(F:bS X.prog X.w X.K X.mg X.base CX k f fd ps sp cm)(hr:bR k X.A cm)(hb:Binds X.K fd ps ds)(hd:aW eY ds)(hx:Passes CX X E)
  (I:Inv X af U H s) (r:aW vs us) (h:sp (vs++eY) H Q E):wpAny (model X.prog X.w) X.A (call (.ref f) us) (EP X af U Q) X.xe s:=by
 have r2:=r.append hd;have hl:(us++ds).length=ps.length:=by rw[<- r2.length];apply F.len _ _ _ _ h
 refine wpAny_call (ajq (F.run X.A X.stack s H #[us,[]] (us++ds) (vs++eY) Q E hr I.Ku (hb s us I.dJ hl) r2 h) λr s' hq=>?_);cases r with
 |error e=>apply hx af U H s e s' I hq
 |ok fl=>
  cases fl with
  |ret u=>apply I.after hq
  |next=>apply False.elim hq
  |brk=>apply False.elim hq
  |cont=>apply False.elim hq
def ON(F:bS X.prog X.w X.K X.mg X.base CX k f fd ps sp cm)(hr:bR k X.A cm)(hg:Gl X x)(hm:X.mg x=some (.ref f))(hk:PySem.W.keepIn X.K (.ref f)=true)(hb:Binds X.K fd ps ds)(hd:aW eY ds)(hx:Passes CX X E)
  (ha:PA X (e::es) t) (gX:(x==("__debug__":Str))=false:=by decide) (he:starEach (e::es) X.env=(false,eval e X.env)::starEach es X.env:=by rfl) (hpl:(backTo pos (starEach es X.env)).any (·.1)=false:=by rfl) :
  PE X (.Call (.Name x p) (e::es) [] pos) (Wg sp eY E t):=by
 intro af s U H Q I h;refine agO (sY I hg hm ?_ gX);refine PySem.W.callWith_K (h₀:=X.base) I.ok.mod.sM hk (ha.n I h λus s1 vs H1 I1 r q=>#[I1.dJ,?_]) he hpl;apply EA F hr hb hd hx I1 r q
def Dz(he:PE X o ta)(c:kg X.K C)(hm:j_ X.K C m f)(F:bS X.prog X.w X.K X.mg X.base CX k f fd ps sp cm)(hr:bR k X.A cm)(hb:Binds X.K fd ps ds)(hd:aW eY ds)(hx:Passes CX X E)(ha:PA X (e::es) t)
  (dM:starEach (e::es) X.env=(false,eval e X.env)::starEach es X.env:=by rfl) (hpl:(backTo pos (starEach es X.env)).any (·.1)=false:=by rfl)
  (ht:eval (.Call (.Attribute o m apos) (e::es) [] pos) X.env=(do
   let ov <- eval o X.env
   standAt apos.atName
   let(f,first) <- holding [ov] (getMethod ov m pl)
   callWith pos f first (backTo pos (starEach (e::es) X.env)) (backToKw pos (keywordEach [] X.env))):=by rfl) :
  PE X (.Call (.Attribute o m apos) (e::es) [] pos) (Bb C m sp eY E ta t):=by
 intro af s U H Q I h;refine PySem.W.methodCall_KW (pl:=pl) (he.n I h λu s1 x H1 I1 rx q=>?_) ht;let#[a,dx,fs,ex,ea,l,q]:=q;subst ex;obtain rfl:u=Value.ref a:=rx;refine JO I1 ea c hm l ?_;refine PySem.W.callWith_K (first:=[.ref a]) (h₀:=X.base) I.ok.mod.sM hm.kp (ha.n I1 q λus s2 vs H2 I2 r q2=>#[I2.dJ,?_]) dM hpl;apply EA (us:=.ref a::us) (vs:=.ref a::vs) F hr hb hd hx I2 (.cons rfl r) q2
def NT(he:PE X o ta)(c:kg X.K C)(hm:j_ X.K C m f)(F:bS X.prog X.w X.K X.mg X.base CX k f fd ps sp cm)(hr:bR k X.A cm)(hb:Binds X.K fd ps ds)(hd:aW eY ds)(hx:Passes CX X E)
  (ht:eval (.Call (.Attribute o m apos) [] [] pos) X.env=(do
   let ov <- eval o X.env
   standAt apos.atName
   let(f,first) <- holding [ov] (getMethod ov m pl)
   callWith pos f first (backTo pos (starEach [] X.env)) (backToKw pos (keywordEach [] X.env))):=by rfl) :
  PE X (.Call (.Attribute o m apos) [] [] pos) (Bb C m sp eY E ta A6):=by
 intro af s U H Q I h;refine PySem.W.methodCall_KW (pl:=pl) (he.n I h λu s1 x H1 I1 rx q=>?_) ht;let#[a,dx,fs,ex,ea,l,q]:=q;subst ex;obtain rfl:u=Value.ref a:=rx;refine JO I1 ea c hm l ?_;apply PySem.W.callWith_K0 (first:=[.ref a]) I1.dJ hm.kp (EA (us:=[.ref a]) (vs:=[.ref a]) F hr hb hd hx I1 (.cons rfl .nil) q)
structure Mk(K:Fr)(C f:Addr):Prop where
 makes:PySem.W.makesIn K C=true
 init:PySem.W.findIn K (.ref C) "__init__"=some (some (.ref f))
 fn:PySem.W.isFn K (.ref f)=true
 kp:PySem.W.keepIn K (.ref C)=true
def TM(M:Mk X.K C f)(F:bS X.prog X.w X.K X.mg X.base CX k f fd ps sp cm)(hr:bR (k+1) X.A cm)(hb:Binds X.K fd ps ds)(hd:aW eY ds)
  (hx:Passes CX X E) (I:Inv X af U H s) (r:aW vs us)
  (h:∀x dx,H x=none->H dx=none->dx≠x->sp (.ref x::(vs++eY)) (upd (upd H dx (.own x)) x (.ins C dx [])) (λv H2=>v=.aJ/\Q (.ref x) H2) E) :
  wpAny (model X.prog X.w) X.A (call (.ref C) us) (EP X af U Q) X.xe s:=by
 have hq:=h (s.heap.objs.size+1) s.heap.objs.size (I.aM.fresh (ahv _)) (I.aM.fresh (abi _)) (aco (aiV _));have I2:=Inv.made (C:=C) I;have r2:aW (V.ref (s.heap.objs.size+1)::(vs++eY)) (Value.ref (s.heap.objs.size+1)::(us++ds)):=.cons rfl (r.append hd);have hl:(Value.ref (s.heap.objs.size+1)::us++ds).length=ps.length:=by
  have e:=r2.length;rw[F.len _ _ _ _ hq] at e;apply e.symm
 refine wpAny_call (aef I.dJ M.makes M.init (ahF.mp M.fn) (ajq (F.run _ X.stack _ _ #[Value.ref (s.heap.objs.size + 1)::us,[]] (Value.ref (s.heap.objs.size + 1)::(us++ds)) _ _ E (hr.make C us [])
  (I2.Ku.make C us []) (hb _ (Value.ref (s.heap.objs.size+1)::us) I2.dJ hl) r2 hq) λr s' lZ=>?_))
 cases r with
 |error e=>apply hx af U _ _ e s' I2 lZ
 |ok fl=>
  cases fl with
  |ret u=>
   let#[v,H',I3,rv,ev,q3]:=I2.after lZ;subst ev;apply#[rv,#[V.ref (s.heap.objs.size+1),H',I3,rfl,q3]]
  |next=>apply False.elim lZ
  |brk=>apply False.elim lZ
  |cont=>apply False.elim lZ
def WH(M:Mk X.K C f)(F:bS X.prog X.w X.K X.mg X.base CX k f fd ps sp cm)(hr:bR (k+1) X.A cm)(hg:Gl X x)(hm:X.mg x=some (.ref C))(hb:Binds X.K fd ps ds)(hd:aW eY ds)(hx:Passes CX X E)
  (ha:PA X (e::es) t) (gX:(x==("__debug__":Str))=false:=by decide) (he:starEach (e::es) X.env=(false,eval e X.env)::starEach es X.env:=by rfl) (hpl:(backTo pos (starEach es X.env)).any (·.1)=false:=by rfl) :
  PE X (.Call (.Name x p) (e::es) [] pos) (Jd C sp eY E t):=by
 intro af s U H Q I h;refine agO (sY I hg hm ?_ gX);refine PySem.W.callWith_K (h₀:=X.base) I.ok.mod.sM M.kp (ha.n I h λus s1 vs H1 I1 r q=>#[I1.dJ,?_]) he hpl;apply TM M F hr hb hd hx I1 r q
def aa9(M:Mk X.K C f)(F:bS X.prog X.w X.K X.mg X.base CX k f fd ps sp cm)(hr:bR (k+1) X.A cm)(hg:Gl X x)(hm:X.mg x=some (.ref C))(hb:Binds X.K fd ps ds)(hd:aW eY ds)(hx:Passes CX X E)
  (gX:(x==("__debug__":Str))=false:=by decide):PE X (.Call (.Name x p) [] [] pos) (Jd C sp eY E A6):=by
 intro af s U H Q I h;refine agO (sY I hg hm ?_ gX);apply PySem.W.callWith_K0 I.dJ M.kp (TM (us:=[]) M F hr hb hd hx I .nil h)
structure nC(N P:List Str)(sc:Scope):Prop where
 kind:sc.kind=.function
 co:sc.isCoroutine=false
 gen:sc.isGenerator=false
 nd:N.Nodup
 pre:N.take P.length=P
 par:∀x∈P,sc.names.lookup x=some .local\/sc.names.lookup x=some .cell
 air:∀y∈sc.names,y.2≠.free
theorem P5{kindOf:Str->Option NameKind}:∀{binds} {m},(∀v,(x,v)∉binds)->bindL kindOf binds m x=m x
 |[],_,_=>rfl
 |(n,v)::r,m,h=>by
  unfold bindL;rw[P5 λw hw=>h w (aaf _ hw)]
  split
  .have:x≠n:=by rintro rfl;apply h v aah
   simp[this]
  .rfl
theorem MU{kindOf:Str->Option NameKind}:∀{binds} {m},(∀v,(x,v)∉binds)->bindC kindOf binds m x=m x
 |[],_,_=>rfl
 |(n,v)::r,m,h=>by
  unfold bindC;rw[MU λw hw=>h w (aaf _ hw)]
  split
  .rfl
  .have:x≠n:=by rintro rfl;apply h v aah
   simp[this]
theorem Me{kindOf:Str->Option NameKind}:∀{P:List Str} {vs}{i:Nat} {m},P.Nodup->P[i]? = some x->vs[i]? = some v->kindOf x=some .local->
  bindL kindOf (P.zip vs) m x=some v
 |[],_,_,_,_,h,_,_=>by simp at h
 |_::_,[],_,_,_,_,h,_=>by simp at h
 |p::P,w::vs,0,m,nd,h1,h2,hk=>by
  simp at h1 h2;subst h1;subst h2;show bindL kindOf ((p,w)::P.zip vs) m p=_;unfold bindL;rw[P5 λv hv=>(abo.mp nd).1 (List.of_mem_zip hv).1,if_pos hk];simp
 |p::P,w::vs,i+1,m,nd,h1,h2,hk=>by
  unfold bindL;apply Me (abo.mp nd).2 (by simpa using h1) (by simpa using h2) hk
theorem SW{kindOf:Str->Option NameKind}:∀{P:List Str} {vs}{i:Nat} {m},P.Nodup->P[i]? = some x->vs[i]? = some v->kindOf x≠some .local->
  bindC kindOf (P.zip vs) m x=some v
 |[],_,_,_,_,h,_,_=>by simp at h
 |_::_,[],_,_,_,_,h,_=>by simp at h
 |p::P,w::vs,0,m,nd,h1,h2,hk=>by
  simp at h1 h2;subst h1;subst h2;show bindC kindOf ((p,w)::P.zip vs) m p=_;unfold bindC;rw[MU λv hv=>(abo.mp nd).1 (List.of_mem_zip hv).1,aa0 hk];simp
 |p::P,w::vs,i+1,m,nd,h1,h2,hk=>by
  unfold bindC;apply SW (abo.mp nd).2 (by simpa using h1) (by simpa using h2) hk
def start(N:List Str)(vs:List V):St:=vs.map some++List.replicate (N.length-vs.length) none
def ir(CX:qS)(P:Program)(w:World)(K:Fr)(mg:Str->Option Value)(base:Heap)(N:List Str)(qual:Str)(scope:Scope)(f:Addr)(cd:Value)(A:Around)(outer:List Env)(s:Shared)(H:Hp)(E:XK)(cm:Bool:=true):Cx where
 prog:=P
 w:=w
 K:=K
 mg:=mg
 base:=base
 A:=A.deeper (envOfC qual scope s.heap.objs.size f cd)
 N:=N
 dH:=s
 pG:=H
 env:=envOfC qual scope s.heap.objs.size f cd
 outer:=outer
 stack:=envOfC qual scope s.heap.objs.size f cd::outer
 ex:=[]
 calm:=cm
 fn:=λ_=>true
 pn:=[]
 xe:=λe s'=>wpAny (model P w) (A.deeper (envOfC qual scope s.heap.objs.size f cd)) (leaving (envOfC qual scope s.heap.objs.size f cd) e) (λ_ iD=>CX outer H s E e iD) (λe' iD=>CX outer H s E e' iD) s'
def O3{sc:Scope}(h:sc.names.lookup x=some .cell):∃c,(cellsFrom n sc.names []).lookup x=some c:=by
 have q:=PySem.W.cellsFrom_some sc.names n [] (.inl h);apply ahG.mp q
def age{w:World}{K:Fr}{mg:Str->Option Value}
  (S:nC N ps scope) (hd:cm=true->A.handled=none) (e0:uN P w K mg base A outer s H) (hl:vs.length=ps.length) (r:aW vs us)
  (x:InCallC s s.heap.objs.size (bindL (envOfC qual scope s.heap.objs.size f cd).kindOf (ps.zip us) λ_=>none) (cellsFrom (s.heap.objs.size+1) scope.names []) (bindC (envOfC qual scope s.heap.objs.size f cd).kindOf (ps.zip us) λ_=>none) s1) :
  Inv (ir CX P w K mg base N qual scope f cd A outer s H E cm) [] (start N vs) H s1:=by
 have hpl:ps.length<=N.length:=by have:=congrArg List.length S.pre;rw[aiX] at this;omega
 let#[h1,tk,rfl,hk]:=x.done;have uu:∀b:Addr,b∉(ir CX P w K mg base N qual scope f cd A outer s H E cm).ex:=λb z=>absurd (show b∈([]:List Addr) from z) (by simp)
 refine#[#[e0.mod,S.kind,rfl,rfl,abi _,λy z c h1 h2=>?_,λy hy=>?_,λy c _ h=>?_,hd,Around.frames_deeper e0.frames,.inr #[rfl,rfl],λb z=>absurd z (uu b),e0.bs,e0.jI,λb _ _=>uu b,λb z=>absurd z (uu b),e0.jG,e0.l_],
  rfl,e0.bare,Un.kept hk,#[_,x.toInCall.ns,λi y v h1 h2 h3=>?_],λy c h=>#[_,x.cell y c h],e0.aM.fresh (abi _),λy c h=>?_,λp hp=>absurd (show p∈([]:List (Addr×Obj)) from hp) (by simp),e0.aM.kept hk,?_,#[e0.hq.hd,e0.hq.ok,e0.hq.lm]]
 .exact name_of_addr x.apart (PySem.mem_of_lookup h1) (PySem.mem_of_lookup h2)
 .have hy:=hy;rcases hy with hy|hy
  .exact O3 hy
  .exact absurd rfl (S.air _ (PySem.mem_of_lookup hy))
 .exact agF (x.above y c (PySem.mem_of_lookup h))
 .have hi:i<vs.length:=by
   unfold start at h2
   by_cases hi:i<vs.length
   .exact hi
   .rw[aht (by simpa using hi)] at h2;rw[List.getElem?_replicate] at h2
    split at h2<;>ext h2
  have ha:vs[i]? = some v:=by
   unfold start at h2;rw[agY (by simpa using hi),abV] at h2;exists e,vs[i]?,a,h2;ext h2;rfl
  let#[u,hu,rv]:=r.get ha;have hp:ps[i]? = some y:=by
   rw[<- S.pre,List.getElem?_take_of_lt (by omega)];apply h1
  have O1:ps.Nodup:=by rw[<- S.pre];apply S.nd.sublist (List.take_sublist _ _)
  refine#[u,rv,?_];rcases S.par y (ah6 hp) with k|k
  .exact .inl #[k,Me O1 hp hu k]
  .let#[c,e]:=O3 k;refine .inr #[.inl k,c,e,?_];have q:=x.cell y c e;rw[SW O1 hp hu (by show scope.names.lookup y≠_;rw[k];decide)] at q;apply q
 .exact e0.aM.fresh (agF (x.above y c (PySem.mem_of_lookup h)))
 .unfold start;show _=N.length;rw[aaY,List.length_map,List.length_replicate];omega
def ND{K:Fr}{dV kV doc pm aZ ct oc:Value}
  (lk:K.lookup f=some #[oc,od,.func (PySem.W.fnOf name qual params body scope dV kV doc pm an aZ ct),sP]) (kR:PySem.W.codeIn K aZ qual=true) (S:nC N ps scope)
  (len:∀vs H Q E,sp vs H Q E->vs.length=ps.length)
  (yR:∀(A) (outer) (s) (H) (vs) (Q) (E),bR k (A.deeper (envOfC qual scope s.heap.objs.size f aZ)) cm->sp vs H Q E->
   ∃t,iX (ir CX P w K mg base N qual scope f aZ A outer s H E cm) body t/\t { nx:=λ_ H'=>Q .aJ H',rt:=Q } (start N vs) H) :
  bS P w K mg base CX (k+1) f (PySem.W.fnOf name qual params body scope dV kV doc pm an aZ ct) ps sp cm:=by
 refine#[len,λA outer s H args us vs Q E hr e0 hb r rq=>?_];have hl:=len _ _ _ _ rq;have KX:=e0.mod.sM.keeps λb o e=>(e0.bs b o e).1
 have lim:=e0.mod.nolimit.keeps λb o e=>(e0.bs b o e).1
 have Ys:∀y∈ps.zip us,scope.names.lookup y.1=some .local\/(scope.names.lookup y.1=some .cell/\((cellsFrom (s.heap.objs.size+1) scope.names []).lookup y.1).isSome=true):=λ⟨n,v⟩ hy=>by
  rcases S.par n (List.of_mem_zip hy).1 with q|q
  .exact .inl q
  .exact .inr #[q,PySem.W.cellsFrom_some _ _ _ (.inl q)]
 refine codeAny_call_function hr.depth (KX _ _ lk) rfl S.co S.gen rfl (PySem.W.codeRec_of KX kR) (hb _ _ _ _ ?_);refine wpAny_newFunctionEnv_cells S.kind Ys λenv he s1 x=>?_
 subst he;refine#[lim.keeps x.toInCall.keep,codeAny_func ?_];let#[t,ht,hq]:=yR A outer s H vs Q E (hr.deeper _) rq;have I:Inv (ir CX P w K mg base N qual scope f aZ A outer s H E cm) [] (start N vs) H s1:=age S hr.hd e0 hl r x;refine aeG (ht [] s1 (start N vs) H _ I hq) (λfl s' hs=>?_) λe s' hs=>hs
 have fin:∀{aG} {H'} {v} {u},Inv (ir CX P w K mg base N qual scope f aZ A outer s H E cm) [] aG H' s'->RelV v u->Q v H'->CE outer P w H s Q u s':=
  λ{aG H' v u} J rv q=>#[v,H',J.os,J.bare,J.base,J.aM,rv,q]
 cases fl with
 |ret u=>
  let#[v,aG,H',J,rv,q]:=hs;apply fin J rv q
 |next=>
  let#[aG,H',J,q]:=hs;apply fin (v:=V.aJ) (u:=Value.none) J rfl q
 |brk=>
  let#[_,_,_,q]:=hs;apply False.elim q
 |cont=>
  let#[_,_,_,q]:=hs;apply False.elim q
section
variable{id T:String}
def Fj(r:List V->Hp->VK->Prop)(t:TA):TE:=λU H Q=>t U H λvs H1=>r vs H1 Q
def sD(hc:ic X (.builtin id) r)(hg:Gl X x)(hm:X.mg x=none)(hv:bootBuiltins x=some (.builtin id))(ha:PA X (e::es) t)(hn:x≠"__name__":=by decide)(gX:(x==("__debug__":Str))=false:=by decide)
  (he:starEach (e::es) X.env=(false,eval e X.env)::starEach es X.env:=by rfl) (hpl:(backTo pos (starEach es X.env)).any (·.1)=false:=by rfl):PE X (.Call (.Name x p) (e::es) [] pos) (Fj r t):=by
 intro af s U H Q I h;refine agO (qw I hg hm hv ?_ hn gX);apply PyProof.Rows.callWith_builtin1 (ha.n I h λus s1 vs H1 I1 r1 q1=>hc af s1 U H1 vs us Q I1 r1 q1) he hpl
def yX(hc:ic X (.type T) r)(hg:Gl X x)(hm:X.mg x=none)(hv:bootBuiltins x=some (.type T))(ha:PA X (e::es) t)(hn:x≠"__name__":=by decide)(gX:(x==("__debug__":Str))=false:=by decide)
  (he:starEach (e::es) X.env=(false,eval e X.env)::starEach es X.env:=by rfl) (hpl:(backTo pos (starEach es X.env)).any (·.1)=false:=by rfl):PE X (.Call (.Name x p) (e::es) [] pos) (Fj r t):=by
 intro af s U H Q I h;refine agO (qw I hg hm hv ?_ hn gX);apply ahp (ha.n I h λus s1 vs H1 I1 r1 q1=>hc af s1 U H1 vs us Q I1 r1 q1) he hpl
end
end L2
namespace HT
open PySem PyProof.Rows
def gA(n d:Nat):Option Int->Nat
 |none=>d
 |some v=>if v<0 then(v+(n:Int)).toNat else min v.toNat n
def GJ(n d:Nat):gA n d none=d:=rfl
def Gb(n d k:Nat):gA n d (some (k:Int))=min k n:=by
 show(if(k:Int)<0 then((k:Int)+(n:Int)).toNat else min (k:Int).toNat n)=min k n;rw[aa0 (by omega),Int.toNat_natCast]
end HT
namespace L2
open PySem PySem.Spec PyProof.Rows
abbrev TO:=St->Hp->(Option Int->Hp->Prop)->Prop
def PO(X:Cx)(e:Option Expr)(t:TO):Prop:=
 ∀(af) (s) (U) (H) (Q),Inv X af U H s->t U H Q->
  wpAny (model X.prog X.w) X.A (evalPart e X.env) (λu s'=>∃o H',Inv X af U H' s'/\IsPart u o/\Q o H') X.xe s
def ac8:TO:=λ_ H Q=>Q none H
def agd(t:TE):TO:=λU H Q=>t U H λx H1=>∃i,x=.int i/\Q (some i) H1
def intsAre_of:∀{us},aW (ns.map V.int) us->IntsAre us ns:=by
 induction ns with
 |nil=>intro us r;rw[ajS] at r;ext r;apply .nil
 |cons n ns ih=>
  intro us r;rw[aar] at r;cases r with
  |cons r1 r2=>
   let#[t,e]:=r1;subst e;apply .cons n t (ih r2)
section
variable{lo hi:Option Expr}
def E8:PO X none ac8:=by
 intro af s U H Q I h;rw[evalPart_none];apply acp #[none,H,I,.none,h]
def Kv(h:PE X e te):PO X (some e) (agd te):=by
 intro af s U H Q I hw;rw[evalPart_some];refine h.n I hw λu s1 x H1 I1 r1 q1=>?_
 let#[i,rfl,q]:=q1;let#[t,rfl]:=r1;apply#[some i,H1,I1,.int i t,q]
def QJ(X:Cx)(r:V->Option Int->Option Int->Hp->VK->Prop):Prop:=
 ∀(af) (s) (U) (H) (x) (v vl vu) (lo hi) (sl) (Q),Inv X af U H s->RelV x v->s.heap.IsSliceOf sl vl vu .none->IsPart vl lo->IsPart vu hi->r x lo hi H Q->
  ∃T id,typeLookup (.type T) "__getitem__"=pure (some (.builtin id))/\s.TypeIs v T/\wpAny (model X.prog X.w) X.A (getItem v (.ref sl)) (EP X af U Q) X.xe s
def tSl(r:V->Option Int->Option Int->Hp->VK->Prop)(te:TE)(tl th:TO):TE:=λU H Q=>te U H λx H1=>tl U H1 λl H2=>th U H2 λu H3=>r x l u H3 Q
def Jj(hr:QJ X r)(he:PE X e te)(hl:PO X lo tl)(hu:PO X hi th):PE X (.Subscript e (.Slice lo hi none p2) pos) (tSl r te tl th):=by
 intro af s U H Q I h;refine Subscript_ (he.n I h λv s1 x H1 I1 r1 q1=>?_);refine wpAny_Slice (cX (hl af s1 U H1 _ I1 q1) ?_)
 rintro vl s2 ⟨l,H2,I2,pl,q2⟩
 refine cX (hu af s2 U H2 _ I2 q2) ?_
 rintro vu s3 ⟨u,H3,I3,pu,q3⟩
 rw[evalPart_none];refine acp ?_;have I4:Inv X af U H3 { s3 with heap:=s3.heap.push { cls:=.type "slice",data:=.fields ([vl,vu,.none].toArray) } }:=I3.kept (t':=s3.toks) λb ob q=>aaq _ q
 let#[T,id,hT,ht,hg]:=hr af { s3 with heap:=s3.heap.push { cls:=.type "slice",data:=.fields ([vl,vu,.none].toArray) } } U H3 x v vl vu l u s3.heap.objs.size Q I4 r1 (Heap.IsSliceOf.new ..) pl pu q3;show wpAny (model X.prog X.w) X.A (subscriptTail e (.Slice lo hi none p2) v (.ref s3.heap.objs.size)) (EP X af U Q) X.xe { s3 with heap:=s3.heap.push { cls:=.type "slice",data:=.fields ([vl,vu,.none].toArray) } };apply tail_any (ops:=[.ref s3.heap.objs.size,v]) ht hT hg (by with_unfolding_all rfl)
def lF(xs:List V)(lo hi:Option Int):List V:=(xs.drop (HT.gA xs.length 0 lo)).take (HT.gA xs.length xs.length hi-HT.gA xs.length 0 lo)
def aci(xs:List V)(lo hi:Option Int):(lF xs lo hi).length<=xs.length:=by
 unfold lF;rw[aiX,List.length_drop];omega
end
def lB(n:Nat)(i:Int):Option Nat:=if 0<=i then(if i<n then some i.toNat else none) else if -(n:Int)<=i then some (i+n).toNat else none
def fC{α:Type}(xs:List α)(i:Int):Option α:=(lB xs.length i).bind λj=>xs[j]?
def ai9(h:lB n i=some j):seqIndex? i n=some j/\j<n/\-(n:Int)<=i/\i<n:=by
 unfold lB at h
 by_cases h0:0<=i
 .rw[if_pos h0] at h;let#[h1,h]:=ci h;have e:=abH h;apply#[by rw[seqIndex_of h0 h1,e],by omega,by omega,h1]
 .rw[aa0 h0] at h;let#[h1,h]:=ci h;have e:=abH h;apply#[by rw[seqIndex_neg (by omega) h1,e],by omega,h1,by omega]
def Gu(h:fC xs i=some v):∃j,seqIndex? i xs.length=some j/\xs[j]? = some v/\j<xs.length/\-(xs.length:Int)<=i/\i<xs.length:=by
 unfold fC at h;exists e,lB xs.length i,j,h;let#[h1,h2,h3,h4]:=ai9 e;apply#[j,h1,h,h2,h3,h4]
def HY(b:Expr):Prop:=∀o i,subscripted b false o i=operate [o,i] (getItem o i)
def pV(X:Cx)(r:R2):Prop:=
 ∀(value slice) (af) (s) (U) (H) (x y) (v u) (Q),Inv X af U H s->RelV x v->RelV y u->r x y H Q->
  subscripted slice false v u=operate [v,u] (getItem v u)->wpAny (model X.prog X.w) X.A (subscriptTail value slice v u) (EP X af U Q) X.xe s
def Js(X:Cx)(id:String)(r:V->List V->Hp->VK->Prop):Prop:=
 ∀(af) (s) (U) (H) (x) (xs) (v) (us) (Q),Inv X af U H s->RelV x v->aW xs us->r x xs H Q->
  wpAny (model X.prog X.w) X.A (call (.builtin id) (v::us)) (EP X af U Q) X.xe s
section
def pV.or(h:pV X r)(h':pV X r'):pV X (λx y H Q=>r x y H Q\/r' x y H Q):=by
 intro value slice af s U H x y v u Q I rx ry q hs;rcases q with q|q
 .exact h value slice af s U H x y v u Q I rx ry q hs
 .exact h' value slice af s U H x y v u Q I rx ry q hs
def C6(hr:pV X r)(ha:PE X a ta)(hb:PE X b tb)(hs:HY b):PE X (.Subscript a b pos) (r_ r ta tb):=by
 intro af s U H Q I h;apply Subscript_ (Gh ha hb I h λv u s2 x y H2 I2 rx ry q=>hr a b af s2 U H2 x y v u Q I2 rx ry q (hs _ _))
def Lh(K:Fr):R2:=λx y H Q=>∃p xs i v,x=.ref p/\y=.int i/\cH K H p xs/\fC xs i=some v/\Q v H
def C7(K:Fr):R2:=λx y H Q=>∃p xs i v,x=.ref p/\y=.int i/\cO K H p xs/\fC xs i=some v/\Q v H
def Ez:R2:=λx y H Q=>∃z i c,x=.str z/\y=.int i/\z.length<=sizeLine/\fC z.cps.toList i=some c/\Q (.str #[([c].toArray)]) H
def acz:pV X (Lh X.K):=by
 intro value slice af s U H x y v u Q I rx ry h hs;let#[p,xs,i,z,rfl,rfl,hq,he,q]:=h;ext rx;let#[t,rfl]:=ry;let#[ay,r,pl,hz]:=I.list hq;let#[j,h1,h2,h3,h4,h5]:=Gu he;let#[w,ew,fH]:=r.get h2;have hl:=r.length;have hn:=Aa;have fin:EP X af U Q w s:=#[z,H,I,fH,q]
 by_cases h0:0<=i
 .have hj:i.toNat=j:=by
   rw[seqIndex_of h0 h5] at h1;apply abH h1
  apply item_listR pl.isList h0 (by omega) (by rw[hj];simpa using ew) fin hs
 .have hj:(i+(ay.toArray.size:Int)).toNat=j:=by
   rw[seqIndex_neg (by omega) h4] at h1;rw[abF,<- hl];apply abH h1
  apply subscriptTail_builtinR pl.isList.typeIs slot_list_getitem.lookup
   (wpAny_getItem_list_neg pl.isList (by omega) (by rw[abF]<;>omega) (by omega) (by rw[hj];simpa using ew) #[rfl,fin]) hs
def Jo:pV X (C7 X.K):=by
 intro value slice af s U H x y v u Q I rx ry h hs;let#[p,xs,i,z,rfl,rfl,hq,he,q]:=h;ext rx;let#[t,rfl]:=ry;let#[ay,r,pl,hz]:=I.tuple hq;let#[j,h1,h2,h3,h4,h5]:=Gu he;let#[w,ew,fH]:=r.get h2;have hl:=r.length;have hn:=Aa;have fin:EP X af U Q w s:=#[z,H,I,fH,q]
 apply subscriptTail_builtinR pl.typeIs slot_tuple_getitem.lookup
  (getItem_tuple pl (by omega) (by omega) (by rw[abF,<- hl];apply h1) (by simpa using ew) #[rfl,fin]) hs
def Wa:pV X Ez:=by
 intro value slice af s U H x y v u Q I rx ry h hs;let#[z,i,c,rfl,rfl,hz,he,q]:=h;let#[t,rfl]:=rx;let#[t',rfl]:=ry;let#[j,h1,h2,h3,h4,h5]:=Gu he;have hl:z.cps.toList.length=z.length:=by simp[Str.length]
 rw[hl] at h1 h4 h5;have hn:=Aa;apply tail_any (typeIs_str s z t) slot_str_getitem.lookup (getItem_str (by
  have e1:decide (i < -(2 ^ 63:Int))=false:=aaR (by omega);have e2:decide (i >= 2 ^ 63)=false:=aaR (by omega);rw[e1,e2,Bool.or_false]) (by rw[h1];simpa using h2) #[.str #[([c].toArray)],H,I.tok _,#[_,rfl],q]) hs
def Wd(K:Fr):R2:=λx y H Q=>Lh K x y H Q\/C7 K x y H Q\/Ez x y H Q
def OG:pV X (Wd X.K):=acz.or (Jo.or Wa)
def WA(lo hi:Option Int)(n:Nat):(sliceBounds lo hi none n).1=((HT.gA n 0 lo:Nat):Int)/\(sliceBounds lo hi none n).2.1=((HT.gA n n hi:Nat):Int)/\(sliceBounds lo hi none n).2.2=1:=by
 refine#[?_,?_,rfl]
 .cases lo with
  |none=>simp[sliceBounds,HT.gA]
  |some i=>
   simp only[sliceBounds,HT.gA,Option.getD_none,show(1:Int) > 0 by decide,if_true]
   by_cases h:i<0
   .simp only[h,if_true]<;>omega
   .simp only[h,if_false]<;>omega
 .cases hi with
  |none=>simp[sliceBounds,HT.gA]
  |some i=>
   simp only[sliceBounds,HT.gA,Option.getD_none,show(1:Int) > 0 by decide,if_true]
   by_cases h:i<0
   .simp only[h,if_true]<;>omega
   .simp only[h,if_false]<;>omega
def ZW(ay:List Value)(lo hi:Option Int):slicePick ay.toArray lo hi none=((ay.drop (HT.gA ay.length 0 lo)).take (HT.gA ay.length ay.length hi-HT.gA ay.length 0 lo)).toArray:=by
 let#[h1,h2,h3]:=WA lo hi ay.toArray.size;unfold slicePick;rw[h1,h2,h3];simp only[sliceRange_one,pick_run,abF]<;>rfl
def Uy(K:Fr):V->Option Int->Option Int->Hp->VK->Prop:=λx lo hi H Q=>∃a xs,x=.ref a/\cH K H a xs/\∀p,H p=none->Q (.ref p) (upd H p (.lst (lF xs lo hi)))
def Mc:QJ X (Uy X.K):=by
 intro af s U H x v vl vu lo hi sl Q I rx hs pl pu h;let#[a,xs,rfl,hx,q]:=h;ext rx;let#[ay,r,ht,hz]:=I.list hx;have hlen:=r.length;refine#["list",_,slot_list_getitem.lookup,ht.isList.typeIs,?_];refine wpAny_getItem_list_slice ht.isList hs pl pu .none (by simp) ?_ (by rw[abF]<;>omega);rw[ZW,<- hlen];refine#[.ref s.heap.objs.size,_,I.laid (λb ob q=>aaq _ q) (abi _) ?_,rfl,q _ (I.aM.fresh (abi _))];apply#[aeC (aci xs lo hi) hz,_,0,(r.drop (HT.gA xs.length 0 lo)).take (HT.gA xs.length xs.length hi-HT.gA xs.length 0 lo),abp _ rfl]
def oE:V->Bool
 |.aJ=>true
 |.bl _=>true
 |.int _=>true
 |.str _=>true
 |_=>false
def rK:V->V->Bool
 |.aJ,.aJ=>true
 |.bl a,.bl b=>a==b
 |.bl a,.int b=>(if a then 1 else 0)==b
 |.int a,.bl b=>a==(if b then 1 else 0)
 |.int a,.int b=>a==b
 |.str a,.str b=>a==b
 |_,_=>false
def ab7(ry:RelV y u)(rx:RelV x v)(fy:oE y=true)(fx:oE x=true):SeqAt.EqAt A s u v (rK y x):=by
 cases y with
 |aJ=>
  ext ry;cases x with
  |aJ=>ext rx;apply SeqAt.EqAt.same _
  |bl b=>ext rx;apply SeqAt.EqAt.none_bool b
  |int b=>let#[t,rfl]:=rx;apply SeqAt.EqAt.none_int b t
  |str b=>let#[t,rfl]:=rx;apply SeqAt.EqAt.none_str b t
  |_=>apply absurd (show false=true from fx) aaH
 |bl a=>
  ext ry;cases x with
  |aJ=>ext rx;apply SeqAt.EqAt.bool_none a
  |bl b=>ext rx;apply SeqAt.EqAt.bool_bool a b
  |int b=>let#[t,rfl]:=rx;apply SeqAt.EqAt.bool_int a b t
  |str b=>let#[t,rfl]:=rx;apply SeqAt.EqAt.bool_str a b t
  |_=>apply absurd (show false=true from fx) aaH
 |int a=>
  let#[t',rfl]:=ry;cases x with
  |aJ=>ext rx;apply SeqAt.EqAt.int_none a t'
  |bl b=>ext rx;apply SeqAt.EqAt.int_bool a t' b
  |int b=>let#[t,rfl]:=rx;apply SeqAt.EqAt.int_int a t' b t
  |str b=>let#[t,rfl]:=rx;apply SeqAt.EqAt.int_str a t' b t
  |_=>apply absurd (show false=true from fx) aaH
 |str a=>
  let#[t',rfl]:=ry;cases x with
  |aJ=>ext rx;apply SeqAt.EqAt.str_none a t'
  |bl b=>ext rx;apply SeqAt.EqAt.str_bool a t' b
  |int b=>let#[t,rfl]:=rx;apply SeqAt.EqAt.str_int a t' b t
  |str b=>let#[t,rfl]:=rx;apply SeqAt.EqAt.str_str a t' b t
  |_=>apply absurd (show false=true from fx) aaH
 |_=>apply absurd (show false=true from fy) aaH
def jk(x:V)(u:Value):Bool:=match u with
 |.none=>rK .aJ x
 |.bool b=>rK (.bl b) x
 |.int i _=>rK (.int i) x
 |.str z _=>rK (.str z) x
 |_=>false
def Mf(r:RelV y u)(f:oE y=true):jk x u=rK y x:=by
 cases y with
 |aJ=>ext r;rfl
 |bl b=>ext r;rfl
 |int i=>let#[t,rfl]:=r;rfl
 |str z=>let#[t,rfl]:=r;rfl
 |_=>apply absurd (show false=true from f) aaH
theorem yr:∀{xs} {us},aW xs us->xs.all oE=true->us.any (jk x)=xs.any λy=>rK y x
 |_,_,.nil,_=>rfl
 |y::xs,u::us,.cons r t,f=>by
  rw[ajN,aav] at f;rw[ajj,ajj,Mf r f.1,yr t f.2]
theorem vY(rx:RelV x v)(fx:oE x=true):∀{xs} {us},aW xs us->xs.all oE=true->∀u∈us,SeqAt.EqAt A s u v (jk x u)
 |_,_,.nil,_=>λu hu=>by ext hu
 |y::xs,u::us,.cons r t,f=>λu' hu=>by
  rw[ajN,aav] at f;rcases aaA.mp hu with rfl|hu
  .rw[Mf r f.1];apply ab7 r rx f.1 fx
  .exact vY rx fx t f.2 u' hu
def vO(x:V)(xs:List V):Bool:=xs.any λy=>rK y x
def Dk(K:Fr)(neg:Bool):R2:=λx y H Q=>∃p xs,y=.ref p/\(cH K H p xs\/cO K H p xs)/\oE x=true/\xs.all oE=true/\Q (.bl (if neg then !vO x xs else vO x xs)) H
def Uu:eB X (compareOp .In) (Dk X.K false):=by
 intro af s U H x y v u Q I rx ry h;let#[p,xs,rfl,hq,fx,fs,q]:=h;ext ry;rcases hq with hq|hq
 .let#[ay,r,pl,hz]:=I.list hq;refine SeqAt.in_listAt (jk x) pl.isList (λw hw=>vY rx fx r fs w (by simpa using hw)) #[.bl _,H,I,rfl,?_];rw[show ay.toArray.any (jk x)=ay.any (jk x) by simp,yr r fs];apply q
 .let#[ay,r,pl,hz]:=I.tuple hq;refine SeqAt.in_tupleAt (jk x) pl (λw hw=>vY rx fx r fs w (by simpa using hw)) #[.bl _,H,I,rfl,?_];rw[show ay.toArray.any (jk x)=ay.any (jk x) by simp,yr r fs];apply q
def JC:eB X (compareOp .NotIn) (Dk X.K true):=by
 intro af s U H x y v u Q I rx ry h;let#[p,xs,rfl,hq,fx,fs,q]:=h;ext ry;rcases hq with hq|hq
 .let#[ay,r,pl,hz]:=I.list hq;refine SeqAt.notIn_listAt (jk x) pl.isList (λw hw=>vY rx fx r fs w (by simpa using hw)) #[.bl _,H,I,rfl,?_];rw[show ay.toArray.any (jk x)=ay.any (jk x) by simp,yr r fs];apply q
 .let#[ay,r,pl,hz]:=I.tuple hq;refine SeqAt.notIn_tupleAt (jk x) pl (λw hw=>vY rx fx r fs w (by simpa using hw)) #[.bl _,H,I,rfl,?_];rw[show ay.toArray.any (jk x)=ay.any (jk x) by simp,yr r fs];apply q
def adX:ic X (.builtin "len") (λxs H Q=>∃p ys,xs=[.ref p]/\(cH X.K H p ys\/cO X.K H p ys)/\Q (.int ys.length) H):=by
 intro af s U H xs us Q I r h;let#[p,ys,rfl,hq,q]:=h;let#[u,rfl,rx]:=vals1 r;ext rx;have hn:=Aa;rcases hq with hq|hq
 .let#[ay,r',pl,hz]:=I.list hq;have hlen:=r'.length;apply Calls.call_len_list pl.isList (by simp only[abF]<;>omega) #[.int ys.length,H,I.tok _,#[s.toks+1,by rw[abF,hlen]],q]
 .let#[ay,r',pl,hz]:=I.tuple hq;have hlen:=r'.length;apply len_tuple pl (by simp only[abF]<;>omega) #[.int ys.length,H,I.tok _,#[s.toks+1,by rw[abF,hlen]],q]
def Nd:ic X (.type "list") (λxs H Q=>∃p ys,xs=[.ref p]/\(cH X.K H p ys\/cO X.K H p ys)/\∀l,H l=none->Q (.ref l) (upd H l (.lst ys))):=by
 intro af s U H xs us Q I r h;let#[p,ys,rfl,hq,q]:=h;let#[u,rfl,rx]:=vals1 r;ext rx;have fin:∀(ay),aW ys ay->ys.length<=sizeLine->∀(h') (c'),(∀b o',s.heap.get? b=some o'->h'.get? b=some o')->
   h'.get? s.heap.objs.size=some { cls:=.type "list",dict:=none,data:=.seq ay.toArray c',slots:=([].toArray) }->EP X af U Q (.ref s.heap.objs.size) { s with heap:=h' }:=λay r' hz h' c' kp e=>
  #[.ref s.heap.objs.size,_,I.laid kp (abi _) (show dZ X.prog X.w _ h' _ (.lst ys) from#[hz,ay,c',r',e]),rfl,q _ (I.aM.fresh (abi _))]
 rcases hq with hq|hq
 .let#[ay,r',pl,hz]:=I.list hq;have hlen:=r'.length;let#[o,ho,hc,n,hd]:=pl.isList;apply call_list_seq p (.inl rfl) ho hc hd (λh' c' kp e=>fin ay r' hz h' c' kp e) (by simp only[abF]<;>omega)
 .let#[ay,r',pl,hz]:=I.tuple hq;have hlen:=r'.length;let#[o,ho,hc,n,hd]:=pl;apply call_list_seq p (.inr rfl) ho hc hd (λh' c' kp e=>fin ay r' hz h' c' kp e) (by simp only[abF]<;>omega)
def afw:ic X (.type "tuple") (λxs H Q=>∃p ys,xs=[.ref p]/\((cH X.K H p ys/\∀l,H l=none->Q (.ref l) (upd H l (.tup ys)))\/(cO X.K H p ys/\Q (.ref p) H))):=by
 intro af s U H xs us Q I r h;let#[p,ys,rfl,h]:=h;let#[u,rfl,rx]:=vals1 r;ext rx;rcases h with⟨hq,q⟩|⟨hq,q⟩
 .let#[ay,r',pl,hz]:=I.list hq;have hlen:=r'.length;refine call_tuple_list pl.isList (λh' kp=>?_) (by simp only[abF]<;>omega);have I1:=I.kept (t':=s.toks) kp;have I2:Inv X af U (upd H h'.objs.size (.tup ys)) { s with heap:=h'.push { cls:=.type "tuple",data:=.seq ay.toArray } }:=
   I1.laid (λb o e=>aaq _ e) (abi _) (show dZ X.prog X.w _ _ _ (.tup ys) from#[hz,ay,r',l9.new _ _])
  apply#[.ref h'.objs.size,_,I2,rfl,q _ (I1.aM.fresh (abi _))]
 .let#[ay,r',pl,hz]:=I.tuple hq;apply call_tuple_same pl #[.ref p,H,I,rfl,q]
def Pw(K:Fr)(T:String)(x:V)(H:Hp):Prop:=match x with
 |.str _=>T="str"
 |.int _=>T="int"
 |.ref p=>(T="list"/\∃xs,cH K H p xs)\/(T="tuple"/\∃o,K.lookup p=some o/\o.cls=.type "tuple"/\o.dict=none)\/
   (T="dict"/\((∃ao,H p=some (.dK ao))\/∃ao,H p=some (.dT ao)))\/(T="set"/\∃S n,H p=some (.set S n))
 |_=>False
def ac7(I:Inv X af U H s)(r:RelV x v)(ty:Pw X.K T x H):
  s.TypeIs v T/\∀a,v=.ref a->∃ob,s.heap.get? a=some ob/\ob.dict=none:=by
 cases x with
 |str z=>
  let#[t,rfl]:=r;cases(show T="str" from ty);apply#[typeIs_str s z t,λ_ e=>nomatch e]
 |int i=>
  let#[t,rfl]:=r;cases(show T="int" from ty);apply#[typeIs_int s i t,λ_ e=>nomatch e]
 |ref p=>
  ext r;rcases ty with⟨rfl,xs,hq⟩|⟨rfl,o,hk,hc,hd⟩|⟨rfl,hk⟩|⟨rfl,S,n,hk⟩
  .let#[ay,_,pl,_]:=I.list hq;refine#[pl.isList.typeIs,λa e=>?_];ext e;let#[o,n,e,c,hd,_]:=pl;apply#[o,e,hd]
  .refine#[#[o,I.dJ p o hk,hc],λa e=>?_];ext e;apply#[o,I.dJ _ o hk,hd]
  .have z:∃o,s.heap.get? p=some o/\o.ExactDict:=by
    rcases hk with⟨ao,hk⟩|⟨ao,hk⟩
    .let#[_,_,_,_,o,_,_,e,ex,_]:=I.aM p _ hk;apply#[o,e,ex]
    .let#[_,_,_,_,o,_,_,e,ex,_]:=I.aM p _ hk;apply#[o,e,ex]
   let#[o,e,ex]:=z;refine#[#[o,e,ex.1],λa e2=>?_];ext e2;apply#[o,e,ex.2.1]
  .let#[o,_,_,_,e,ex,_]:=I.aM p _ hk;refine#[#[o,e,ex.1],λa e2=>?_];ext e2;apply#[o,e,ex.2.1]
 |_=>apply False.elim ty
def ZZ(K:Fr)(T:String)(r:V->List V->Hp->VK->Prop)(to:TE)(t:TA):TE:=λU H Q=>to U H λx H1=>Pw K T x H1/\t U H1 λxs H2=>r x xs H2 Q
variable{T id:String}
def um(pa:PlainAttrs T)(slot:Slot T name id)(L6:typeOf (.builtin id)=pure (.type "method_descriptor"))(hm:Js X id r)(ho:PE X o to)(ha:PA X (e::es) t)
  (jN:attributeBase o name X.env (eval o X.env)=eval o X.env:=by rfl)
  (jM:((backTo gG (starEach (e::es) X.env)).all (λx=>!x.1)&&(backToKw gG (keywordEach [] X.env)).all (λx=>x.1.isSome)
   && decide ((e::es).length+([]:List Keyword).length+(if([]:List Keyword).isEmpty then 0 else 1)<30))=true:=by rfl)
  (jR:(apos.endLine==gG.line)=true:=by rfl) (hs:starEach (e::es) X.env=(false,eval e X.env)::starEach es X.env:=by rfl) (afL:(backTo gG (starEach es X.env)).any (·.1)=false:=by rfl) :
  PE X (.Call (.Attribute o name apos) (e::es) [] gG) (ZZ X.K T r to t):=by
 intro af s U H Q I h;refine wpAny_Call_method_late jN jM jR rfl (ho.n I h λv s1 x H1 I1 r1 q=>?_);let#[ty,q1]:=q;let#[h1,h2]:=ac7 I1 r1 ty;refine#[T,id,pa,slot,L6,h1,h2,?_];have hA:=ha gG af s1 U H1 _ I1 q1;rw[hs] at hA ⊢;refine Calls.callWith_builtin (by show(false||(backTo gG (starEach es X.env)).any (·.1))=false;rw[afL]<;>rfl) (Calls.evalArgs_plain ?_);refine cX hA ?_
 rintro us s2 ⟨vs,H2,I2,r2,q2⟩
 apply hm af s2 U H2 x vs v us Q I2 r1 r2 q2
end
def LK(X:Cx)(id:String)(r:V->List V->Hp->VK->Prop):Prop:=
 ∀(af) (s) (U) (H) (x) (xs) (v) (us) (Q),Inv X af U H s->RelV x v->aW xs us->r x xs H Q->
  wpAny (model X.prog X.w) X.A (call (.builtin id) (v::us)) (EP X af U Q) X.xe s
def aW.one(h:aW [x] us):∃u,us=[u]/\RelV x u:=by
 rcases h with _|⟨r,_|_⟩
 apply#[_,rfl,r]
def aW.eraseIdx:∀{xs} {us} (i),aW xs us->aW (xs.eraseIdx i) (us.eraseIdx i)
 |_,_,_,.nil=>.nil
 |_,_,0,.cons _ t=>t
 |_,_,i+1,.cons r t=>.cons r (aW.eraseIdx i t)
def Inv.Ly{ay its':List Value}(I:Inv X af U H s)(hH:H l=some (.lst xs))
  (e:s.heap.get? l=some { cls:=.type "list",data:=.seq ay.toArray n }) (hf:f ay.toArray=its'.toArray) (hv:aW ys its') (hz:ys.length<=sizeLine) :
  Inv X af U (upd H l (.lst ys)) { s with heap:=s.heap.update l (Obj.mapSeq f),toks:=t' }:=by
 have q:=PySem.IsL.update e f;rw[hf] at q;refine I.write (by rw[hH];apply trivial) (.inl rfl) (λb' u hb hu=>(ae6 s.heap (Obj.mapSeq f) (ahc hb)).trans hu) #[_,q] ?_;apply#[hz,its',_,hv,q]
def Inv.Zr(I:Inv X af U H s)(hv:aW ys ay)(hz:ys.length<=sizeLine):
  Inv X af U (upd H s.heap.objs.size (.lst ys)) { s with heap:=s.heap.push { cls:=.type "list",data:=.seq ay.toArray },toks:=t' }:=
 I.laid (λ_ _ q=>aaq _ q) (abi _) #[hz,ay,0,hv,abp _ rfl]
def Inv.fresh(I:Inv X af U H s):H s.heap.objs.size=none:=I.aM.fresh (abi _)
def Inv.wU(I:Inv X af U H s)(hH:H l=some (.lst xs)):xs.length<=sizeLine/\∃(ay:List Value) (n:Nat),aW xs ay/\xs.length=ay.length/\s.heap.get? l=some { cls:=.type "list",data:=.seq ay.toArray n }:=by
 let#[z,ay,n,r,e]:=I.aM l _ hH;apply#[z,ay,n,r,r.length,e]
def aaM(h:n<=sizeLine):Builtin.List.listTooLong n=false:=by
 unfold Builtin.List.listTooLong;apply aaR (by omega)
def WK:V->List V->Hp->VK->Prop:=λx vs H Q=>∃l xs y,x=.ref l/\vs=[y]/\H l=some (.lst xs)/\xs.length<sizeLine/\Q .aJ (upd H l (.lst (xs++[y])))
def BR:LK X "list.append" WK:=by
 intro af s U H x vs v us Q I rx rv h;let#[l,xs,y,rfl,rfl,hH,hz,q]:=h;ext rx;let#[u,rfl,ru]:=rv.one;let#[z,ay,n,r,hl,e]:=I.wU hH;refine call_meets F.slot_list_append #[_,e,rfl] F.entry_list_append (F.args_list_append_2 _ _) (PySem.list_append l ay.toArray n u (by rw[abF];omega)) #[e,?_];refine#[.aJ,_,I.Ly (its':=ay++[u]) hH e (by simp) (r.append (.cons ru .nil)) ?_,rfl,q];rw[aaY,aeS];omega
def Yp:V->List V->Hp->VK->Prop:=λx vs H Q=>∃l b xs zs,x=.ref l/\vs=[.ref b]/\H l=some (.lst xs)/\H b=some (.lst zs)/\xs.length+zs.length<=sizeLine/\Q .aJ (upd H l (.lst (xs++zs)))
def ahO:LK X "list.extend" Yp:=by
 intro af s U H x vs v us Q I rx rv h;let#[l,b,xs,zs,rfl,rfl,hH,hB,hz,q]:=h;ext rx;let#[u,rfl,ru]:=rv.one;ext ru;let#[z,ay,n,r,hl,e]:=I.wU hH;let#[z2,uz,n2,r2,mQ,e2]:=I.wU hB;have hsz:ay.toArray.size+uz.toArray.size<=sizeLine:=by rw[abF,abF];omega
 have aiL:¬(!ay.toArray.isEmpty&&Builtin.List.listTooLong (ay.toArray.size+uz.toArray.size))=true:=by
  rw[aaM hsz,Bool.and_false];apply aaH
 refine call_meets F.slot_list_extend #[_,e,rfl] F.entry_list_extend (F.args_list_extend_2 _ _)
  (AutoSeq1.list_extend_list_list_0 l ay.toArray n b uz.toArray n2 aiL (by rw[abF];omega) (by omega)) #[e,e2,?_]
 refine#[.aJ,_,I.Ly (its':=ay++uz) hH e (by simp) (r.append r2) ?_,rfl,q];rw[aaY];omega
def aaQ:R2:=λx y H Q=>∃l b xs zs,x=.ref l/\y=.ref b/\H l=some (.lst xs)/\H b=some (.lst zs)/\xs.length+zs.length<=sizeLine/\∀p,H p=none->Q (.ref p) (upd H p (.lst (xs++zs)))
def Xg:eB X (binaryOp .Add) aaQ:=by
 intro af s U H x y v u Q I rx ry h;let#[l,b,xs,zs,rfl,rfl,hH,hB,hz,q]:=h;ext rx;ext ry;let#[z,ay,n,r,hl,e]:=I.wU hH;let#[z2,uz,n2,r2,mQ,e2]:=I.wU hB;refine PySem.P.add_list e e2 ?_ (by rw[abF,abF];omega);have ea:ay.toArray++uz.toArray=(ay++uz).toArray:=by simp
 rw[ea];apply#[.ref _,_,I.Zr (r.append r2) (by rw[aaY];omega),rfl,q _ I.fresh]
section
variable[DecidableEq κ]
def fM(ao:List (κ×V))(k:κ):Option V:=(ao.find? λkv=>decide (kv.1=k)).map (·.2)
def putK(ao:List (κ×V))(k:κ)(v:V):List (κ×V):=
 if(ao.any λkv=>decide (kv.1=k))=true then ao.map (λkv=>if kv.1=k then(kv.1,v) else kv) else ao++[(k,v)]
def yM{k:κ}(e:p.1=k):fM (p::r) k=some p.2:=by simp[fM,adQ,e]
def zQ{k:κ}(e:¬p.1=k):fM (p::r) k=fM r k:=by simp[fM,adQ,e]
theorem J7(k:κ):∀ao:List (κ×V),(ao.any λkv=>decide (kv.1=k))=(fM ao k).isSome
 |[]=>rfl
 |p::r=>by
  rw[ajj]
  by_cases e:p.1=k
  .simp only[yM e,aas e,Bool.true_or,Option.isSome_some]
  .rw[zQ e,aaR e,Bool.false_or];apply J7 k r
def F3(ao:List (κ×V))(k:κ)(v:V):(putK ao k v).length<=ao.length+1:=by
 unfold putK
 split
 .rw[List.length_map];omega
 .rw[aaY,abZ,List.length_nil];omega
def iK.vz(r:iK o u):o.isSome=u.isSome:=by
 cases o with
 |none=>cases u with
  |none=>rfl
  |some _=>apply(show False from r).elim
 |some _=>cases u with
  |none=>apply(show False from r).elim
  |some _=>rfl
def iK.getD(r:iK o u)(rd:RelV d d'):RelV (o.getD d) (u.getD d'):=by
 cases o with
 |none=>cases u with
  |none=>apply rd
  |some _=>apply(show False from r).elim
 |some _=>cases u with
  |none=>apply(show False from r).elim
  |some _=>apply r
def KV.val(r:KV ao vs)(k:κ):iK (fM ao k) (valueAt vs k):=by
 unfold KV at r
 induction r with
 |nil=>apply True.intro
 | @cons p q ps qs h t ih=>
  let#[h1,h2]:=h
  by_cases e:p.1=k
  .have e':=h1.symm.trans e;have b:valueAt (q::qs) k=some q.2:=by simp[valueAt,adQ,e']
   rw[yM e,b];apply h2
  .have e':¬q.1=k:=λz=>e (h1.trans z)
   have b:valueAt (q::qs) k=valueAt qs k:=by simp[valueAt,adQ,e']
   rw[zQ e,b];apply ih
def KV.any(r:KV ao vs)(k:κ):(ao.any λkv=>decide (kv.1=k))=vs.any λkv=>decide (kv.1=k):=by
 unfold KV at r
 induction r with
 |nil=>rfl
 |cons h t ih=>rw[ajj,ajj,ih,h.1]
def KV.H_(r:KV ao vs)(k:κ)(ry:RelV y u):
  KV (ao.map λkv=>if kv.1=k then(kv.1,y) else kv) (vs.map λkv=>if kv.1=k then(kv.1,u) else kv):=by
 unfold KV at r ⊢
 induction r with
 |nil=>apply .nil
 | @cons p q ps qs h t ih=>
  rw[aar,aar];refine .cons ?_ ih;let#[h1,h2]:=h
  by_cases e:p.1=k
  .rw[if_pos e,if_pos (h1.symm.trans e)];apply#[h1,ry]
  .rw[aa0 e,aa0 (λz=>e (h1.trans z))];apply#[h1,h2]
def KV.put(r:KV ao vs)(k:κ)(ry:RelV y u):KV (putK ao k y) (stored vs k u):=by
 unfold putK stored;rw[r.any k]
 by_cases e:(vs.any λkv=>decide (kv.1=k))=true
 .rw[if_pos e,if_pos e];apply r.H_ k ry
 .rw[aa0 e,aa0 e];apply Paired.snoc r #[rfl,ry]
def KV.keys{vs:List (κ×Value)}(r:KV ao vs):ao.map (·.1)=vs.map (·.1):=by
 unfold KV at r
 induction r with
 |nil=>rfl
 |cons h t ih=>rw[aar,aar,ih,h.1]
def KV.length(r:KV ao vs):ao.length=vs.length:=Paired.length r
end
def sV(r:RelV (kV k) u):(gO P w).is k u=true:=by
 cases k with
 |inl i=>let#[t,e]:=(show ∃t,u=Value.int i t from r);subst e;apply afi P w i t
 |inr x=>let#[t,e]:=(show ∃t,u=Value.str x t from r);subst e;apply XX P w x t
theorem Jy:∀{ks} {us},aW (ks.map kV) us->ItemsAre (gO P w) ks us
 |[],_,r=>by rw[ajS] at r;ext r;apply .nil
 |k::ks,_,r=>by
  rw[aar] at r;cases r with
  |cons h t=>apply .cons (sV h) (Jy t)
abbrev KT(H:Hp):List (List Key×V)->List (List Key×Addr×Value)->Prop:=Paired λp q=>p.1=q.1/\Tk H q.2.1 (p.1.map kV)/\RelV p.2 q.2.2
def KT.val(r:KT H ao xs)(k:List Key):iK (fM ao k) ((atKey xs k).map (·.2)):=by
 induction r with
 |nil=>apply True.intro
 | @cons p q ps qs h t ih=>
  let#[h1,_,h2]:=h
  by_cases e:p.1=k
  .have e':=h1.symm.trans e;have b:atKey (q::qs) k=some q.2:=by simp[atKey,adQ,e']
   rw[yM e,b];apply h2
  .have e':¬q.1=k:=λz=>e (h1.trans z)
   have b:atKey (q::qs) k=atKey qs k:=by simp[atKey,adQ,e']
   rw[zQ e,b];apply ih
def KT.H_(r:KT H ao xs)(k:List Key)(ry:RelV y u):
  KT H (ao.map λkv=>if kv.1=k then(kv.1,y) else kv) (xs.map (putAt k u)):=by
 induction r with
 |nil=>apply .nil
 | @cons p q ps qs h t ih=>
  rw[aar,aar];refine .cons ?_ ih;let#[h1,h2,h3]:=h;unfold putAt
  by_cases e:p.1=k
  .rw[if_pos e,if_pos (h1.symm.trans e)];apply#[h1,h2,ry]
  .rw[aa0 e,aa0 (λz=>e (h1.trans z))];apply#[h1,h2,h3]
def KT.put(r:KT H ao xs)(k:List Key)(hb:Tk H b (k.map kV))(ry:RelV y u):
  KT H (putK ao k y) (storedH xs k b u):=by
 have e:(ao.any λkv=>decide (kv.1=k))=(atKey xs k).isSome:=by
  rw[J7,(r.val k).vz,aic]
 unfold putK storedH;rw[e]
 by_cases q:(atKey xs k).isSome=true
 .rw[if_pos q,if_pos q];apply r.H_ k ry
 .rw[aa0 q,aa0 q];apply Paired.snoc r #[rfl,hb,ry]
def KT.keeps(r:KT H ao xs)(ht:∀b (t:mP),H b=some t.ho->H' b=some t.ho):KT H' ao xs:=
 Paired.DL r λ_ _ z=>#[z.1,let#[t,e,g]:=z.2.1;#[t,e,ht _ t g],z.2.2]
def UE(ok:dU P w H h)(e:Rd H a u):dZ P w H h a u:=e.ok ok
def qv(ok:dU P w H h)(e:Rd H a (.dK ao)):ao.length<=sizeLine/\(a==sysModules)=false/\∃vs,KV ao vs/\h.DictOf (gO P w) a vs:=
 show dZ P w H h a (.dK ao) from UE ok e
def Td(ok:dU P w H h)(e:H a=some (.dK ao)):ao.length<=sizeLine/\(a==sysModules)=false/\∃vs,KV ao vs/\h.DictOf (gO P w) a vs:=qv ok (.inl e)
def xy{ks:List Key}(ok:dU P w H h)(e:Tk H a (ks.map kV)):(tupleKind (gO P w)).is h ks a:=by
 have q:dZ P w H h a (.tup (ks.map kV)):=by
  let#[t,e1,e2]:=e;cases t with
  |tup xs=>ext e1;apply ok a _ e2
  |vF o xs=>ext e1;apply(ok a _ e2).2
  |i0 _ _=>ext e1
  |jC _=>ext e1
 let#[_,ay,r,o,h1,h2,_,n,h3]:=q;apply#[o,ay.toArray,n,h1,h2,h3,by simpa using Jy r]
def oW(ok:dU P w H h)(e:Rd H a (.dT ao)):ao.length<=sizeLine/\(a==sysModules)=false/\
  ∃xs,KT H ao xs/\h.DictOfH (tupleKind (gO P w)) a xs:=by
 let#[z,y,xs,r,o,es,ep,h1,h2,h3,h4,h5]:=(show dZ P w H h a (.dT ao) from UE ok e)
 refine#[z,y,xs,r,o,es,ep,h1,h2,h3,h4,λx hx=>?_,h5];have all:∀{l} {m},KT H l m->∀x∈m,(tupleKind (gO P w)).is h x.1 x.2.1:=by
  intro l m q
  induction q with
  |nil=>intro x hx;apply nomatch hx
  | @cons p q ps qs hq t ih=>
   intro x hx;rcases aaA.mp hx with e|hx
   .subst e;apply xy ok (by rw[<- hq.1];apply hq.2.1)
   .exact ih x hx
 apply all r x hx
def afT(ok:dU P w H h)(e:H a=some (.dT ao)):ao.length<=sizeLine/\(a==sysModules)=false/\
  ∃xs,KT H ao xs/\h.DictOfH (tupleKind (gO P w)) a xs:=oW ok (.inl e)
def jz(H:Hp)(a:Addr)(y:V)(r:Option V):Prop:=
 (∃ao k,Rd H a (.dK ao)/\y=kV k/\r=fM ao k)\/∃ao k b,Rd H a (.dT ao)/\y=.ref b/\Tk H b (k.map kV)/\r=fM ao k
def wX(H:Hp)(a:Addr)(y v:V)(H':Hp):Prop:=
 (∃ao k,H a=some (.dK ao)/\y=kV k/\ao.length<sizeLine/\H'=upd H a (.dK (putK ao k v)))\/
 ∃ao k b,H a=some (.dT ao)/\y=.ref b/\Tk H b (k.map kV)/\ao.length<sizeLine/\H'=upd H a (.dT (putK ao k v))
theorem jz.k{k:Key}(e:H a=some (.dK ao)):jz H a (kV k) (fM ao k):=.inl #[ao,k,.inl e,rfl,rfl]
theorem wX.k{k:Key}(e:H a=some (.dK ao))(hl:ao.length<sizeLine):wX H a (kV k) v (upd H a (.dK (putK ao k v))):=.inl #[ao,k,e,rfl,hl,rfl]
def Inv.big(I:Inv X af U H s):sysModules<s.heap.objs.size:=by
 have h:=(I.mod.glob.keeps I.bk).lt;apply Nat.lt_trans (by decide) h
def ah5(hu:A.units+1<cLine)(I:Inv X af U H s)(g:jz H a y (some v))(ry:RelV y u)(h:∀w' s',Inv X af U H s'->RelV v w'->Q w' s'):
  wpAny (model X.prog X.w) A (getItem (.ref a) u) Q E s:=by
 rcases g with⟨ao,k,e,ey,l⟩|⟨ao,k,b,e,ey,eb,l⟩
 .subst ey;let#[z,hd,vs,rel,dd]:=qv I.aM e;let#[w',hw,fH]:=iK.some_of (by rw[l];apply rel.val k);apply wpAny_getItem_of (sV ry) dd.mapOf hw (h w' _ (I.tok _) fH)
 .subst ey;cases(show u=Value.ref b from ry);let#[z,hd,xs,rel,dd]:=oW I.aM e;let#[w',hw,fH]:=iK.some_of (by rw[l];apply rel.val k);let#[p,hp,Jl]:=abW.mp hw;refine wpAny_getItem_heap (ahJ hu) (xy I.aM eb) dd hp ?_;rw[Jl];apply h w' _ (I.tok _) fH
def acM(hu:A.units+1<cLine)(I:Inv X af U H s)(g:jz H a y o)(ry:RelV y u)(h:∀s',Inv X af U H s'->Q (.bool o.isSome) s'):
  wpAny (model X.prog X.w) A (compareOp .In u (.ref a)) Q E s:=by
 rcases g with⟨ao,k,e,ey,l⟩|⟨ao,k,b,e,ey,eb,l⟩
 .subst ey;let#[z,hd,vs,rel,dd]:=qv I.aM e;refine wpAny_in_of (sV ry) hd dd.mapOf ?_;rw[<- (rel.val k).vz,<- l];apply h _ (I.tok _)
 .subst ey;cases(show u=Value.ref b from ry);let#[z,hd,xs,rel,dd]:=oW I.aM e;refine wpAny_in_heap (ahJ hu) (xy I.aM eb) hd dd ?_;have q:=(rel.val k).vz;rw[aic] at q;rw[<- q,<- l];apply h _ (I.tok _)
def WR(hu:A.units+1<cLine)(I:Inv X af U H s)(g:jz H a y o)(ry:RelV y u)(h:∀s',Inv X af U H s'->Q (.bool (!o.isSome)) s'):
  wpAny (model X.prog X.w) A (compareOp .NotIn u (.ref a)) Q E s:=by
 rcases g with⟨ao,k,e,ey,l⟩|⟨ao,k,b,e,ey,eb,l⟩
 .subst ey;let#[z,hd,vs,rel,dd]:=qv I.aM e;refine wpAny_notIn_of (sV ry) hd dd.mapOf ?_;rw[<- (rel.val k).vz,<- l];apply h _ (I.tok _)
 .subst ey;cases(show u=Value.ref b from ry);let#[z,hd,xs,rel,dd]:=oW I.aM e;refine wpAny_notIn_heap (ahJ hu) (xy I.aM eb) hd dd ?_;have q:=(rel.val k).vz;rw[aic] at q;rw[<- q,<- l];apply h _ (I.tok _)
def Py(I:Inv X af U H s)(mu:AD (H a))(hs:Heap.SameBut a s.heap h')(he:∃q,h'.get? a=some q)(new:dZ X.prog X.w (upd H a ob) h' a ob):
  Inv X af U (upd H a ob) { s with heap:=h',toks:=t' }:=
 I.write mu (.inl rfl) (λb q hb z=>(hs.2 b hb).trans z) he new
def Io(z:ao.length<=sizeLine)(hd:(a==sysModules)=false)(rel:KV ao vs)(dd:h'.DictOf (gO P w) a vs):
  dZ P w H' h' a (.dK ao):=#[z,hd,vs,rel,dd]
def XO(hu:A.units+1<cLine)(I:Inv X af U H s)(g:wX H a y v H')(ry:RelV y u)(rv:RelV v r)(h:∀s',Inv X af U H' s'->Q () s'):
  wpAny (model X.prog X.w) A (setItem (.ref a) u r) Q E s:=by
 rcases g with⟨ao,k,e,ey,l,eH⟩|⟨ao,k,b,e,ey,eb,l,eH⟩
 .subst ey eH;let#[z,hd,vs,rel,dd]:=Td I.aM e;have hz:vs.length<=sizeLine:=by rw[<- rel.length];apply z
  have hl:(putK ao k v).length<=sizeLine:=by have:=F3 ao k v;omega
  refine wpAny_setItem_pairs (hsz:=hz) (sV ry) dd λh' pN hs=>h _ ?_
  have he:∃q,h'.get? a=some q:=let#[q,_,_,hq,_]:=pN;#[q,hq]
  apply Py I (by rw[e];apply True.intro) hs he (Io hl hd (rel.put k rv) pN)
 .subst ey eH;cases(show u=Value.ref b from ry);let#[z,hd,xs,rel,dd]:=afT I.aM e;have hz:xs.length<=sizeLine:=by rw[<- Paired.length rel];apply z
  have hl:(putK ao k v).length<=sizeLine:=by have:=F3 ao k v;omega
  refine wpAny_setItem_heap (hsz:=hz) (ahJ hu) (xy I.aM eb) dd λh' pN hs=>h _ ?_
  let#[q,es,ep,hq,h2,h3,h4,_,h5]:=pN;refine Py I (by rw[e];apply True.intro) hs #[q,hq] #[hl,hd,_,(rel.put k eb rv).keeps λc ys ec=>?_,q,es,ep,hq,h2,h3,h4,h5];rw[aP (ady ec e (by ext ys<;>intro z<;>ext z))];apply ec
def aby(I:Inv X af U H s)(e:Rd H a (.dK ao))(h:∀t s',Inv X af U H s'->Q (.int ao.length t) s'):wpAny (model X.prog X.w) A (call (.builtin "len") [.ref a]) Q E s:=by
 let#[z,hd,vs,rel,dd]:=qv I.aM e;refine call_len_dict hd dd (by rw[<- rel.length];rw[aft] at z;omega) ?_;rw[<- rel.length];apply h _ _ (I.tok _)
def yF(i:Expr):Prop:=∀ov iv,subscripted i false ov iv=operate [ov,iv] (getItem ov iv)
def OX{T id:String}
  (hl:typeLookup (.type T) "__getitem__"=pure (some (.builtin id))) (hs:yF slice)
  (h:wpAny (model prog w) A (eval value env) (λo cL=>wpAny (model prog w) A (eval slice env) (λi rX=>rX.TypeIs o T/\wpAny (model prog w) A (getItem o i) Q E rX) E cL) E s) :
  wpAny (model prog w) A (eval (.Subscript value slice pos) env) Q E s:=by
 refine Subscript_ (aeG h (λo cL CN=>aeG CN (λi rX JT=>?_) λ_ _ x=>x) λ_ _ x=>x);let#[hT,JT]:=JT;unfold subscriptTail;refine aaK ?_;rw[getitemInPython_of_ne hT.not_modules];refine aaK (wpAny_specialOf hT hl ?_);have fin:wpAny (model prog w) A (subscripted slice false o i) (λr Bo=>wpAny (model prog w) A (letTemporaryGo value o r >>= λ_=>pure r) Q E Bo) E rX:=by
  rw[hs o i];apply wpAny_operating (aeG JT (λr Bo ahu=>aaK (wpAny_letTemporaryGo (acp ahu))) λ_ _ x=>x)
 first
  |exact acp (aaK fin)
  |exact aaK (acp (aaK fin))
  |exact aaK fin
def aiP(I:Inv X af U H s)(g:jz H a y o):s.TypeIs (.ref a) "dict":=by
 rcases g with⟨ao,k,e,_,_⟩|⟨ao,k,b,e,_,_,_⟩
 .let#[_,_,vs,_,dd]:=qv I.aM e;apply dd.typeIs
 .let#[_,_,xs,_,dd]:=oW I.aM e;apply dd.typeIs
def Qs(td ty:TE):TE:=λU H Q=>td U H λx H1=>ty U H1 λy H2=>∃a v,x=.ref a/\jz H2 a y (some v)/\Q v H2
def agK(ty td:TE):TE:=λU H Q=>ty U H λy H1=>td U H1 λx H2=>∃a o,x=.ref a/\jz H2 a y o/\Q (.bl o.isSome) H2
def WQ(ty td:TE):TE:=λU H Q=>ty U H λy H1=>td U H1 λx H2=>∃a o,x=.ref a/\jz H2 a y o/\Q (.bl (!o.isSome)) H2
def aix(td ty tv:TE):TS:=λD U H=>tv U H λv H1=>td U H1 λx H2=>ty U H2 λy H3=>∃a H4,x=.ref a/\wX H3 a y v H4/\D.nx U H4
def Of(hu:X.A.units+1<cLine)(ho:PE X o td)(hi:PE X i ty)(hs:yF i):PE X (.Subscript o i pos) (Qs td ty):=by
 intro af s U H Q I h;refine OX PySem.F.slot_dict_getitem.lookup hs (ho.n I h λu s1 x H1 I1 rx q1=>hi.n I1 q1 λiv s2 y H2 I2 ry q=>?_);let#[a,v,ex,g,q2]:=q;subst ex;obtain rfl:u=Value.ref a:=rx;apply#[aiP I2 g,ah5 hu I2 g ry λw' s3 I3 fH=>#[v,H2,I3,fH,q2]]
def Q9(hu:X.A.units+1<cLine)(hi:PE X i ty)(ho:PE X o td):PC X .In i o (agK ty td):=by
 intro af s U H Q I h;refine hi.n I h λiv s1 y H1 I1 ry q1=>ho.n I1 q1 λu s2 x H2 I2 rx q=>?_
 let#[a,ov,ex,g,q2]:=q;subst ex;obtain rfl:u=Value.ref a:=rx;apply acM hu I2 g ry λs3 I3=>#[.bl ov.isSome,H2,I3,rfl,q2]
def aaO(hu:X.A.units+1<cLine)(hi:PE X i ty)(ho:PE X o td):PC X .NotIn i o (WQ ty td):=by
 intro af s U H Q I h;refine hi.n I h λiv s1 y H1 I1 ry q1=>ho.n I1 q1 λu s2 x H2 I2 rx q=>?_
 let#[a,ov,ex,g,q2]:=q;subst ex;obtain rfl:u=Value.ref a:=rx;apply WR hu I2 g ry λs3 I3=>#[.bl (!ov.isSome),H2,I3,rfl,q2]
def Ie(hu:X.A.units+1<cLine)(ho:PE X o td)(hi:PE X i ty)(hv:PE X value tv)(hs:swapsWith value (some (.Subscript o i pos')) pos.line X.env=pure false):
  PS X (.Assign [.Subscript o i pos'] value pos) (aix td ty tv):=by
 intro af s U H D I h;refine wpAny_Assign_Subscript (hv.n I h λr s1 v H1 I1 rv q1=>ho.n I1 q1 λu s2 x H2 I2 rx q2=>hi.n I2 q2 λiv s3 y H3 I3 ry q=>?_) hs;let#[a,H4,ex,g,q3]:=q;subst ex;obtain rfl:u=Value.ref a:=rx;apply XO hu I3 g ry rv λs4 I4=>#[U,H4,I4,q3]
def acU(h:Heap)(hb:sysModules<h.objs.size):dZ P w H (h.push { cls:=.type "dict",data:=.dict ([].toArray) }) h.objs.size (.dK []):=
 #[aeQ _,ae0.mpr (ahc (aco hb)),[],.nil,Heap.DictOf.new h]
def aew(h:Heap)(hb:sysModules<h.objs.size):dZ P w H (h.push { cls:=.type "dict",data:=.dict ([].toArray) }) h.objs.size (.dT []):=
 #[aeQ _,ae0.mpr (ahc (aco hb)),[],.nil,_,([].toArray),0,abp _ rfl,#[rfl,rfl,rfl],rfl,rfl,acm]
def Y9:TE:=λ_ H Q=>∀p,H p=none->Q (.ref p) (upd H p (.dK []))
def adZ:TE:=λ_ H Q=>∀p,H p=none->Q (.ref p) (upd H p (.dT []))
def aiK:PE X (.Dict [] [] pos) Y9:=λaf s U H Q I h=>
 wpAny_Dict_empty #[.ref s.heap.objs.size,_,I.laid (λ_ _ q=>aaq _ q) (abi _) (acU s.heap I.big),rfl,h _ (I.aM.fresh (abi _))]
def acZ:PE X (.Dict [] [] pos) adZ:=λaf s U H Q I h=>
 wpAny_Dict_empty #[.ref s.heap.objs.size,_,I.laid (a:=s.heap.objs.size) (o:=.dT []) (t':=s.toks) (λ_ _ q=>aaq _ q) (abi _) (aew s.heap I.big),rfl,h _ (I.aM.fresh (abi _))]
structure M2(X:Cx)(o:Expr)(m:Str)(apos:Pos)(e f:Expr)(gG:Pos):Prop where
 base:attributeBase o m X.env (eval o X.env)=eval o X.env
 few:((backTo gG (starEach [e,f] X.env)).all (λx=>!x.1)&&(backToKw gG (keywordEach [] X.env)).all (λx=>x.1.isSome)
  && decide (([e,f]:List Expr).length+([]:List Keyword).length+(if([]:List Keyword).isEmpty then 0 else 1)<30))=true
 line:(apos.endLine==gG.line)=true
 trees:backTo gG (starEach [e,f] X.env)=[(false,eval e X.env),(false,eval f X.env)]
def QO(H:Hp)(a:Addr):Prop:=(∃ao,Rd H a (.dK ao))\/∃ao,Rd H a (.dT ao)
def adY(I:Inv X af U H s)(d:QO H a):
  s.TypeIs (.ref a) "dict"/\(∀b,Value.ref a=.ref b->∃ob,s.heap.get? b=some ob/\ob.dict=none)/\(a==sysModules)=false:=by
 rcases d with⟨ao,e⟩|⟨ao,e⟩
 .let#[_,hd,vs,_,dd]:=qv I.aM e;refine#[dd.typeIs,λb q=>?_,hd];ext q;let#[ob,_,_,h1,h2,_]:=dd;apply#[ob,h1,h2.2.1]
 .let#[_,hd,xs,_,dd]:=oW I.aM e;refine#[dd.typeIs,λb q=>?_,hd];ext q;let#[ob,_,_,h1,h2,_]:=dd;apply#[ob,h1,h2.2.1]
def ad5(hu:A.units+1<cLine)(I:Inv X af U H s)(g:jz H a y o)(ry:RelV y u)(rd:RelV d r)(h:∀w' s',Inv X af U H s'->RelV (o.getD d) w'->Q w' s'):
  wpAny (model X.prog X.w) A (call (.builtin "dict.get") [.ref a,u,r]) Q E s:=by
 rcases g with⟨ao,k,e,ey,l⟩|⟨ao,k,b,e,ey,eb,l⟩
 .subst ey;let#[z,hd,vs,rel,dd]:=qv I.aM e;refine call_meetsIn PySem.F.slot_dict_get dd.typeIs PySem.F.entry_dict_get (PySem.F.args_dict_get_3 _ _ _) (meets_dict_get_default (gO X.prog X.w) a (sV ry) hd r) #[_,dd.mapOf,h _ _ (I.tok _) ?_];rw[l];apply(rel.val k).getD rd
 .subst ey;cases(show u=Value.ref b from ry);let#[z,hd,xs,rel,dd]:=oW I.aM e;refine call_meetsIn PySem.F.slot_dict_get dd.typeIs PySem.F.entry_dict_get (PySem.F.args_dict_get_3 _ _ _) (meetsH_dict_get_default (tupleKind (gO X.prog X.w)) a b hd r) #[ahJ hu,k,xs,xy I.aM eb,dd,h _ _ (I.tok _) ?_];rw[l];apply(rel.val k).getD rd
def abv(td ty tx:TE):TE:=λU H Q=>td U H λx H1=>∃a,x=.ref a/\QO H1 a/\ty U H1 λy H2=>tx U H2 λz H3=>∃o,jz H3 a y o/\Q (o.getD z) H3
def GV(hu:X.A.units+1<cLine)(ho:PE X o td)(he:PE X e ty)(hf:PE X f tx)(m:M2 X o "get" apos e f gG):PE X (.Call (.Attribute o "get" apos) [e,f] [] gG) (abv td ty tx):=by
 intro af s U H Q I h;refine wpAny_Call_method m.base m.few m.line PySem.F.plainAttrs_dict PySem.F.slot_dict_get PySem.F.type_dict_get (ho.n I h λu s1 x H1 I1 rx q=>?_);let#[a,ex,d,q1]:=q;subst ex;obtain rfl:u=Value.ref a:=rx;let#[t1,t2,_]:=adY I1 d;refine#[t1,t2,?_];rw[m.trees];refine Calls.callWith_builtin rfl (Calls.evalArgs_plain (Calls.spliced_cons (cX (he af s1 U H1 _ I1 q1) λiv s2 #[y,H2,I2,ry,q2]=>
  Calls.spliced_cons (cX (hf af s2 U H2 _ I2 q2) λfv s3 #[z,H3,I3,rz,ov,g,q3]=>Calls.spliced_nil ?_))))
 apply ad5 hu I3 g ry rz λw' s4 I4 fH=>#[_,H3,I4,fH,q3]
def aiC(I:Inv X af U H s)(e:Rd H a (.dK ao))(h:∀p s',H p=none->Inv X af U (upd H p (.dK ao)) s'->Q (.ref p) s'):wpAny (model X.prog X.w) A (call (.type "dict") [.ref a]) Q E s:=by
 let#[z,hd,vs,rel,dd]:=qv I.aM e;refine kt_call_dict hd dd (by rw[<- rel.length];apply z) λh' pN hs=>?_
 refine h _ _ (I.aM.fresh (abi _)) (I.laid (λb q hq=>?_) (abi _) (Io z (ae0.mpr (ahc (aco I.big))) rel pN));apply(hs.2 b (aco (abb hq))).trans (aaq _ hq)
end L2
namespace OV
open PySem PySem.W PySem.Calls PyProof.Rows
def ago:∀(ns) (vs),WellAll P h vs (ns.map WData.int)->IntsAre vs ns:=by
 intro ns
 induction ns with
 |nil=>
  intro vs w;rw[ajS] at w;ext w;apply .nil
 |cons n ns ih=>
  intro vs w;rw[aar] at w;cases w with
  |cons a b=>
   ext a;apply .cons _ _ (ih _ b)
def ad6{l:OpenLaw}(hn:l.most=some n)
  (Cp:l.row.toRowW.claim.pre args=true) (BL:WellAll P h vals args) :
  ∃a vs ns,vals=[Value.ref a]/\args=[WData.list (ns.map WData.int)]/\h.get? a=some { cls:=.type "list",data:=.seq vs.toArray }/\IntsAre vs ns/\ns.length<=n:=by
 have hsh:=(pre_splitW Cp).1;have hc:l.pre.holds [] { args:=args }=true:=(pre_splitW Cp).2;let#[d,r,rfl,h1,h2]:=hasAllW_cons hsh;obtain rfl:=hasAllW_nil h2;let#[xs,rfl,h3]:=hasW_list h1;let#[ns,rfl]:=items_int h3;have hlen:ns.length<=n:=by
  unfold OpenLaw.pre at hc;have h4:(WTm.not (.lt (.lit (.int (n:Int))) (.len (.arg 0)))).holds [] { args:=[.list (ns.map .int)] }=true:=by
   have h4:=(holds_andW hc).1;rw[hn] at h4;apply h4
  have h5:=condW_of h4 (w_not (w_lt w_lit (w_len_list (w_arg rfl))));rw[List.length_map] at h5;refine Nat.le_of_not_lt λq=>?_
  have q':(n:Int)<((ns.length:Nat):Int):=by omega
  first
   |(rw[aas q'] at h5;apply absurd h5 (by decide))
   |(simp at h5;omega)
 cases BL with
 |cons w1 w2=>
  ext w2;cases w1 with
  |list ho zD=>apply#[_,_,ns,rfl,rfl,ho,ago ns _ zD,hlen]
def acF(l:OpenLaw)(args:List WData):l.row.toRowW.claim.post args (.bool true) args=true:=
 postW_of (r:=l.row.toRowW) (X:=(true==true))
  (show WShape.has [] (.bool true) .bool=true by first|rfl|decide|simp[WShape.has,WShape.arms,WShape.armsAll])
  (show(WTm.eq .res (.lit (.bool true))).value [] { args:=args,res:=some (.bool true),after:=args }=some (.bool (true==true)) from w_eq_bool (w_res rfl) w_lit) rfl
def Wv{l:OpenLaw}
  (hn:l.most=some n) (Af:d.params.defaults=[])
  (call:∀(w) (dH cL) (mg mb) (fa) (o) (pm cd doc) (a) (vs) (ns),
   Ground q loose [] XP w dH mg mb cL.heap->YP w cL.heap->
   cL.heap.get? fa=some o->o.data=.func (docDef d.name d.params d.body d.scope pm cd doc)->cL.heap.CodeRec cd d.name->mg d.name=some (.ref fa)->
   cL.heap.get? a=some { cls:=.type "list",data:=.seq vs.toArray }->IntsAre vs ns->ns.length<=n->cL.gens=([].toArray)->
   codeAny (model l.prog w) callerA (.call (.ref fa) #[[.ref a],[]]) (λr s'=>r=.ok (.ret (.bool true))/\OldK cL.heap s'.heap/\s'.os=cL.os/\AllBare s'.gens) cL) :
  WalkO q loose XP YP l.row.toRowW d [] (λf vs=>PySem.call f vs):=by
 intro w dH cL mg mb G YY fa o pm cd doc dV kV ho hd kR hD yt hg args vals as Cp ajJ vN BL yD;obtain rfl:dV=.none:=Dflts.none hD Af;obtain rfl:kV=.none:=Dflts.noKw hD;let#[a,vs,ns,rfl,rfl,JB,hints,hlen]:=ad6 hn Cp BL;refine enter_call (ajq (call w dH cL mg mb fa o pm cd doc a vs ns G YY ho (fd_plain hd) kR yt JB hints hlen hg) λr s' hq=>?_);let#[rfl,h2,h3,h4]:=hq;apply#[.inl #[.bool true,.bool true,[],rfl,λ_=>rfl,.bool true,acF l _,λ_=>#[List.Pairwise.nil,λ_ hm=>(nomatch hm)]],h2,h3,h4]
end OV
namespace L2
open PySem PySem.Spec PyProof.Rows
theorem Kl:∀{vs} {ns},IntsAre vs ns->aW (ns.map V.int) vs
 |_,_,.nil=>.nil
 |_,_,.cons n t h=>.cons #[t,rfl] (Kl h)
abbrev dR:qS:=λ_ _ _ _ _ _=>False
abbrev E0:XK:=λ_ _ _=>False
def oK:Passes dR X E0:=λ_ _ _ _ _ _ _ h=>h.elim
structure jj(K:Fr)(x qual:Str)(st:Stmt)(f:Addr)(fd:FuncData):Prop where
 ex:∃(oc:Value) (od:Option Addr) (kV doc pm:Value) (an:Option Addr) (aZ ct:Value) (sP:Array (Option Value)),
  fd=PySem.W.fnOf x qual (mU st) (iH st) (di st) .none kV doc pm an aZ ct/\K.lookup f=some #[oc,od,.func fd,sP]/\PySem.W.codeIn K aZ qual=true
 kp:PySem.W.keepIn K (.ref f)=true
section
variable{K:Fr}
def jj.ok{st:Stmt}(F:jj K x qual st f fd)(S:nC N ps (di st))(len:∀vs H Q E,sp vs H Q E->vs.length=ps.length)
  (yR:∀(aZ:{c:Value // c=fd.code}) (A) (outer) (s) (H) (vs) (Q) (E),bR k (A.deeper (envOfC qual (di st) s.heap.objs.size f aZ)) cm->sp vs H Q E->
   ∃t,iX (ir dR P w K mg base N qual (di st) f aZ A outer s H E cm).gJ (iH st) t/\t { nx:=λ_ H'=>Q .aJ H',rt:=Q } (start N vs) H):bS P w K mg base dR (k+1) f fd ps sp cm:=by
 let#[oc,od,kV,doc,pm,an,aZ,ct,sP,rfl,lk,kR]:=F.ex;refine ND lk kR S len λA outer s H vs Q E hr rq=>?_
 let#[t,h,q]:=yR #[aZ,rfl] A outer s H vs Q E hr rq;apply#[t,h.gJ,q]
def jj.binds{st:Stmt}(F:jj K x qual st f fd)
  (h:∀(kV doc pm) (an) (aZ ct) (us),us.length=ps.length->bindArgs (PySem.W.fnOf x qual (mU st) (iH st) (di st) .none kV doc pm an aZ ct) #[us,[]]=pure (ps.zip us)):Binds K fd ps []:=by
 let#[oc,od,kV,doc,pm,an,aZ,ct,sP,rfl,lk,kR]:=F.ex;apply .all (h kV doc pm an aZ ct)
def P_{st:Stmt}{kV doc pm aZ ct:Value}(l:K.lookup f=some #[oc,od,.func (PySem.W.fnOf x qual (mU st) (iH st) (di st) .none kV doc pm an aZ ct),sP])
  (c:PySem.W.codeIn K aZ qual=true) (k:PySem.W.keepIn K (.ref f)=true):jj K x qual st f (PySem.W.fnOf x qual (mU st) (iH st) (di st) .none kV doc pm an aZ ct):=#[#[oc,od,kV,doc,pm,an,aZ,ct,sP,rfl,l,c],k]
end
def fL(hr:bR k A cm):A.units+1<cLine:=ahM (Nat.add_le_add_left (by decide:1<=64) _) hr.units
def z8(h:n<=1000):n<sizeLine:=ahM h (by decide)
def pv(i:Nat)(hN:X.N[i]? = some x:=by rfl)(hv:Bp X.env.scope x:=by first|exact Or.inl rfl|exact Or.inr (Or.inl rfl)|exact Or.inr (Or.inr rfl))(hd:(x==("__debug__":Str))=false:=by decide)
  (kR:(x==("__classdict__":Str))=false:=by decide):PE X (.Name x pos) (qC i):=JF hN hv hd kR
def afB{A B:Prop}(h:B):if false=true then A else B:=by
 rw[aa0 aaH];apply h
def ait{A B:Prop}(h:A):if true=true then A else B:=by
 rw[if_pos rfl];apply h
def aN(H H':Hp):Prop:=∀b o,H b=some o->H' b=some o
def aN.refl(H:Hp):aN H H:=λ_ _ h=>h
def aN.trans(a:aN H H1)(b:aN H1 H2):aN H H2:=λc o h=>b c o (a c o h)
def aN.free(e:aN H H')(h:H' l=Option.none):H l=Option.none:=by
 cases q:H l with
 |none=>rfl
 |some o=>
  rw[e l o q] at h;ext h
def aN.seq{K:Fr}(e:aN H H')(h:cH K H a xs):cH K H' a xs:=by
 rcases h with(h|⟨o,h⟩)|h
 .exact .inl (.inl (e _ _ h))
 .exact .inl (.inr #[o,e _ _ h])
 .exact .inr h
def Yz:ic X (.builtin "len") (λxs H Q=>∃a ao,xs=[V.ref a]/\H a=some (.dK ao)/\Q (.int ao.length) H):=by
 intro af s U H xs us Q I r h;let#[a,ao,rfl,ha,q]:=h;let#[u,rfl,ru]:=vals1 r;ext ru;apply aby I (.inl ha) λt s' I'=>#[.int ao.length,H,I',#[t,rfl],q]
def UA(a:Addr)(cls:Value)(de:Option Addr):HO:=.ext λh=>∃oe,h.get? a=some oe/\oe.cls=cls/\(∀dx,de=some dx->oe.dict=some dx/\PySem.W.notCls oe=true)
def Uc(e:h.get? a=some oe)(c:oe.cls=cls)(d:∀dx,de=some dx->oe.dict=some dx/\PySem.W.notCls oe=true):dZ P w H h a (UA a cls de):=
 #[#[oe,e,c,d],#[oe,e],λ_ _ #[o,q,z] k=>#[o,k o q,z]]
def Jz(ob:Obj)(a:Addr)(cls:Value)(de:Option Addr):HO:=.cR ob (UA a cls de)
def LG(n:Nat)(t:Tok):Str->Option Value:=λy=>if y="slot" then some (.int n t) else none
def Lb(dx:Addr)(n:Nat):HO:=.ext λh=>∃t,h.Ns1 dx (LG n t)
def Y6(e:h.Ns1 dx (LG n t)):dZ P w H h dx (Lb dx n):=
 #[#[t,e],let#[o,_,_,q,_]:=e;#[o,q],λ_ _ #[t,e] k=>#[t,e.at k]]
def n5(o:Obj):Option Value:=match o.data with
 |.fields vs=>vs[2]?
 |_=>none
def DK{α:Type}:Sem α->Prop
 |.pure _=>True
 |.raise _=>True
 |.unsupported _=>True
 |.finish _=>True
 |.rule _ k=>DK (k ())
 |.at _ k=>DK (k ())
 |.load _ _ k=>∀o,DK (k o)
 |.update _ _ f k=>(∀o,(f o).dict=o.dict/\n5 (f o)=n5 o)/\DK (k ())
 |.alloc _ k=>∀a,DK (k a)
 |.stack k=>∀l,DK (k l)
 |_=>False
def Kd(h h':Heap):Prop:=∀(a:Nat) (o),h.objs[a]? = some o->∃o',h'.objs[a]? = some o'/\o'.dict=o.dict/\n5 o'=n5 o
def Kd.refl(h:Heap):Kd h h:=λa o e=>#[o,e,rfl,rfl]
def Kd.trans(x:Kd h h1)(y:Kd h1 h2):Kd h h2:=λa o e=>by
 let#[o1,e1,d1,f1]:=x a o e;let#[o2,e2,d2,f2]:=y a o1 e1;apply#[o2,e2,d2.trans d1,f2.trans f1]
def Kd.push(h:Heap)(o:Obj):Kd h (h.push o):=λa u e=>by
 let#[objs,l]:=h;refine#[u,?_,rfl,rfl];show(objs.push o)[a]? = some u;have lt:=(Array.getElem?_eq_some_iff.mp e).1;rw[Array.getElem?_push_lt lt];rw[Array.getElem?_eq_getElem lt] at e;apply e
def Kd.update(h:Heap)(b:Addr)(hf:∀o,(f o).dict=o.dict/\n5 (f o)=n5 o):Kd h (h.update b f):=λa u e=>by
 let#[objs,l]:=h;show ∃o',(objs.modify b f)[a]? = some o'/\_;have e:=e;rw[Array.getElem?_modify,e]
 split
 .exact#[f u,rfl,hf u]
 .exact#[u,rfl,rfl,rfl]
theorem Kd.at(k:Kd h h')(e:h.get? a=some o)(e':h'.get? a=some o'):o'.dict=o.dict/\n5 o'=n5 o:=by
 have raw:∀{h:Heap} {o},h.get? a=some o->h.objs[a]? = some o:=λ{h o} e=>by
  unfold Heap.get? at e
  split at e
  .cases e
  .exact e
 let#[u,q,d]:=k a o (raw e);rw[raw e'] at q;ext q;apply d
def adP:∀(t) {Q:α->Pos->Shared->Prop} {E} {p} {s},DK t->Kd h0 s.heap->Sem.wp M Γ t Q E p s->Sem.wp M Γ t (λa p' s'=>Q a p' s'/\Kd h0 s'.heap) (λe p' s'=>E e p' s'/\Kd h0 s'.heap) p s:=by
 intro t
 induction t with
 |pure a=>intro Q E p s d k h;apply#[h,k]
 |raise e=>intro Q E p s d k h;apply#[h,k]
 |unsupported w=>intro Q E p s d k h;apply h
 |finish e=>intro Q E p s d k h;apply h
 |rule tag f ih=>intro Q E p s d k h;apply ih () d k h
 | «at» pos f ih=>intro Q E p s d k h;apply ih () d k h
 |load a part f ih=>intro Q E p s d k h;let#[o,e,h]:=h;apply#[o,e,ih o (d o) k h]
 |update a part f g ih=>intro Q E p s d k h;apply#[h.1,ih () d.2 (k.trans (Kd.update _ _ d.1)) h.2]
 |alloc o f ih=>intro Q E p s d k h;apply ih _ (d _) (k.trans (Kd.push _ _)) h
 |stack f ih=>intro Q E p s d k h;apply ih _ (d _) k h
 |loadIfAlive=>intro Q E p s d;apply d.elim
 |point=>intro Q E p s d;apply d.elim
 |register=>intro Q E p s d;apply d.elim
 |fresh=>intro Q E p s d;apply d.elim
 |ask=>intro Q E p s d;apply d.elim
 |choose=>intro Q E p s d;apply d.elim
 |os=>intro Q E p s d;apply d.elim
 |call=>intro Q E p s d;apply d.elim
 |handled=>intro Q E p s d;apply d.elim
 |newGen=>intro Q E p s d;apply d.elim
 |genState=>intro Q E p s d;apply d.elim
 |resume=>intro Q E p s d;apply d.elim
 |yield=>intro Q E p s d;apply d.elim
 |fork=>intro Q E p s d;apply d.elim
 |thread=>intro Q E p s d;apply d.elim
 |await=>intro Q E p s d;apply d.elim
def wW(d:DK t)(h:wpAny M A t Q E s):wpAny M A t (λa s'=>Q a s'/\Kd s.heap s'.heap) (λe s'=>E e s'/\Kd s.heap s'.heap) s:=
 λΓ p hΓ=>adP t d (Kd.refl _) (h Γ p hΓ)
def DK.bind:∀{m},DK m->(∀a,DK (f a))->DK (m >>= f):=by
 intro m
 induction m with
 |pure a=>intro d h;apply h a
 |raise e=>intro d h;apply d
 |unsupported w=>intro d h;apply d
 |finish e=>intro d h;apply d
 |rule tag g ih=>intro d h;apply ih () d h
 | «at» pos g ih=>intro d h;apply ih () d h
 |load a part g ih=>intro d h o;apply ih o (d o) h
 |update a part f g ih=>intro d h;apply#[d.1,ih () d.2 h]
 |alloc o g ih=>intro d h a;apply ih a (d a) h
 |stack g ih=>intro d h l;apply ih l (d l) h
 |loadIfAlive=>intro d;apply d.elim
 |point=>intro d;apply d.elim
 |register=>intro d;apply d.elim
 |fresh=>intro d;apply d.elim
 |ask=>intro d;apply d.elim
 |choose=>intro d;apply d.elim
 |os=>intro d;apply d.elim
 |call=>intro d;apply d.elim
 |handled=>intro d;apply d.elim
 |newGen=>intro d;apply d.elim
 |genState=>intro d;apply d.elim
 |resume=>intro d;apply d.elim
 |yield=>intro d;apply d.elim
 |fork=>intro d;apply d.elim
 |thread=>intro d;apply d.elim
 |await=>intro d;apply d.elim
def EE(a:Addr):DK (load a):=λ_=>trivial
def YY(v:Value):DK (fieldsOf v):=by
 unfold fieldsOf
 split
 .refine(EE _).bind λo=>?_
  split<;>trivial
 .trivial
def BK(v:Value)(i:Nat):DK (field v i):=by
 unfold field;refine(YY v).bind λo=>?_
 split<;>trivial
def E3(v:Value)(i:Nat)(x:Value)(hi:i≠2):DK (setField v i x):=by
 unfold setField
 split
 .unfold updateField;refine(EE _).bind λo=>?_
  split
  .split
   .refine#[λo=>?_,trivial];let#[c,d,dt,sl]:=o;cases dt with
    |fields vs=>apply#[rfl,by show(vs.setIfInBounds i x)[2]? = vs[2]?;rw[Array.getElem?_setIfInBounds_ne hi]]
    |_=>apply#[rfl,rfl]
   .trivial
  .trivial
 .trivial
def EY(e:Value)(f:Option Addr):DK (setFlight e f):=by
 unfold setFlight;refine(BK e 1).bind λtb=>?_
 split
 .exact E3 _ _ _ (by decide)
 .trivial
def Zy(env:Env)(outer:List Env):DK (behindIsImport env outer):=by
 unfold behindIsImport
 split
 .trivial
 .split
  .trivial
  .exact(BK _ _).bind λ_=>trivial
def aiG:DK underTheClaimsCaller:=λ_=>trivial
def aa1(env:Env)(i:Bool)(l:List Env):DK (keptBack env i l):=by
 unfold keptBack
 split
 .split
  .trivial
  .exact aiG.bind λ_=>trivial
 .trivial
theorem Um:∀l:List Env,DK (readyFrames l)
 |[]=>trivial
 |env::outer=>by
  unfold readyFrames
  split
  .refine(EE _).bind λo=>?_
   split
   .trivial
   .refine(Zy _ _).bind λ_=>(aa1 _ _ _).bind λ_=>?_
    apply#[λ_=>#[rfl,rfl],Um outer]
  .trivial
def acQ(env:Env):DK (PySem.frameOf env):=by
 unfold PySem.frameOf;refine DK.bind (λ_=>trivial) λl=>?_
 refine DK.bind ?_ λr=>?_
 .unfold frameObject
  split
  .trivial
  .exact(Um _).bind λ_=>trivial
 .split<;>trivial
def adF(f:Addr)(b:Bool):DK (entryPlaceOf f b):=by
 unfold entryPlaceOf;refine DK.bind (λ_=>trivial) λl=>?_
 split<;>trivial
def aiw(a b c d e:Value)(pl:List Value):DK (EntryCells.newEntry a b c d e pl):=by
 unfold EntryCells.newEntry newFields newObj;dsimp only
 split<;>split<;>first|trivial|exact λ_=>trivial
def Ui(e:Value)(env:Env):DK (noteFrame e env):=by
 unfold noteFrame
 split
 .refine(BK e 1).bind λhead=>?_
  have rest:∀f:Addr,DK (do setField e 1 (<- EntryCells.newEntry head (<- PySem.frameOf env) .none (rawInt f) .none (<- entryPlaceOf f (head != .none)))):=λf=>(acQ env).bind λ_=>(adF _ _).bind λ_=>(aiw _ _ _ _ _ _).bind λ_=>E3 _ _ _ (by decide)
  split
  .refine(BK head 3).bind λx=>?_
   split
   .trivial
   .exact(E3 _ _ _ (by decide)).bind λ_=>rest _
  .exact rest _
 .trivial
def HK(env:Env)(e:Value):DK (leaving env e):=(Ui e env).bind λ_=>EY e none
def dU.tracked(x:dU P w H h)(k:∀b u o,H b=some o->h.get? b=some u->h'.get? b=some u):dU P w H h':=λa o e=>
 (x a o e).gP (λb u hb q=>hb.elim (λz=>k b u o (by rw[z];apply e) q) λz=>k b u _ z q) (λ_ z=>z) λ_ _ z=>z
def dU.alive(x:dU P w H h)(e:H a=some o):∃u,h.get? a=some u:=by
 have q:=x a o e;cases o with
 |lst xs=>let#[_,_,_,_,e]:=q;apply#[_,e]
 |tup xs=>let#[_,_,_,ob,e,_]:=q;apply#[_,e]
 |dK ao=>let#[_,_,_,_,ob,_,_,e,_]:=q;apply#[_,e]
 |dT ao=>let#[_,_,_,_,ob,_,_,e,_]:=q;apply#[_,e]
 |set S n=>let#[ob,_,_,_,e,_]:=q;apply#[_,e]
 |ins C dx fs=>let#[_,_,_,e,_]:=q;apply#[_,e]
 |own y=>apply q
 |xd fs=>let#[_,#[_,_,_,e,_],_]:=q;apply#[_,e]
 |cN lo hi=>let#[_,_,_,e]:=q;apply#[_,e]
 |cR ob u=>apply#[_,q.1]
 |sL ps=>apply#[_,(show h.get? a=some _ from q)]
 |i0 _ _=>let#[_,e,_]:=q;apply#[_,e]
 |jC _=>let#[_,_,_,_,e,g,_]:=q;ext e;apply#[_,g]
 |met f y=>apply#[_,(show h.get? a=some _ from q)]
 |ext φ=>apply q.2.1
def ahs(h:Heap)(H:Hp)(nw:Addr->Prop)(e:Addr):Option Addr->Prop
 |none=>True
 |some n=>∃oe dx t,h.get? e=some oe/\oe.dict=some dx/\h.Ns1 dx (LG n t)/\H dx=none/\nw dx
def lP(h:Heap)(H:Hp)(nw:Addr->Prop)(e:Addr)(aV:Option Addr):Prop:=(∃oe,h.get? e=some oe/\n5 oe=some .none)/\ahs h H nw e aV
def lP.keep(x:lP h H nw e aV)(kd:Kd h h')(he:∃o,h'.get? e=some o)(st:∀b o,h.get? b=some o->(∀vs,o.data≠.fields vs)->∃sl,h'.get? b=some { o with slots:=sl })(hn:∀a,nw a->Ik a):lP h' H Ik e aV:=by
 let#[#[o0,g1,g2],x]:=x;let#[zV,he]:=he;refine#[#[zV,he,(kd.at g1 he).2.trans g2],?_];cases aV with
 |none=>trivial
 |some n=>
  let#[oe,dx,t,h1,h2,#[o,es,ep,q1,q2,q3],h4,h5]:=x;let#[sl,q4]:=st dx o q1 λvs z=>by rw[q2] at z;ext z
  apply#[zV,dx,t,he,(kd.at h1 he).1.trans h2,#[_,es,ep,q4,q2,q3],h4,hn dx h5]
def lP.imp(x:lP h H nw e aV)(hn:∀a,nw a->Ik a):lP h H Ik e aV:=by
 let#[g,x]:=x;refine#[g,?_];cases aV with
 |none=>trivial
 |some n=>
  let#[oe,dx,t,h1,h2,h3,h4,h5]:=x;apply#[oe,dx,t,h1,h2,h3,h4,hn dx h5]
structure QA(h:Heap)(H:Hp)(h0:Heap)(e:Addr)(cls:Value)(aV:Option Addr):Prop where
 py:lP h H (λa=>h0.get? a=none) e aV
 nw:h0.get? e=none
 fr:H e=none
 ob:∃oe vs a0 T oT ts,h.get? e=some oe/\oe.cls=cls/\vs[0]? = some a0/\oe.data=.fields vs/\vs[1]? = some (.ref T)/\T≠e/\h0.get? T=none/\H T=none/\h.get? T=some oT/\oT.data=.fields ts/\ts[3]? = some .none
structure QY(h:Heap)(H:Hp)(h0:Heap)(e:Addr)(cls:Value)(aV:Option Addr):Prop where
 py:lP h H (λa=>h0.get? a=none) e aV
 nw:h0.get? e=none
 fr:H e=none
 ob:∃oe vs a0,h.get? e=some oe/\oe.cls=cls/\vs[0]? = some a0/\oe.data=.fields vs/\vs[1]? = some .none
structure agN(h:Heap)(H:Hp)(h0:Heap)(L e:Addr)(cls:Value)(aV:Option Addr):Prop where
 py:lP h H (λa=>h0.get? a=none) e aV
 nw:h0.get? e=none
 fr:H e=none
 ob:∃oe vs a0 T oT ts,h.get? e=some oe/\oe.cls=cls/\vs[0]? = some a0/\oe.data=.fields vs/\vs[1]? = some (.ref T)/\T≠e/\h0.get? T=none/\H T=none/\h.get? T=some oT/\oT.data=.fields ts/\ts[3]? = some (rawInt L)
def Ot(h:Heap)(H:Hp)(h0:Heap)(L e:Addr)(cls:Value)(aV:Option Addr):Prop:=QY h H h0 e cls aV\/QA h H h0 e cls aV\/agN h H h0 L e cls aV
def f_(P:Program)(w:World):qS:=λouter H s E e s'=>∃a H' cls aV,e=.ref a/\s'.os=s.os/\AllBare s'.gens/\Un (bK outer) [] H H' s.heap s'.heap/\dU P w H' s'.heap/\QA s'.heap H' s.heap a cls aV/\E cls aV H'
def Un.dead(u:Un fs [] H H' h h')(n:h'.get? a=none):h.get? a=none:=by
 cases q:h.get? a with
 |none=>rfl
 |some o=>
  let#[o',e]:=u.there a o q (by simp);rw[n] at e;ext e
def U5{K:Fr}
  (I:Inv (ir (f_ P w) P w K mg base N qual scope f cd A outer s0 H0 E) af U H s) (fl:Ot s.heap H s0.heap (ir (f_ P w) P w K mg base N qual scope f cd A outer s0 H0 E).env.locals e cls aV) (hE:E cls aV H) :
  (ir (f_ P w) P w K mg base N qual scope f cd A outer s0 H0 E).xe (.ref e) s:=by
 generalize hX:ir (f_ P w) P w K mg base N qual scope f cd A outer s0 H0 E=X at I fl ⊢;have hxe:X.xe=λe s'=>wpAny (model P w) X.A (leaving X.env e) (λ_ iD=>f_ P w outer H0 s0 E e iD) (λe' iD=>f_ P w outer H0 s0 E e' iD) s':=by rw[<- hX];rfl
 have dM:X.stack=X.env::outer:=by rw[<- hX];rfl
 have o_:X.A.frames=some (X.env::outer):=by rw[<- dM];apply I.ok.frames
 have hf:X.env.frame=some X.env.locals:=by rw[<- hX];rfl
 have hl:=I.stack;rw[dM] at hl;have u:Un (bK outer) [] H0 H s0.heap s.heap:=by
  have:=I.base;rw[<- hX] at this;apply this
 have hos:s.os=s0.os:=by
  have:=I.os;rw[<- hX] at this;apply this
 have aM:dU P w H s.heap:=by
  have:=I.aM;rw[<- hX] at this;apply this
 have free:=I.wc;rw[dM] at free;have lf:∀b,b∈bK (X.env::outer)->(∃o,s.heap.get? b=some o/\∀vs,o.data≠.fields vs):=λb m=>(hl.mem m).2
 have B9:=fl.elim (·.nw) λz=>z.elim (·.nw) (·.nw)
 have Cv:=fl.elim (·.fr) λz=>z.elim (·.fr) (·.fr)
 have fpy:=fl.elim (·.py) λz=>z.elim (·.py) (·.py)
 rw[hxe];dsimp only;have fin:∀(xs) (h'),(∀x∈xs,s0.heap.get? x=none/\H x=none)->(∃a0,Heap.LeftW (PySem.W.hideAll s.heap (bK (X.env::outer)++xs)) (X.env::outer) e cls a0 s.heap h')->e∈xs->Kd s.heap h'->f_ P w outer H0 s0 E (.ref e) { s with heap:=h' }:=λxs h' jZ hL HR kd=>by
  let#[a0,k1,k2,k3,k4]:=hL;have gP:∀b o,s.heap.get? b=some o->b∉bK (X.env::outer)->b∉xs->h'.get? b=some o:=λb o q n1 n2=>k1 b o (PySem.W.hideAll_get _ q λm=>(abc.mp m).elim n1 n2)
  have nx:∀b o,s0.heap.get? b=some o->b∉xs:=λb o q m=>by rw[(jZ b m).1] at q;ext q
  have Xh:∀b o,s0.heap.get? b=some o->b≠X.env.locals:=λb o q z=>by
   have h1:=I.ok.above;have h2:X.dH=s0:=by rw[<- hX];rfl
   rw[h2,<- z] at h1;apply absurd (abb q) (Nat.not_lt.mpr h1)
  have nfr:∀b o,s0.heap.get? b=some o->b∉bK outer->b∉bK (X.env::outer):=λb o q n m=>by
   have m:b∈(X.env::outer).filterMap (·.frame):=m;rw[afr,hf] at m;apply(aaA.mp m).elim (Xh b o q) n
  have sub:∀b,b∈bK outer->b∈bK (X.env::outer):=λb m=>by
   show b∈(X.env::outer).filterMap (·.frame);rw[afr,hf];apply aaf _ m
  refine#[e,H,cls,aV,rfl,hos,I.bare,#[λb o q n nf _=>?_,λb o q n m _=>?_,u.free,λb o q _=>?_,u.jD,u.jv,u.kC],aM.tracked λb v o hb q=>?_,#[fpy.keep kd (by let#[oe,vs,T,oT,ts,r1,_]:=k3;apply#[oe,r1]) k4 λ_ z=>z,B9,Cv,?_],hE]
  .exact gP b o (u.keep b o q n nf (by simp)) (nfr b o q nf) (nx b o q)
  .let#[sl,q2]:=u.slot b o q n m (by simp);let#[o2,q3,q4]:=lf b (sub b m);rw[q2] at q3;ext q3;let#[xR,q5]:=k4 b _ q2 q4;apply#[xR,q5]
  .let#[o',q2]:=u.there b o q (by simp)
   by_cases m:b∈bK (X.env::outer)
   .let#[o2,q3,q4]:=lf b m;rw[q2] at q3;ext q3;let#[xR,q5]:=k4 b _ q2 q4;apply#[_,q5]
   .exact#[o',gP b o' q2 m (nx b o q)]
  .refine gP b v q (λm=>?_) λm=>?_
   .rw[free b m] at hb;ext hb
   .rw[(jZ b m).2] at hb;ext hb
  .let#[oe,vs,T,oT,ts,r1,#[r2,r0],r3,r4,r5,r6,r7,r8,r9]:=k3;refine#[oe,vs,a0,T,oT,ts,r1,r2,r0,r3,r4,r6,?_,?_,r7,r8,r9]
   .cases q:s0.heap.get? T with
    |none=>rfl
    |some o=>
     exfalso
     let#[o',q2]:=u.there T o q (by simp)
     by_cases m:T∈bK (X.env::outer)
     .let#[o2,q3,q4]:=(k2.mem m).2;rw[r7] at q3;ext q3;apply q4 ts r8
     .have:=PySem.W.hideAll_get (bK (X.env::outer)++xs) q2 λz=>(abc.mp z).elim m (nx T o q)
      rw[r5] at this;ext this
   .cases q:H T with
    |none=>rfl
    |some o=>
     exfalso
     let#[v,q2]:=aM.alive q;have:=PySem.W.hideAll_get (bK (X.env::outer)++xs) q2 λz=>(abc.mp z).elim (λm=>by rw[free T m] at q;ext q) λm=>by rw[(jZ T m).2] at q;ext q
     rw[r5] at this;ext this
 have hide:∀xs:List Addr,s.heap.FunFrames (PySem.W.hideAll s.heap (bK (X.env::outer)++xs)) (X.env::outer):=λxs=>PySem.W.funFrames_hide hl λAr he a ha=>aaL _ (ai8.mpr #[Ar,he,ha])
 rcases fl with fl|fl|fl
 .let#[oe,vs,a0,h1,h2,h0,h3,h5]:=fl.ob;refine aeG (wW (HK _ _) (wpAny_leaving_firstW (Q:=λ_ iD=>∃h',iD={ s with heap:=h' }/\Heap.LeftW (PySem.W.hideAll s.heap (bK (X.env::outer)++[e])) (X.env::outer) e oe.cls a0 s.heap h') (E:=λ_ _=>False) o_ (hide _) hf h1 (λb o q=>PySem.W.of_hideAll _ q) (PySem.W.hideAll_none _ (by simp)) h3 h5 h0 λh' hL=>#[h',rfl,hL])) (λ_ iD #[#[h',eh,hL],kd]=>?_) λ_ _ z=>z.1.elim
  subst eh;rw[h2] at hL;apply fin [e] h' (λx m=>by rw[aaD.mp m];apply#[B9,Cv]) #[a0,hL] (by simp) kd
 .let#[oe,vs,a0,T,oT,ts,h1,h2,h0,h3,t1,t2,t3,t4,t5,t6,t7]:=fl.ob;refine aeG (wW (HK _ _) (wpAny_leaving_nextW (Q:=λ_ iD=>∃h',iD={ s with heap:=h' }/\Heap.LeftW (PySem.W.hideAll s.heap (bK (X.env::outer)++[e,T])) (X.env::outer) e cls a0 s.heap h') (E:=λ_ _=>False) o_ (hide _) hf #[oe,vs,T,oT,ts,h1,#[h2,h0],h3,t1,PySem.W.hideAll_none _ (by simp),t2,t5,t6,t7] (λb o q=>PySem.W.of_hideAll _ q) (PySem.W.hideAll_none _ (by simp)) λh' hL=>#[h',rfl,hL])) (λ_ iD #[#[h',eh,hL],kd]=>?_) λ_ _ z=>z.1.elim
  subst eh;refine fin [e,T] h' (λx m=>?_) #[a0,hL] (by simp) kd;rcases aaA.mp m with z|z
  .rw[z];apply#[B9,Cv]
  .rw[aaD.mp z];apply#[t3,t4]
 .let#[oe,vs,a0,T,oT,ts,h1,h2,h0,h3,t1,t2,t3,t4,t5,t6,t7]:=fl.ob;have aq:Heap.HeldW (PySem.W.hideAll s.heap (bK (X.env::outer)++[e,T])) (X.env::outer) e cls a0 X.env.locals s.heap:=#[λb o q=>PySem.W.of_hideAll _ q,PySem.W.hideAll_none _ (by simp),hide _,oe,vs,T,oT,ts,h1,#[h2,h0],h3,t1,PySem.W.hideAll_none _ (by simp),t2,t5,t6,t7]
  have key:wpAny (model P w) X.A (leaving X.env (.ref e)) (λ_ iD=>∃h',iD={ s with heap:=h' }/\Heap.LeftW (PySem.W.hideAll s.heap (bK (X.env::outer)++[e,T])) (X.env::outer) e cls a0 s.heap h') (λ_ _=>False) s:=by
   unfold leaving;refine aaK (wpAny_noteFrame_againW hf aq.2.2.2 ?_);refine wpAny_landsW aq ?_
   rintro h' ⟨k1,k2,k3,k4⟩ up
   apply#[h',rfl,k1,k3,k4,up]
  refine aeG (wW (HK _ _) key) (?_) λ_ _ z=>z.1.elim
  rintro _ iD ⟨⟨h',eh,hL⟩,kd⟩
  subst eh;refine fin [e,T] h' (λx m=>?_) #[a0,hL] (by simp) kd;rcases aaA.mp m with z|z
  .rw[z];apply#[B9,Cv]
  .rw[aaD.mp z];apply#[t3,t4]
abbrev XS:=Value->Option Addr->St->Hp->Prop
def LD(X:Cx)(E:XS):Prop:=∀(af) (U) (H) (s) (e) (cls) (aV),Inv X af U H s->QY s.heap H X.dH.heap e cls aV->E cls aV U H->X.xe (.ref e) s
def aeV{K:Fr}:
  LD (ir (f_ P w) P w K mg base N qual scope f cd A outer s0 H0 E) (λcls aV _ H=>E cls aV H):=λaf U H s e cls aV I fl hE=>U5 I (.inl fl) hE
inductive t_(K:Fr)(C N:Addr)(bm:List Value)(newId:String):Prop
 |mk:K.lookup C=some (excClassObj nm q C N bs bm hdct sn sub ab col dd k0 k1 k2 k3 k5 newId)->t_ K C N bm newId
structure BG(K:Fr)(C:Addr):Prop where
 ex:∃B newId Qo GR bm N,ExcBaseFacts B newId Qo GR/\t_ K C N bm newId/\PySem.W.nsOkIn K N=true/\PySem.W.nsIn K N "__init__"=some none/\PySem.W.tailIn K GR bm=true
def aio(C:Addr)(E:XS)(t:TA):TS:=λ_ U H=>t U H λvs H1=>vs.length<=sizeLine/\E (.ref C) none U H1
def aaP(hc:X.calm=true)(hx:X.ex=[])(th:LD X E)(cl:BG X.K C)(hg:Gl X x)(hm:X.mg x=some (.ref C))(ha:PA X (e::es) t)(gX:(x==("__debug__":Str))=false:=by decide)
  (he:starEach (e::es) X.env=(false,eval e X.env)::starEach es X.env:=by rfl) (hpl:(backTo gG (starEach es X.env)).any (·.1)=false:=by rfl) :
  PS X (.Raise (some (.Call (.Name x np) (e::es) [] gG)) none pos) (aio C E t):=by
 intro af s U H D I h;obtain⟨B,newId,Qo,GR,bm,N,FB,@⟨nm,q,bs,hdct,sn,sub,ab,col,dd,k0,k1,k2,k3,k5,hl⟩,n1,n2,n3⟩:=cl.ex;have hh:=I.ok.hd hc;have KI:=I.ok.mod.sM;have hC:=KI _ _ hl;have hN:=Heap.Ns.of_isNs (PySem.W.isNs_of_in KI n1);have hni:=PySem.W.nsMap_none_of_in KI n1 n2;have T:=PySem.W.tail_of_in KI n3;refine wpAny_Raise_call_subT (nm:=nm) (q:=q) (N:=N) (bs:=bs) (hdct:=hdct) (sn:=sn) (sub:=sub) (ab:=ab) (col:=col) (dd:=dd) (k0:=k0) (k1:=k1) (k2:=k2) (k3:=k3) (k5:=k5) FB (T.hasType FB.hasBase) hh (by rw[he];show(false||(backTo gG (starEach es X.env)).any (·.1))=false;rw[hpl];rfl) hni (sY I hg hm #[rfl,?_] gX);have key:=ha gG af s U H _ I h;rw[he] at key ⊢;refine Calls.evalArgs_plain (aeG key (λus s1 hq=>?_) λ_ _ y=>y);let#[vs,H1,I1,r,hz,q1]:=hq;refine#[rfl,by rw[<- r.length];apply hz,I1.bk _ _ hC,hN.keeps I1.bk,T.keeps I1.bk,λh' e' qk=>?_];have I2:Inv X af U H1 { s1 with heap:=h' }:=I1.kept qk.keeps;refine th af U H1 _ e' (.ref C) none I2 #[#[?_,trivial],?_,?_,?_] q1
 .let#[tp,z,_,_]:=qk.there;apply#[_,z,rfl]
 .have u:=I1.base;rw[hx] at u;apply u.dead qk.new
 .cases qq:H1 e' with
  |none=>rfl
  |some o=>
   let#[v,z]:=I1.aM.alive qq;rw[qk.new] at z;ext z
 .let#[tp,z,_,_]:=qk.there;apply#[_,_,_,z,rfl,rfl,rfl,rfl]
theorem Inv.slots(I:Inv X af U H s)(xs:List Addr)(gP:∀b o,s.heap.get? b=some o->b∉bK X.stack->b∉xs->h'.get? b=some o)(slot:∀b o,s.heap.get? b=some o->b∈bK X.stack->∃sl,h'.get? b=some { o with slots:=sl })
  (jZ:∀x∈xs,X.dH.heap.get? x=none/\H x=none/\x≠X.env.locals/\(∀y c,X.env.cells.lookup y=some c->c≠x)/\∀p∈X.pn++af,p.1≠x):Inv X af U H { s with heap:=h' }:=by
 have any:∀b o,s.heap.get? b=some o->b∉xs->∃sl,h'.get? b=some { o with slots:=sl }:=λb o q n=>by
  by_cases m:b∈bK X.stack
  .exact slot b o q m
  .exact#[o.slots,gP b o q m n]
 have out:∀b,b≠X.env.locals->b∉X.fs->b∉bK X.stack:=λb n1 n2 m=>(aaA.mp (I.CT b m)).elim n1 n2
 have DH:∀b o,X.dH.heap.get? b=some o->b≠X.env.locals:=λb o e=>aco (acH (abb e) I.ok.above)
 have LU:∀b o,X.dH.heap.get? b=some o->b∉xs:=λb o e m=>by rw[(jZ b m).1] at e;ext e
 have cellK:∀x c,X.env.cells.lookup x=some c->∀v,s.heap.IsCell c v->h'.IsCell c v:=λx c e v #[o,ho,hd]=>by
  let#[sl,q]:=any c o ho λz=>(jZ c z).2.2.2.1 x c e rfl
  apply#[_,q,hd]
 refine#[I.ok,I.os,I.bare,#[λb o e n hb hx=>?_,λb o e n hb hx=>?_,I.base.free,λb o e hx=>?_,I.base.jD,I.base.jv,I.base.kC],?_,λx c e=>?_,I.free,I.iC,λp hp=>?_,I.aM.tracked λb v o hb q=>?_,I.len,I.hq]
 .exact gP b o (I.base.keep b o e n hb hx) (out b (DH b o e) hb) (LU b o e)
 .let#[sl,e1]:=I.base.slot b o e n hb hx;let#[xR,e2]:=any b _ e1 (LU b o e);apply#[xR,e2]
 .let#[o',e1]:=I.base.there b o e hx;let#[sl,e2]:=any b o' e1 (LU b o e);apply#[_,e2]
 .let#[m,#[o,es,ep,ho,r],hl]:=I.loc;let#[sl,hL]:=any _ o ho λz=>(jZ _ z).2.2.1 rfl
  refine#[m,#[_,es,ep,hL,r],λi x v e1 e2 e3=>?_];let#[u,rr,l]:=hl i x v e1 e2 e3;refine#[u,rr,?_];rcases l with l|⟨k,c,e,z⟩
  .exact .inl l
  .exact .inr #[k,c,e,cellK x c e _ z]
 .let#[v,z]:=I.cell x c e;apply#[v,cellK x c e v z]
 .let#[e,n,ne,nf,d]:=I.pin p hp;apply#[gP p.1 p.2 e (out p.1 ne nf) λz=>(jZ p.1 z).2.2.2.2 p hp rfl,n,ne,nf,d]
 .refine gP b v q (λm=>?_) λm=>?_
  .rw[I.wc b m] at hb;ext hb
  .rw[(jZ b m).2.1] at hb;ext hb
def Inv.apart(I:Inv X af U H s)(hx:X.ex=[])(n:s.heap.get? x=none):X.dH.heap.get? x=none/\x≠X.env.locals/\(∀y c,X.env.cells.lookup y=some c->c≠x)/\∀p∈X.pn++af,p.1≠x:=by
 refine#[?_,λz=>?_,λy c e z=>?_,λp hp z=>?_]
 .have u:=I.base;rw[hx] at u;apply u.dead n
 .let#[m,#[o,_,_,ho,_],_]:=I.loc;rw[<- z,n] at ho;ext ho
 .let#[v,o,ho,_]:=I.cell y c e;rw[z,n] at ho;ext ho
 .have:=(I.pin p hp).1;rw[z,n] at this;ext this
abbrev Apart(X:Cx)(af:List (Addr×Obj))(a:Addr):Prop:=X.dH.heap.get? a=none/\a≠X.env.locals/\(∀y c,X.env.cells.lookup y=some c->c≠a)/\∀p∈X.pn++af,p.1≠a
structure gR(X:Cx)(af:List (Addr×Obj))(U:St)(H:Hp)(e:Addr)(cls:Value)(aV:Option Addr)(s:Shared):Prop where
 py:lP s.heap H (Apart X af) e aV
 inv:Inv X af U H s
 fr:H e=none
 ap:X.dH.heap.get? e=none/\e≠X.env.locals/\(∀y c,X.env.cells.lookup y=some c->c≠e)/\∀p∈X.pn++af,p.1≠e
 ob:∃oe vs a0 T oT ts,s.heap.get? e=some oe/\oe.cls=cls/\vs[0]? = some a0/\oe.data=.fields vs/\vs[1]? = some (.ref T)/\T≠e/\H T=none/\(X.dH.heap.get? T=none/\T≠X.env.locals/\(∀y c,X.env.cells.lookup y=some c->c≠T)/\∀p∈X.pn++af,p.1≠T)/\s.heap.get? T=some oT/\oT.data=.fields ts/\(ts[3]? = some .none\/ts[3]? = some (rawInt X.env.locals))
def landAt(I:Inv X af U H s)(hx:X.ex=[])(fr:H e=none)(ap:X.dH.heap.get? e=none/\e≠X.env.locals/\(∀y c,X.env.cells.lookup y=some c->c≠e)/\∀p∈X.pn++af,p.1≠e)(HR:e∈xs)
  (jZ:∀x∈xs,H x=none/\X.dH.heap.get? x=none/\x≠X.env.locals/\(∀y c,X.env.cells.lookup y=some c->c≠x)/\∀p∈X.pn++af,p.1≠x)
  (k1:(PySem.W.hideAll s.heap (bK X.stack++xs)).StaysIn h') (k3:h'.FunFrames (PySem.W.hideAll s.heap (bK X.stack++xs)) X.stack) (tr:h'.TracedAtW (PySem.W.hideAll s.heap (bK X.stack++xs)) e cls a0 fl) (YO:fl=.none\/fl=rawInt X.env.locals) (up:s.heap.UpToSlots h') (py:lP s.heap H (Apart X af) e aV) (kd:Kd s.heap h'):gR X af U H e cls aV { s with heap:=h' }:=by
 let#[oe,vs,T,oT,ts,r1,#[r2,r0],r3,r4,r5,r6,r7,r8,r9]:=tr;have gP:∀b o,s.heap.get? b=some o->b∉bK X.stack->b∉xs->h'.get? b=some o:=λb o q n1 n2=>k1 b o (PySem.W.hideAll_get _ q λm=>(abc.mp m).elim n1 n2)
 have slot:∀b o,s.heap.get? b=some o->b∈bK X.stack->∃sl,h'.get? b=some { o with slots:=sl }:=λb o q m=>by
  let#[_,o2,q3,q4]:=I.stack.mem m;rw[q] at q3;ext q3;apply up b o q q4
 have J:=I.slots xs gP slot λx m=>let#[a,b,c]:=jZ x m;#[b,a,c]
 have tH:H T=none:=by
  cases q:H T with
  |none=>rfl
  |some o=>
   exfalso
   let#[v,q2]:=I.aM.alive q;have:=PySem.W.hideAll_get (bK X.stack++xs) q2 λz=>(abc.mp z).elim (λm=>by rw[I.wc T m] at q;ext q) λm=>by rw[(jZ T m).1] at q;ext q
   rw[r5] at this;ext this
 have tF:T∉bK X.stack:=λm=>by
  let#[_,o2,q3,q4]:=k3.mem m;rw[r7] at q3;ext q3;apply q4 ts r8
 have tA:X.dH.heap.get? T=none/\T≠X.env.locals/\(∀y c,X.env.cells.lookup y=some c->c≠T)/\∀p∈X.pn++af,p.1≠T:=by
  by_cases m:T∈xs
  .exact(jZ T m).2
  .have dead:s.heap.get? T=none:=by
    cases q:s.heap.get? T with
    |none=>rfl
    |some o=>
     have:=PySem.W.hideAll_get (bK X.stack++xs) q λz=>(abc.mp z).elim tF m
     rw[r5] at this;ext this
   refine#[?_,λz=>?_,λy c e z=>?_,λp hp z=>?_]
   .cases q:X.dH.heap.get? T with
    |none=>rfl
    |some o=>
     exfalso
     let#[o',q2]:=I.base.there T o q (by rw[hx];simp);rw[dead] at q2;ext q2
   .let#[m,#[o,_,_,ho,_],_]:=I.loc;rw[<- z,dead] at ho;ext ho
   .let#[v,o,ho,_]:=I.cell y c e;rw[z,dead] at ho;ext ho
   .have:=(I.pin p hp).1;rw[z,dead] at this;ext this
 apply#[py.keep kd #[oe,r1] up λ_ z=>z,J,fr,ap,oe,vs,a0,T,oT,ts,r1,r2,r0,r3,r4,r6,tH,tA,r7,r8,YO.elim (λz=>.inl (z ▸ r9)) λz=>.inr (z ▸ r9)]
def land(I:Inv X af U H s)(hx:X.ex=[])(fr:H e=none)(ap:Apart X af e)(HR:e∈xs)(jZ:∀x∈xs,H x=none/\Apart X af x)
  (fl:Heap.FlyingW (PySem.W.hideAll s.heap (bK X.stack++xs)) X.stack e cls a0 h') (up:s.heap.UpToSlots h') (py:lP s.heap H (Apart X af) e aV) (kd:Kd s.heap h'):gR X af U H e cls aV { s with heap:=h' }:=
 landAt I hx fr ap HR jZ fl.1 fl.2.2.1 fl.2.2.2 (.inl rfl) up py kd
def gR.aeY{R:Shared->Prop}(L:gR X af U H e cls aV s)(hx:X.ex=[])(dM:X.stack=X.env::X.outer)(hf:X.env.frame=some X.env.locals)(k:∀s3,gR X af U H e cls aV s3->R s3):
  wpAny M X.A (noteFrame (.ref e) X.env) (λ_ s2=>wpAny M X.A (setFlight (.ref e) none) (λ_ s3=>R s3) E' s2) E' s:=by
 let#[oe,vs,a0,T,oT,ts,h1,h2,h0,h3,t1,t2,tH,tA,t5,t6,t7]:=L.ob;have I:=L.inv;have o_:X.A.frames=some (X.env::X.outer):=by rw[<- dM];apply I.ok.frames
 have hF:=PySem.W.funFrames_hide (as:=bK X.stack++[e,T]) I.stack λAr he a ha=>aaL _ (ai8.mpr #[Ar,he,ha])
 have fin:∀h4,Heap.HeldW (PySem.W.hideAll s.heap (bK X.stack++[e,T])) (X.env::X.outer) e cls a0 X.env.locals h4->s.heap.UpToSlots h4->Kd s.heap h4->wpAny M X.A (setFlight (.ref e) none) (λ_ s3=>R s3) E' { s with heap:=h4 }:=λh4 aq zf Kw=>by
  refine aeG (wW (EY _ _) (wpAny_landsW (Q:=λ_ s5=>∃h5,s5={ s with heap:=h5 }/\Heap.FlyingW (PySem.W.hideAll s.heap (bK X.stack++[e,T])) (X.env::X.outer) e cls a0 h5/\h4.UpToSlots h5) (E:=λ_ _=>False) aq λh5 Cd Ks=>#[h5,rfl,Cd,Ks])) (λ_ s5 #[#[h5,e5,Cd,Ks],kd5]=>?_) λ_ _ z=>z.1.elim
  subst e5;refine k _ (show gR X af U H e cls aV { s with heap:=h5 } from land (a0:=a0) (xs:=[e,T]) I hx L.fr L.ap (by simp) (λx m=>?_) ?_ (zf.trans Ks) L.py (Kw.trans kd5))
  .rcases aaA.mp m with z|z
   .rw[z];apply#[L.fr,L.ap]
   .rw[aaD.mp z];apply#[tH,tA]
  .rw[<- dM] at Cd;apply Cd
 rcases t7 with t7|t7
 .have F:Heap.FlyingW (PySem.W.hideAll s.heap (bK X.stack++[e,T])) (X.env::X.outer) e cls a0 s.heap:=by
   rw[<- dM];apply#[λb o q=>PySem.W.of_hideAll _ q,PySem.W.hideAll_none _ (by simp),hF,oe,vs,T,oT,ts,h1,#[h2,h0],h3,t1,PySem.W.hideAll_none _ (by simp),t2,t5,t6,t7]
  refine aeG (wW (Ui _ _) (wpAny_looks_onW (Q:=λ_ s4=>∃h4,s4={ s with heap:=h4 }/\Heap.HeldW (PySem.W.hideAll s.heap (bK X.stack++[e,T])) (X.env::X.outer) e cls a0 X.env.locals h4/\s.heap.UpToSlots h4) (E:=λ_ _=>False) o_ hf F λh4 aq zf=>#[h4,rfl,aq,zf])) (λ_ s4 #[#[h4,e4,aq,zf],Kw]=>?_) λ_ _ z=>z.1.elim
  subst e4;apply fin h4 aq zf Kw
 .have F:Heap.HeldW (PySem.W.hideAll s.heap (bK X.stack++[e,T])) (X.env::X.outer) e cls a0 X.env.locals s.heap:=by
   rw[<- dM];apply#[λb o q=>PySem.W.of_hideAll _ q,PySem.W.hideAll_none _ (by simp),hF,oe,vs,T,oT,ts,h1,#[h2,h0],h3,t1,PySem.W.hideAll_none _ (by simp),t2,t5,t6,t7]
  apply wpAny_noteFrame_againW hf F.2.2.2 (fin s.heap F (λb o hb _=>#[o.slots,hb]) (Kd.refl _))
def gR.fly(L:gR X af U H e cls aV s):Ot s.heap H X.dH.heap X.env.locals e cls aV:=by
 let#[oe,vs,a0,T,oT,ts,h1,h2,h0,h3,t1,t2,tH,tA,t5,t6,t7]:=L.ob;rcases t7 with t7|t7
 .exact .inr (.inl #[L.py.imp λ_ z=>z.1,L.ap.1,L.fr,oe,vs,a0,T,oT,ts,h1,h2,h0,h3,t1,t2,tA.1,tH,t5,t6,t7])
 .exact .inr (.inr #[L.py.imp λ_ z=>z.1,L.ap.1,L.fr,oe,vs,a0,T,oT,ts,h1,h2,h0,h3,t1,t2,tA.1,tH,t5,t6,t7])
def sN(X:Cx)(E:XS):Prop:=∀(af) (U) (H) (s) (e) (cls) (aV),gR X af U H e cls aV s->E cls aV U H->X.xe (.ref e) s
def Yu{K:Fr}:
  sN (ir (f_ P w) P w K mg base N qual scope f cd A outer s0 H0 E) (λcls aV _ H=>E cls aV H):=λaf U H s e cls aV L hE=>U5 L.inv L.fly hE
def Zu{os:OsState}
  (hC:h.get? C=some (excClassObj nm q C N bs bm hdct sn sub ab col dd k0 k1 k2 k3 k5 newId)) (hD:h.get? D=some (excClassObj nm' q' D N' bs' uw ajL sn' ajp ab' ajD pN j0 j1 j2 j3 j5 ajl)) (he:h.get? e=some oe) (HU:oe.cls=.ref C)
  (hb:uw.contains (.type "BaseException")=true) (hq:Q ((Value.ref C::bm).contains (.ref D)) #[h,g,d,t,os]):wpAny M A (excMatches (.ref e) (.ref D)) Q E #[h,g,d,t,os]:=by
 have hcB:(Value.ref D::uw).contains (.type "BaseException")=true:=by rw[List.contains_cons,hb,Bool.or_true]
 have f:=tc_notTuple;unfold excMatches
 repeat (first|(with_reducible refine wpAny_loadPart_at he ?_;rw[HU])|with_reducible refine wpAny_loadPart_at hD ?_|(with_reducible refine wpAny_isSubtype_exc hD ?_;rw[hcB])|(with_reducible refine wpAny_isSubtype_exc hC ?_)|wp_step)
 cases hz:(Value.ref C::bm).contains (.ref D)<;>(rw[hz] at hq;wp_walk;apply hq)
def gR.again(L:gR X af U H e cls aV s)(hx:X.ex=[])(k:∀s',gR X af U H e cls aV s'->Q () s'):wpAny M A' (setFlight (.ref e) none) Q E' s:=by
 let#[oe,vs,a0,T,oT,ts,h1,h2,h0,h3,t1,t2,tH,tA,t5,t6,t7]:=L.ob;obtain⟨fl,t7⟩:∃fl,ts[3]? = some fl:=t7.elim (λz=>#[_,z]) λz=>#[_,z]
 have I:=L.inv;refine aeG (wW (EY _ _) (wpAny_setFlight_noneW (Q:=λ_ s'=>∃h',s'={ s with heap:=h' }/\(PySem.W.hideAll s.heap (bK X.stack++[e,T])).StaysIn h'/\h'.FunFrames (PySem.W.hideAll s.heap (bK X.stack++[e,T])) X.stack/\h'.TracedW (PySem.W.hideAll s.heap (bK X.stack++[e,T])) e cls a0/\(∀b o,s.heap.get? b=some o->(∀vs,o.data≠.fields vs)->h'.get? b=some o)) (E:=λ_ _=>False) (λb o q=>PySem.W.of_hideAll _ q)
  (PySem.W.funFrames_hide I.stack λAr he a ha=>aaL _ (ai8.mpr #[Ar,he,ha])) #[oe,vs,T,oT,ts,h1,#[h2,h0],h3,t1,PySem.W.hideAll_none _ (by simp),t2,t5,t6,t7] λh' k1 k2 k3 k4=>#[h',rfl,k1,k2,k3,k4])) (λ_ s' #[#[h',eh,k1,k2,k3,k4],kd]=>?_) λ_ _ z=>z.1.elim
 subst eh;refine k _ (land I hx L.fr L.ap (by simp) (λx m=>?_) #[k1,PySem.W.hideAll_none _ (by simp),k2,k3] (λb o q n=>#[o.slots,k4 b o q n]) L.py kd);rcases aaA.mp m with z|z
 .rw[z];apply#[L.fr,L.ap]
 .rw[aaD.mp z];apply#[tH,tA]
def CQ(X:Cx)(af:List (Addr×Obj))(U:St)(E:XK)(e:Value)(s':Shared):Prop:=∃a cls aV H',e=.ref a/\gR X af U H' a cls aV s'/\E cls aV H'
abbrev TX:=St->Hp->VK->XK->Prop
def PX(X:Cx)(e:Expr)(t:TX):Prop:=
 ∀(af) (s) (U) (H) (Q) (E),Inv X af U H s->t U H Q E->wpAny (model X.prog X.w) X.A (eval e X.env) (EP X af U Q) (CQ X af U E) s
def WY(I:Inv X af U H s)(hx:X.ex=[])(h:f_ X.prog X.w X.stack H s E e s'):CQ X af U E e s':=by
 let#[a,H',cls,aV,rfl,os,bare,un,aM,fl,hE]:=h;have I':=I.T8 os un aM bare λb z=>absurd z (by simp)
 let#[oe,vs,a0,T,oT,ts,h1,h2,h0,h3,t1,t2,t3,t4,t5,t6,t7]:=fl.ob;apply#[a,cls,aV,H',rfl,#[fl.py.imp λ_ z=>I.apart hx z,I',fl.fr,I.apart hx fl.nw,oe,vs,a0,T,oT,ts,h1,h2,h0,h3,t1,t2,t4,I.apart hx t3,t5,t6,.inl t7],hE]
def NN(F:bS X.prog X.w X.K X.mg X.base (f_ X.prog X.w) k f fd ps sp cm)(hr:bR k X.A cm)(hb:Binds X.K fd ps ds)(hd:aW eY ds)(hx:X.ex=[])
  (I:Inv X af U H s) (r:aW vs us) (h:sp (vs++eY) H Q E):wpAny (model X.prog X.w) X.A (call (.ref f) us) (EP X af U Q) (CQ X af U E) s:=by
 have r2:=r.append hd;have hl:(us++ds).length=ps.length:=by rw[<- r2.length];apply F.len _ _ _ _ h
 refine wpAny_call (ajq (F.run X.A X.stack s H #[us,[]] (us++ds) (vs++eY) Q E hr I.Ku (hb s us I.dJ hl) r2 h) λr s' hq=>?_);cases r with
 |error e=>apply WY I hx hq
 |ok fl=>
  cases fl with
  |ret u=>apply I.after hq
  |next=>apply False.elim hq
  |brk=>apply False.elim hq
  |cont=>apply False.elim hq
def ae9(sp:Sp)(eY:List V)(t:TA):TX:=λU H Q E=>t U H λvs H1=>sp (vs++eY) H1 Q E
def ahg(C:Addr)(m:Str)(sp:Sp)(eY:List V)(ta:TE)(t:TA):TX:=λU H Q E=>ta U H λx H1=>∃a dx fs,x=.ref a/\H1 a=some (.ins C dx fs)/\fs.lookup m=none/\
 t U H1 λvs H2=>sp (x::(vs++eY)) H2 Q E
def Ou(ha:PA X.gJ es t)(I:Inv X af U H s)(h:t U H Q):
  wpAny (model X.prog X.w) X.A (spliced (backTo pos (starEach es X.env))) (AP X af U Q) E' s:=
 aeG (ha pos af s U H Q (I.kX _) h) (λus s1 #[vs,H1,I1,q]=>#[vs,H1,I1.lU,q]) λ_ _ z=>False.elim z
def YN(ha:PE X.gJ o ta)(I:Inv X af U H s)(h:ta U H Q):
  wpAny (model X.prog X.w) X.A (eval o X.env) (EP X af U Q) E' s:=
 aeG (ha af s U H Q (I.kX _) h) (λus s1 #[vs,H1,I1,q]=>#[vs,H1,I1.lU,q]) λ_ _ z=>False.elim z
def aej(F:bS X.prog X.w X.K X.mg X.base (f_ X.prog X.w) k f fd ps sp cm)(hr:bR k X.A cm)(hx:X.ex=[])(hg:Gl X x)(hm:X.mg x=some (.ref f))(hk:PySem.W.keepIn X.K (.ref f)=true)(hb:Binds X.K fd ps ds)(hd:aW eY ds)
  (ha:PA X.gJ (e::es) t) (gX:(x==("__debug__":Str))=false:=by decide) (he:starEach (e::es) X.env=(false,eval e X.env)::starEach es X.env:=by rfl) (hpl:(backTo pos (starEach es X.env)).any (·.1)=false:=by rfl) :
  PX X (.Call (.Name x p) (e::es) [] pos) (ae9 sp eY t):=by
 intro af s U H Q E I h;refine agO (sY I hg hm ?_ gX);apply PySem.W.callWith_K I.ok.mod.sM hk (xT (Ou ha I h) λus s1 vs H1 I1 r q=>#[I1.dJ,NN F hr hb hd hx I1 r q]) he hpl
def QB(he:PE X.gJ o ta)(c:kg X.K C)(hm:j_ X.K C m f)(F:bS X.prog X.w X.K X.mg X.base (f_ X.prog X.w) k f fd ps sp cm)(hr:bR k X.A cm)(hx:X.ex=[])(hb:Binds X.K fd ps ds)(hd:aW eY ds)(ha:PA X.gJ (e::es) t)
  (dM:starEach (e::es) X.env=(false,eval e X.env)::starEach es X.env:=by rfl) (hpl:(backTo pos (starEach es X.env)).any (·.1)=false:=by rfl)
  (ht:eval (.Call (.Attribute o m apos) (e::es) [] pos) X.env=(do
   let ov <- eval o X.env
   standAt apos.atName
   let(f,first) <- holding [ov] (getMethod ov m pl)
   callWith pos f first (backTo pos (starEach (e::es) X.env)) (backToKw pos (keywordEach [] X.env))):=by rfl) :
  PX X (.Call (.Attribute o m apos) (e::es) [] pos) (ahg C m sp eY ta t):=by
 intro af s U H Q E I h;refine PySem.W.methodCall_KW (cX (YN he I h) λu s1 hq=>?_) ht;let#[x,H1,I1,rx,a,dx,fs,ex,ea,l,q]:=hq;subst ex;obtain rfl:u=Value.ref a:=rx;refine JO I1 ea c hm l ?_;apply PySem.W.callWith_K I.ok.mod.sM hm.kp (xT (Ou ha I1 q) λus s2 vs H2 I2 r q2=>#[I2.dJ,NN (vs:=.ref a::vs) F hr hb hd hx I2 (.cons rfl r) q2]) dM hpl
def EN(th:sN X ES)(h:CQ X af U (λcls aV H=>ES cls aV U H) v s):X.xe v s:=by
 let#[a,cls,aV,H',rfl,L,q]:=h;apply th af U H' s a cls aV L q
def Xp(i:Nat)(ES:XS)(t:TX):TS:=λD U H=>t U H (λv H1=>D.nx (U.set i (some v)) H1) λcls aV H'=>ES cls aV U H'
def TZ(th:sN X ES)(hN:X.N.Nodup)(hi:X.N[i]? = some x)(hx:Loc X.env.scope x)(he:PX X e t)(hs:swapsWith e (some (.Name x pos')) pos.line X.env=pure false:=by rfl)(hf:X.fn x=true\/X.env.scope.names.lookup x=some .local:=by first|exact .inl rfl|exact .inr rfl|assumption):
  PS X (.Assign [.Name x pos'] e pos) (Xp i ES t):=by
 intro af s U H D I h;refine wpAny_Assign_Name (aeG (he af s U H _ _ I h) (?_) λ_ _ z=>EN th z) hs
 rintro v s1 ⟨y,H1,I1,r1,q1⟩
 apply FQ I1 hN hi hx r1 (λs2 I2=>#[_,H1,I2,q1]) hf
def abd(ES:XS)(t:TX):TS:=λD U H=>t U H (λ_ H1=>D.nx U H1) λcls aV H'=>ES cls aV U H'
def Oz(th:sN X ES)(he:PX X e t)(hs:swapsWith e none pos.line X.env=pure false:=by rfl):PS X (.Expr e pos) (abd ES t):=by
 intro af s U H D I h;refine wpAny_Expr_any (aeG (he af s U H _ _ I h) (?_) λ_ _ z=>EN th z) I.quiet hs
 rintro v s1 ⟨x,H1,I1,r1,q1⟩
 apply#[U,H1,I1,q1]
def ae4(ES:XS)(t:TX):TS:=λD U H=>t U H D.rt λcls aV H'=>ES cls aV U H'
def QK(th:sN X ES)(he:PX X e t):PS X (.Return (some e) pos) (ae4 ES t):=by
 intro af s U H D I h;refine wpAny_Return_some (aeG (he af s U H _ _ I h) (?_) λ_ _ z=>EN th z)
 rintro v s1 ⟨x,H1,I1,r1,q1⟩
 apply#[x,U,H1,I1,r1,q1]
abbrev Cx.kQ(X:Cx)(af:List (Addr×Obj))(R:XS):Cx:={ X with pn:=X.pn++af,xe:=λe s'=>∃U H a cls aV,e=.ref a/\gR X af U H a cls aV s'/\R cls aV U H }
section
variable{X:Cx}
def Cx.Ok.kQ(ok:X.Ok):(X.kQ af R).Ok:=
 #[ok.mod,ok.kind,ok.glob,ok.blt,ok.above,ok.inj,ok.has,ok.qe,ok.hd,ok.frames,ok.rL,ok.uf,ok.bs,ok.jI,ok.pR,ok.qm,ok.jG,ok.l_]
def Cx.Ok.qo(ok:(X.kQ af R).Ok):X.Ok:=
 #[ok.mod,ok.kind,ok.glob,ok.blt,ok.above,ok.inj,ok.has,ok.qe,ok.hd,ok.frames,ok.rL,ok.uf,ok.bs,ok.jI,ok.pR,ok.qm,ok.jG,ok.l_]
def Inv.kQ(I:Inv X af U H s):Inv (X.kQ af R) [] U H s:=#[I.ok.kQ,I.os,I.bare,I.base,I.loc,I.cell,I.free,I.iC,λp hp=>I.pin p (by simpa using hp),I.aM,I.len,I.hq]
def Inv.qo(I:Inv (X.kQ af R) AA U H s):Inv X af U H s:=#[I.ok.qo,I.os,I.bare,I.base,I.loc,I.cell,I.free,I.iC,λp hp=>I.pin p (aaL _ hp),I.aM,I.len,I.hq]
def gR.qo(L:gR (X.kQ af R) AA U H e cls aV s):gR X af U H e cls aV s:=by
 let#[py,I,fr,#[a1,a2,a3,a4],oe,vs,a0,T,oT,ts,h1,h2,h0,h3,t1,t2,tH,#[b1,b2,b3,b4],t5]:=L;apply#[py.imp λ_ z=>#[z.1,z.2.1,z.2.2.1,λp hp=>z.2.2.2 p (aaL _ hp)],I.qo,fr,#[a1,a2,a3,λp hp=>a4 p (aaL _ hp)],oe,vs,a0,T,oT,ts,h1,h2,h0,h3,t1,t2,tH,#[b1,b2,b3,λp hp=>b4 p (aaL _ hp)],t5]
def YC:sN (X.kQ af R) R:=λAA U H s e cls aV L q=>#[U,H,e,cls,aV,rfl,L.qo,q]
end
abbrev Cx.qH(X:Cx)(a:Addr):Cx:={ X with A:=X.A.mark (some (.ref a)),calm:=false,xe:=λ_ _=>False }
def Inv.qH(I:Inv X af U H s)(a:Addr)(hq:uD (X.A.mark (some (.ref a))) H):Inv (X.qH a) af U H s:=
 #[#[I.ok.mod,I.ok.kind,I.ok.glob,I.ok.blt,I.ok.above,I.ok.inj,I.ok.has,I.ok.qe,λz=>Bool.noConfusion z,I.ok.frames,I.ok.rL,I.ok.uf,I.ok.bs,I.ok.jI,I.ok.pR,I.ok.qm,I.ok.jG,I.ok.l_],I.os,I.bare,I.base,I.loc,I.cell,I.free,I.iC,I.pin,I.aM,I.len,#[hq,I.hq.ok,I.hq.lm]]
def Inv.BB(hc:X.calm=true)(I0:Inv X af U H s)(I:Inv (X.qH a) af aG H' s'):Inv X af aG H' s':=
 #[I0.ok,I.os,I.bare,I.base,I.loc,I.cell,I.free,I.iC,I.pin,I.aM,I.len,#[.inl (I0.ok.hd hc),I.hq.ok,I.hq.lm]]
def Inv.DY(I:Inv X af U H s)(fr:H e=none)(ap:Apart X af e)(ok:dZ X.prog X.w (upd H e u) s.heap e u):Inv X af U (upd H e u) s:=by
 let#[a1,a2,a3,a4]:=ap;have ne:∀{b} {o},H b=some o->b≠e:=λ{b o} q z=>by rw[z,fr] at q;ext q
 refine#[I.ok,I.os,I.bare,#[I.base.keep,I.base.slot,λb o q n hx=>?_,I.base.there,λb xs q=>?_,λb o u q=>?_,λb ps q=>?_],I.loc,I.cell,?_,λx c q=>?_,λp hp=>?_,λb o q=>?_,I.len,I.hq.mono (λb o u q=>by rw[aP (ne q)];apply q) λb t q=>by rw[aP (ne q)];apply q]
 .rw[aP λz=>by rw[z,a1] at q;ext q];apply I.base.free b o q n hx
 .have w:=I.base.jD b xs q;rw[aP (ne w)];apply w
 .have w:=I.base.jv b o u q;rw[aP (ne w)];apply w
 .let#[more,w]:=I.base.kC b ps q;apply#[more,by rw[aP (ne w)];apply w]
 .rw[aP λz=>a2 z.symm];apply I.free
 .rw[aP (a3 x c q)];apply I.iC x c q
 .let#[p1,p2,p3]:=I.pin p hp;apply#[p1,by rw[aP (a4 p hp)];apply p2,p3]
 .by_cases z:b=e
  .subst z;rw[cg] at q;ext q;apply ok
  .rw[aP z] at q;apply(I.aM b o q).gP (λ_ _ _ q=>q) (λc q=>by rw[aP (ne q)];apply q) λc xs q=>by rw[aP (ne q)];apply q
def xq(H H':Hp)(a:Addr)(cls:Value)(aV:Option Addr):Prop:=∃ob vs,ob.data=.fields vs/\vs[2]? = some .none/\match aV with
 |none=>H'=upd H a (Jz ob a cls none)
 |some n=>∃dx,dx≠a/\H dx=none/\H'=upd (upd H dx (Lb dx n)) a (Jz ob a cls (some dx))
def gR.known(L:gR X af U H e cls aV s):∃H',xq H H' e cls aV/\Inv X af U H' s:=by
 let#[oe,vs,a0,T,oT,ts,h1,h2,h0,hd,_]:=L.ob;let#[#[o0,c1,c2],py]:=L.py;rw[h1] at c1;ext c1;have c3:vs[2]? = some .none:=by unfold n5 at c2;rw[hd] at c2;apply c2
 have nc:PySem.W.notCls oe=true:=by
  let#[c,d,dt,sl]:=oe;dsimp only at hd;subst hd;rfl
 cases aV with
 |none=>apply#[_,#[oe,vs,hd,c3,rfl],L.inv.DY L.fr L.ap #[h1,Uc h1 h2 λ_ z=>by ext z]]
 |some n=>
  let#[zV,dx,t,g1,g2,g3,g4,g5]:=py;rw[h1] at g1;ext g1;have ne:dx≠e:=λz=>by
   let#[o,es,ep,q1,q2,_]:=g3;rw[z,h1] at q1;ext q1;rw[hd] at q2;ext q2
  have I1:=L.inv.DY g4 g5 (Y6 g3);apply#[_,#[oe,vs,hd,c3,dx,ne,g4,rfl],I1.DY (by rw[aP ne.symm];apply L.fr) L.ap #[h1,Uc h1 h2 λ_ z=>by ext z;apply#[g2,nc]]]
def xq.hq{A:Around}(k:xq H H' a cls aV):uD (A.mark (some (.ref a))) H':=by
 let#[ob,vs,h1,h2,k]:=k;refine .inr #[a,ob,?_];cases aV with
 |none=>subst k;apply#[_,vs,rfl,cg,h1,h2]
 |some n=>let#[dx,_,_,rfl]:=k;apply#[_,vs,rfl,cg,h1,h2]
def xq.same(k:xq H H' a cls aV)(fr:H a=none)(q:H b=some o):H' b=some o:=by
 let#[ob,vs,_,_,k]:=k;cases aV with
 |none=>subst k;rw[aP (dh q fr)];apply q
 |some n=>let#[dx,ne,d,rfl]:=k;rw[aP (dh q fr),aP (dh q d)];apply q
def XH(Iv:Nat->Shared->Prop)
  (turn:∀n s,Iv n s->wpAny (model prog w) A (pyNext it) (λr s1=>match r with
   |none=>R (.ok .next) s1
   | some v=>wpAny (model prog w) A (letOwnedTupleGo tg it v) (λ_ sC=>wpAny (model prog w) A (assign tg env v) (λ_ s2=>
     wpAny (model prog w) A (forIn ifs true λc r=>if r=true then do let ok <- isTrue c env (eval c env);pure (ForInStep.yield ok) else pure (ForInStep.yield r)) (λok s3=>
      if ok=true then wpAny (model prog w) A (eval elt env) (λx s4=>
       wpAny (model prog w) A (call (.builtin "list.append") [acc,x]) (λ_ s5=>∃m,m<n/\Iv m s5) (λ_ _=>False) s4) (λ_ _=>False) s3
      else ∃m,m<n/\Iv m s3) (λ_ _=>False) s2) (λ_ _=>False) sC) (λ_ _=>False) s1) (λ_ _=>False) s)
  (n:Nat) (hn:Iv n s):codeAny (model prog w) A (.compLoop (.ListComp elt [#[tg,iter,ifs,0]] scope pos) 0 it acc env) R s:=by
 have ff:∀{E:Value->Shared->Prop} (x) (s),False->E x s:=λ_ _ f=>f.elim
 refine codeAny_loop rfl Iv (λk s0 hI=>?_) n hn;refine wpAny_noted ?_;rw[compTurn_list];refine aaK (wpAny_standAt (aaK (aeG (turn k s0 hI) (λr s1 h1=>?_) ff)));cases r with
 |none=>apply acp h1
 |some v=>
  refine aaK (aeG h1 (λ_ sC iJ=>aaK (aeG iJ (λ_ s2 h2=>aaK (aeG h2 (λok s3 h3=>?_) ff)) ff)) ff);cases ok with
  |false=>apply acp #[rfl,h3]
  |true=>apply aaK (aaK (aeG h3 (λx s4 h4=>aaK (aeG h4 (λ_ s5 h5=>acp (acp #[rfl,h5])) ff)) ff))
def frees(sc:Scope):List Str:=(sc.names.filter λx=>x.2 == .free).map (·.1)
def m5(env:Env):List (Str×NameKind)->List (Str×Addr)->List (Str×Addr)
 |[],cs=>cs
 |(n,k)::r,cs=>m5 env r (if k == .free then(n,(env.cells.lookup n).getD 0)::cs else cs)
def Vo(h:∀x∈frees sc,∃c,env.cells.lookup x=some c):closureFor sc env=pure (m5 env sc.names []):=by
 have key:∀(l) (cs),(∀x∈(l.filter λx=>x.2 == .free).map (·.1),∃c,env.cells.lookup x=some c)->
   (forIn l cs λx r=>(do
    let(name,kind):=x
    if kind == .free then do
     let a <- cellOf env name
     pure (ForInStep.yield ((name,a)::r))
    else pure (ForInStep.yield r):Sem (ForInStep (List (Str×Addr)))))=pure (m5 env l cs):=by
  intro l
  induction l with
  |nil=>intro cs _;rfl
  |cons p r ih=>
   let#[n,k]:=p;intro cs h;rw[List.forIn_cons]
   by_cases hk:(k==NameKind.free)=true
   .let#[c,hc]:=h n (by simp[hk]);have G3:=ih ((n,c)::cs) λx hx=>h x (by simp only[ajE,hk,if_true,aar,aaA];apply Or.inr hx)
    have e:cellOf env n=pure c:=by unfold cellOf;rw[hc]
    simp only[hk,if_true,e,pure_bind,m5,hc,ajm];apply G3
   .have G3:=ih cs λx hx=>h x (by simp only[ajE,hk];apply hx)
    simp only[hk,m5,aja,if_false,pure_bind];apply G3
 unfold closureFor;have k:=key sc.names [] h;simp only[bind_pure] at k ⊢
 first
  |exact k
  |(simp only[pure_bind];apply k)
theorem QN:∀{l} {cs} {x} {c},(m5 env l cs).lookup x=some c->
  cs.lookup x=some c\/((x,NameKind.free)∈l/\c=(env.cells.lookup x).getD 0)
 |[],_,_,_,h=>.inl h
 |(n,k)::r,cs,x,c,h=>by
  rcases QN (l:=r) h with q|⟨q,e⟩
  .by_cases hk:(k==NameKind.free)=true
   .rw[if_pos hk,afj] at q
    by_cases hx:(x==n)=true
    .rw[hx] at q;have e:=eq_of_beq hx;subst e;have hk':k=.free:=by ext k<;>first|rfl|exact absurd hk (by decide)
     subst hk';apply .inr #[aah,(abH q).symm]
    .rw[Bool.not_eq_true] at hx;rw[hx] at q;apply .inl q
   .rw[aa0 hk] at q;apply .inl q
  .exact .inr #[aaf _ q,e]
theorem Lk:∀{l} {cs} {x},(∃c,cs.lookup x=some c)\/(x,NameKind.free)∈l->∃c,(m5 env l cs).lookup x=some c
 |[],_,_,h=>h.elim id λz=>nomatch z
 |(n,k)::r,cs,x,h=>by
  refine Lk (l:=r) ?_;rcases h with⟨c,h⟩|h
  .left
   by_cases hk:(k==NameKind.free)=true
   .rw[if_pos hk,afj]
    by_cases hx:(x==n)=true
    .rw[hx];apply#[_,rfl]
    .rw[Bool.not_eq_true] at hx;rw[hx];apply#[c,h]
   .rw[aa0 hk];apply#[c,h]
  .rcases aaA.mp h with e|h
   .left
    ext e;rw[if_pos (by decide),afj,aiZ];apply#[_,rfl]
   .exact .inr h
def fB(X:Cx)(N:List Str)(sc:Scope)(s3:Shared)(H3:Hp)(fp:List Addr):Cx:=
 { X with N:=N,dH:=s3,pG:=H3,env:=compEnvC sc (m5 X.env sc.names []) s3.heap.objs.size X.env,outer:=X.stack,stack:=X.stack,ex:=fp,fn:=λ_=>false,pn:=[],xe:=λ_ _=>False }
def mG(js:List (Option Nat))(U:St):St:=js.map λj=>match j with
 |none=>none
 |some j=>(U[j]?).join
def o6(N:List Str)(sc:Scope):List Str->List (Option Nat)->Bool
 |[],[]=>true
 |x::r,none::js=>o6 N sc r js
 |x::r,some j::js=>decide (N[j]? = some x)&&decide (sc.names.lookup x=some .free)&&o6 N sc r js
 |_,_=>false
theorem Cj:∀{M} {js},o6 N sc M js=true->js.length=M.length
 |[],[],_=>rfl
 |_::r,none::js,h=>by
  have:=Cj (js:=js) h;simp[this]
 |_::r,some j::js,h=>by
  unfold o6 at h;have:=Cj ((aav _ _).mp h).2;simp[this]
 |[],_::_,h=>by ext h
 |_::_,[],h=>by ext h
theorem LL:∀{M} {js}{i j:Nat} {x},o6 N sc M js=true->M[i]? = some x->js[i]? = some (some j)->N[j]? = some x/\sc.names.lookup x=some .free
 |[],_,_,_,_,_,h,_=>by simp at h
 |_::_,[],_,_,_,h,_,_=>by ext h
 |y::r,none::js,0,j,x,h,h1,h2=>by simp at h2
 |y::r,some q::js,0,j,x,h,h1,h2=>by
  simp at h1 h2;subst h1 h2;unfold o6 at h;let#[a,b]:=(aav _ _).mp ((aav _ _).mp h).1;apply#[aau a,aau b]
 |y::r,none::js,i+1,j,x,h,h1,h2=>LL (js:=js) h (by simpa using h1) (by simpa using h2)
 |y::r,some q::js,i+1,j,x,h,h1,h2=>by
  unfold o6 at h;apply LL ((aav _ _).mp h).2 (by simpa using h1) (by simpa using h2)
structure mK(X:Cx)(M:List Str)(js:List (Option Nat))(sc:Scope):Prop where
 kind:sc.kind=.function
 zK:∀y∈sc.names,y.2≠.cell
 loc:∀y∈sc.names,y.2=.local->sc.names.lookup y.1=some .local
 Jt:o6 X.N sc M js=true
 free:∀x∈frees sc,X.env.kindOf x=some .cell\/X.env.kindOf x=some .free
 nd:M.Nodup
def HE(wi:TI)(js:List (Option Nat))(g:TG)(tt:TT)(te:TE):TE:=λU H Q=>wi U H λJ H1=>∀D,H1 D=none->
 ∃W:Nat->Nat->St->Hp->Prop,(∃m,W 0 m (mG js U) (upd H1 D (.lst [])))/\∀i m aG H',W i m aG H'->
  (J.stop i H'/\Q (.ref D) H')\/(J.go i H'/\∀x H2,J.Ai i H' x H2->g x aG H2 λd9 H3=>tt d9 H3 λb H4=>
   if b=true then te d9 H4 λy H5=>∃xs,H5 D=some (.lst xs)/\xs.length<sizeLine/\∃m',m'<m/\W (i+1) m' d9 (upd H5 D (.lst (xs++[y])))
   else ∃m',m'<m/\W (i+1) m' d9 H4)
def tY(X:Cx)(ifs:List Expr)(t:TT):Prop:=
 ∀(af) (s) (U) (H) (Q),Inv X af U H s->t U H Q->
  wpAny (model X.prog X.w) X.A (forIn ifs true λc r=>if r=true then do let ok <- isTrue c X.env (eval c X.env);pure (ForInStep.yield ok) else pure (ForInStep.yield r)) (TP X af U Q) X.xe s
def SG(h:PT X c t):tY X [c] t:=λaf s U H Q I q=>wpAny_tests_one (h af s U H Q I q)
def Inv.comp(S:mK X M js sc)(I:Inv X af U H3 s3)
  (hf:∀b∈fp,ju X af H3 b) (cY:∀b∈fp,b<s3.heap.objs.size) (hn:h'.Ns s3.heap.objs.size λ_=>none) (hk:∀b o,s3.heap.get? b=some o->h'.get? b=some o) :
  Inv (fB X M sc s3 H3 fp) [] (mG js U) H3 { s3 with heap:=h',toks:=tk }:=by
 have cl:∀{x} {c},(m5 X.env sc.names []).lookup x=some c->X.env.cells.lookup x=some c:=λ{x c} e=>by
  rcases QN e with q|⟨q,e'⟩
  .cases q
  .let#[c',hc]:=I.ok.has x (S.free x (abn.mpr #[(x,.free),acW.mpr #[q,rfl],rfl]));rw[hc] at e' ⊢;rw[e'];rfl
 have jI:=aeC I.ok.jI I.sz;have lk:∀{x},sc.names.lookup x=some .free->(relabel sc X.env).names.lookup x=some .cell\/(relabel sc X.env).names.lookup x=some .free:=λ{x} e=>by
  have key:∀(l:List (Str×NameKind)),l.lookup x=some .free->(l.map λ(n,k)=>if(k==NameKind.free&&X.env.scope.kind == .function&&X.env.kindOf n==some .cell) then(n,NameKind.cell) else(n,k)).lookup x=some .cell\/
    (l.map λ(n,k)=>if(k==NameKind.free&&X.env.scope.kind == .function&&X.env.kindOf n==some .cell) then(n,NameKind.cell) else(n,k)).lookup x=some .free:=by
   intro l
   induction l with
   |nil=>intro e;ext e
   |cons p r ih=>
    let#[n,k]:=p;intro e;rw[afj] at e;rw[aar]
    by_cases hx:(x==n)=true
    .rw[hx] at e;have e':=abH e;subst e';dsimp only
     split
     .left;rw[afj,hx]
     .right;rw[afj,hx]
    .rw[Bool.not_eq_true] at hx;rw[hx] at e;dsimp only
     split<;>(rw[afj,hx];apply ih e)
  apply key sc.names e
 have kf:∀{x},((relabel sc X.env).names.lookup x=some .cell\/(relabel sc X.env).names.lookup x=some .free)->(x,NameKind.free)∈sc.names:=λ{x} e=>by
  have key:∀(l:List (Str×NameKind)),(∀y∈l,y.2≠.cell)->((l.map λ(n,k)=>if(k == NameKind.free&&X.env.scope.kind == .function&&X.env.kindOf n == some .cell) then(n,NameKind.cell) else(n,k)).lookup x=some .cell\/
    (l.map λ(n,k)=>if(k==NameKind.free&&X.env.scope.kind == .function&&X.env.kindOf n==some .cell) then(n,NameKind.cell) else(n,k)).lookup x=some .free)->(x,NameKind.free)∈l:=by
   intro l
   induction l with
   |nil=>intro _ e;rcases e with e|e<;>ext e
   |cons p r ih=>
    let#[n,k]:=p;intro nc e;rw[aar] at e
    by_cases hx:(x==n)=true
    .have e0:=eq_of_beq hx;subst e0;have Wo:k=.free:=by
      dsimp only at e
      split at e
      .rename_i hc;have:=((aav _ _).mp ((aav _ _).mp hc).1).1;ext k<;>first|rfl|exact absurd this (by decide)
      .rw[afj,aiZ] at e;rcases e with e|e
       .exact absurd (abH e) (nc _ aah)
       .exact abH e
     rw[Wo];apply aah
    .rw[Bool.not_eq_true] at hx;refine aaf _ (ih (λy hy=>nc y (aaf _ hy)) ?_);dsimp only at e
     split at e<;>(rw[afj,hx] at e;apply e)
  apply key sc.names S.zK e
 refine#[#[I.ok.mod,S.kind,I.ok.glob,I.ok.blt,abi _,λx y c h1 h2=>I.ok.inj x y c (cl h1) (cl h2),λx hx=>Lk (.inr (kf hx)),(λx c h _=>by ext h),I.ok.hd,I.ok.frames,.inl rfl,λb hb=>#[aco (cY b hb),λx c e=>(hf b hb).2.2.2.2.1 x c (cl e)],
   I.bs,jI,λb o e hb=>?_,λb hb yk=>?_,I.stack,I.wc],
  rfl,I.bare,Un.kept hk,#[_,hn,λi x v h1 h2 h3=>?_],λx c e=>?_,I.aM.fresh (abi _),λx c e=>I.iC x c (cl e),λp hp=>absurd (show p∈([]:List (Addr×Obj)) from hp) (by simp),I.aM.kept hk,?_,I.hq]
 .rcases(hf b hb).2.2.2.1 with z|z
  .exact I.ok.pR b o e z
  .exact absurd (acH (abb e) (aeC I.ok.jI z)) (agg _)
 .rcases aaA.mp (I.CT b yk) with z|z
  .exact(hf b hb).2.1 z
  .exact(hf b hb).2.2.1 z
 .have hlen:=Cj S.Jt;have hi:i<js.length:=by rw[hlen];apply(acS.mp h1).1
  unfold mG at h2;rw[abV,aa8 hi,Option.map_some] at h2;exists hj,js[i],j,h2;have mS:(U[j]?).join=some v:=abH h2;let#[a,b]:=LL S.Jt h1 (by rw[aa8 hi,hj]);have hs:U[j]? = some (some v):=by
   exists q,U[j]?,z,mS;rw[show z=some v from mS]
  have o_:=S.free x (abn.mpr #[(x,.free),acW.mpr #[PySem.mem_of_lookup b,rfl],rfl]);let#[m,hm,hl]:=I.loc;let#[u,ru,l]:=hl j x v a hs (o_.elim (λz=>.inr (.inl z)) λz=>.inr (.inr z));refine#[u,ru,.inr #[lk b,?_]];rcases l with⟨k,_⟩|⟨_,c,e,hc⟩
  .rcases o_ with z|z<;>(rw[z] at k;ext k)
  .let#[c',ua]:=Lk (.inr (PySem.mem_of_lookup b));have e':=cl ua;rw[e] at e';have e2:=abH e';subst e2;let#[o,ho,hd]:=hc;apply#[c,ua,o,hk _ _ ho,hd]
 .let#[v,o,ho,hd]:=I.cell x c (cl e);apply#[v,o,hk _ _ ho,hd]
 .unfold mG;rw[List.length_map];apply Cj S.Jt
def Inv.Mx(I:Inv X af U H3 s3)(hf:∀b∈fp,ju X af H3 b)
  (J:Inv (fB X M sc s3 H3 fp) AA aG H' s') (hs:Heap.SameBut s3.heap.objs.size s'.heap h'):Inv X af U H' { s' with heap:=h' }:=by
 have B:=J.base;have ne:∀{b} {o},s3.heap.get? b=some o->b≠s3.heap.objs.size:=λe=>aco (abb e)
 have B':Un (bK X.stack) fp H3 H' s3.heap h':=#[λb o e n hb hx=>(hs.2 b (ne e)).trans (B.keep b o e n hb hx),λb o e n hb hx=>let#[sl,q]:=B.slot b o e n hb hx;#[sl,(hs.2 b (ne e)).trans q],B.free,
  λb o e hx=>let#[o',q]:=B.there b o e hx;#[o',(hs.2 b (ne e)).trans q],B.jD,B.jv,B.kC]
 have fr:H' s3.heap.objs.size=none:=J.free;refine I.T8 J.os B' (λb u e=>?_) J.bare λb hb=>#[(hf b hb).2.2.2.1,(hf b hb).2.1,(hf b hb).2.2.2.2.1,(hf b hb).2.2.2.2.2]
 refine(J.aM b u e).gP (λc v hc q=>(hs.2 c ?_).trans q) (λ_ q=>q) λ_ _ q=>q
 rintro rfl
 rcases hc with rfl|hc
 .rw[fr] at e;ext e
 .rw[fr] at hc;ext hc
def UH
  {Q:VK}{RR:Value->Addr->Result->Shared->Prop} (S:mK X M js sc) (hc:X.calm=true\/J.rg=true) (I2:Inv X af U H2 s2) (T:Turn X.prog X.w X.K tg J fp it tn) (st:tn 0 s2.heap) (hf:∀b∈fp,ju X af H2 b)
  (hb:∀s3 H3 fp,PG (fB X M sc s3 H3 fp) tg g/\tY (fB X M sc s3 H3 fp) ifs tt/\PE (fB X M sc s3 H3 fp) elt te)
  (h:∀D,H2 D=none->∃W:Nat->Nat->St->Hp->Prop,(∃m,W 0 m (mG js U) (upd H2 D (.lst [])))/\∀i m aG H',W i m aG H'->
   (J.stop i H'/\Q (.ref D) H')\/(J.go i H'/\∀x H2,J.Ai i H' x H2->g x aG H2 λd9 H3=>tt d9 H3 λb H4=>
    if b=true then te d9 H4 λy H5=>∃xs,H5 D=some (.lst xs)/\xs.length<sizeLine/\∃m',m'<m/\W (i+1) m' d9 (upd H5 D (.lst (xs++[y])))
    else ∃m',m'<m/\W (i+1) m' d9 H4))
  (hR:∀D s3 H3 s' aG H',Inv X af U H3 s3->(∀b∈fp,ju X af H3 b)->Inv (fB X M sc s3 H3 fp) [] aG H' s'->Q (.ref D) H'->RR (.ref D) s3.heap.objs.size (.ok .next) s') :
  wpAny (model X.prog X.w) X.A (newList []) (λacc Bo=>wpAny (model X.prog X.w) X.A (newFunctionEnv sc X.env.globals (m5 X.env sc.names []) [] X.env.qual none .none (some X.env)) (λPV Zv=>
   codeAny (model X.prog X.w) X.A (.compStart (.ListComp elt [#[tg,iter,ifs,0]] sc pos) 0 (.ref it) acc { PV with scope:=relabel sc X.env }) (RR acc PV.locals) Zv) X.xe Bo) X.xe s2:=by
 have agZ:=I2.aM.fresh (abi _);let#[W,#[m0,w0],turn]:=h _ agZ;have I3:Inv X af U (upd H2 s2.heap.objs.size (.lst [])) { s2 with heap:=s2.heap.push { cls:=.type "list",data:=.seq ([]:List Value).toArray } }:=
  I2.laid (λ_ _ q=>aaq _ q) (abi _) #[aeQ _,[],0,.nil,abp _ rfl]
 have Kg:∀b∈fp,b<s2.heap.objs.size:=λb hb=>let#[_,e,_]:=T.obj _ _ st b hb;abb e
 have G6:∀b∈fp,ju X af (upd H2 s2.heap.objs.size (.lst [])) b:=λb hb=>#[by rw[aP (aco (Kg b hb))];apply(hf b hb).1,(hf b hb).2]
 have hsz:(s2.heap.push { cls:=.type "list",data:=.seq ([]:List Value).toArray }).objs.size=s2.heap.objs.size+1:=ajn ..;refine aib (wpAny_newFunctionEnv S.zK (λy hy=>nomatch hy) (λh1 hn1 WT=>?_) S.kind);generalize AX:({ s2 with heap:=s2.heap.push { cls:=.type "list",dict:=none,data:=.seq ([]:List Value).toArray } }:Shared)=s3 at *;have Vy:∀b o,s3.heap.get? b=some o->h1.get? b=some o:=λb o e=>(WT.2 b (aco (abb e))).trans (aaq _ e)
 have Nv:∀b∈fp,b<s3.heap.objs.size:=λb hb=>by rw[<- AX];show b<(s2.heap.push _).objs.size;rw[hsz];apply ajQ (Kg b hb)
 have I4:Inv (fB X M sc s3 (upd H2 s2.heap.objs.size (.lst [])) fp) [] (mG js U) (upd H2 s2.heap.objs.size (.lst [])) { s3 with heap:=h1,toks:=s3.toks+([]:List (Str×Value)).length }:=I3.comp S G6 Nv hn1 Vy;let#[hg,ht,he]:=hb s3 (upd H2 s2.heap.objs.size (.lst [])) fp;have uH:∀{H'},(∀b∈fp,H' b=none)->∀b∈fp,ju (fB X M sc s3 (upd H2 s2.heap.objs.size (.lst [])) fp) [] H' b:=λ{H'} hn b hb=>
  #[hn b hb,aco (Nv b hb),I4.ok.qm b hb,.inl hb,(I4.ok.uf b hb).2,λp hp=>absurd (show p∈([]:List (Addr×Obj)) from hp) (by simp)]
 have NW:=T.keep _ _ _ st λb hb o e=>Vy b o (by rw[<- AX];apply aaq _ e)
 have fr4:∀b∈fp,upd H2 s2.heap.objs.size (.lst []) b=none:=λb hb=>(G6 b hb).1
 have loop:codeAny (model X.prog X.w) X.A (.compLoop (.ListComp elt [#[tg,iter,ifs,0]] sc pos) 0 (.ref it) (.ref s2.heap.objs.size) (compEnvC sc (m5 X.env sc.names []) s3.heap.objs.size X.env)) (RR (.ref s2.heap.objs.size) s3.heap.objs.size)
   { s3 with heap:=h1,toks:=s3.toks+([]:List (Str×Value)).length }:=by
  refine XH (λn s'=>∃i aG H',Inv (fB X M sc s3 (upd H2 s2.heap.objs.size (.lst [])) fp) [] aG H' s'/\tn i s'.heap/\(∀b∈fp,H' b=none)/\W i n aG H') ?_ m0 #[0,_,_,I4,NW,fr4,w0]
  rintro n s5 ⟨i,Cm,H5,I5,vg,mW,w5⟩
  rcases turn i n Cm H5 w5 with⟨stop,q⟩|⟨go,step⟩
  .refine cX (T.done (fB X M sc s3 (upd H2 s2.heap.objs.size (.lst [])) fp) rfl rfl rfl hc i [] s5 Cm H5 _ I5 (uH mW) vg stop) ?_
   rintro r s6 ⟨hr,I6⟩
   subst hr;apply hR _ _ _ _ _ _ I3 G6 I6 q
  .refine cX (T.item (fB X M sc s3 (upd H2 s2.heap.objs.size (.lst [])) fp) rfl rfl rfl hc i [] s5 Cm H5 _ I5 (uH mW) vg go) ?_
   rintro r s6 ⟨u,hr,h6⟩
   subst hr;refine cX h6 ?_
   rintro _ s7 ⟨x,H7,I7,r7,y7,KC,fr7⟩
   have Xz:=I7.pinned (uH fr7) (T.obj _ _ KC);have back:∀{qL} {H8} {s8},Inv (fB X M sc s3 (upd H2 s2.heap.objs.size (.lst [])) fp) ([]++zp fp s7.heap) qL H8 s8->tn (i+1) s8.heap/\(∀b∈fp,H8 b=none):=λ{qL H8 s8} I8=>
    #[T.keep _ _ _ KC λb hb o e=>(I8.pin (b,o) (aaJ _ (aaJ _ (Bc hb e)))).1,λb hb=>by
     let#[o,e,_]:=T.obj _ _ KC b hb;apply(I8.pin (b,o) (aaJ _ (aaJ _ (Bc hb e)))).2.1]
   refine cX (hg _ s7 Cm H7 x u _ Xz r7 (step x H7 y7)) ?_
   rintro _ s8 ⟨qL,H8,I8,q8⟩
   refine G0 (ht _ s8 qL H8 _ I8 q8) λok s9 H9 I9 q9=>?_
   cases ok with
   |false=>
    rw[aa0 aaH] at q9 ⊢;let#[m',hm,w9]:=q9;let#[a9,b9]:=back I9;apply#[m',hm,i+1,qL,H9,I9.Aj,a9,b9,w9]
   |true=>
    rw[if_pos rfl] at q9 ⊢;refine cX (he _ s9 qL H9 _ I9 q9) λy eO hq=>?_
    let#[yv,UI,I10,Wl,xs,hD,hz,m',hm,VW]:=hq;refine yJ (BR _ eO qL UI (.ref s2.heap.objs.size) [yv] (.ref s2.heap.objs.size) [y] (λv MO=>v=.aJ/\MO=upd UI s2.heap.objs.size (.lst (xs++[yv]))) I10 rfl (.cons Wl .nil) #[_,xs,yv,rfl,rfl,hD,hz,rfl,rfl]) λ_ l5 v11 MO P8 _ q=>?_
    let#[_,VB]:=q;subst VB;let#[a9,b9]:=back P8;apply#[m',hm,i+1,qL,_,P8.Aj,a9,b9,VW]
 apply codeAny_compStart_list loop (T.self _ 0 _ _ _ NW loop)
def Vl{g:TG}(S:mK X M js sc)(hc:X.calm=true)(hi:PI X tg iter wi)
  (hb:∀s3 H3 fp,PG (fB X M sc s3 H3 fp) tg g/\tY (fB X M sc s3 H3 fp) ifs tt/\PE (fB X M sc s3 H3 fp) elt te) (hs:∀x,foldedSetIterable iter X.env x=pure x:=by intro _;rfl) :
  PE X (.ListComp elt [#[tg,iter,ifs,0]] sc pos) (HE wi js g tt te):=by
 intro af s U H Q I h;rw[eval_ListComp];refine wpAny_comprehension_free rfl hs (Vo λx hx=>I.ok.has x (S.free x hx)) S.kind S.loc ?_;refine cX (hi af s U H _ I h) λv s1 h1=>cX h1 λCD s2 hq=>?_
 let#[it,fp,tn,J,H2,e,I2,T,uC,f2,h2]:=hq;subst e;refine UH S (.inl hc) I2 T uC f2 hb h2 λD s3 H3 s' aG H' I3 f3 J' q=>?_
 let#[m,hm,_]:=J'.loc;apply#[m,hm,λh' c9=>#[.ref D,H',I3.Mx f3 J' c9,rfl,q]]
def aa3(hN:X.N.Nodup)(hy:X.N[i]? = some y)(hl:X.env.scope.names.lookup y=some .local)
  (S:mK X M js sc) (hc:X.calm=true) (hi:PI X tg iter wi) (hb:∀s3 H3 fp,PG (fB X M sc s3 H3 fp) tg g/\tY (fB X M sc s3 H3 fp) ifs tt/\PE (fB X M sc s3 H3 fp) elt te)
  (jo:swapsWith (.ListComp elt [#[tg,iter,ifs,0]] sc pos) (some (.Name y py)) K9.line X.env=pure true:=by rfl) (hs:∀x,foldedSetIterable iter X.env x=pure x:=by intro _;rfl) :
  PS X (.Assign [.Name y py] (.ListComp elt [#[tg,iter,ifs,0]] sc pos) K9) (IC (HE wi js g tt te) (ug i)):=by
 intro af s U H D I h;rw[exec_Assign_Name_used _ _ _ _ jo];refine aaK (wpAny_standAt (aaK ?_));refine aaK (aeG (wpAny_comprehension_free rfl hs (Vo λx hx=>I.ok.has x (S.free x hx)) S.kind S.loc ?_) (λ_ s' q=>acp (acp q)) λ_ _ e=>e);refine cX (hi af s U H _ I h) λv s1 h1=>cX h1 λCD s2 hq=>?_
 let#[it,fp,tn,J,H2,e,I2,T,uC,f2,h2]:=hq;subst e;refine UH (Q:=λx H1=>ug i x U H1 D.nx) S (.inl hc) I2 T uC f2 hb h2 λDa s3 H3 s' aG H' I3 f3 J' q=>?_
 have sb:Heap.SameBut s3.heap.objs.size s'.heap s'.heap:=#[rfl,λ_ _=>rfl]
 have I5:=I3.Mx f3 J' sb;let#[m,hm,_]:=J'.loc;have ne:=aco I3.lt;refine wpAny_assign_Name (MK I5 hN hy (.inl hl) (show RelV (.ref Da) (.ref Da) from rfl) (λs6 I6 #[a,GN,ha]=>?_) (.inr hl));have nE:∀x c,X.env.cells.lookup x=some c->c≠s3.heap.objs.size:=λx c e=>by
  let#[v',lX]:=I3.cell x c e;apply aco lX.lt
 have na:=ha.elim (λe=>by rw[e];apply ne) λz=>nE y a z
 refine#[m,hm.sameBut GN (ahc na),λh' c9=>#[_,H',I6.turned (λb o hb e=>(c9.2 b hb).trans e) J'.free (ahc ne) (.inr I3.sz) nE (λp hp=>?_),q]];apply aco (abb (I3.pin p hp).1)
def Wb:typeLookup (.type "dict") "__len__"=pure (some (.builtin "dict.__len__")):=by rw[typeLookup_type,builtinLookup_eq_fast];kernel_rfl
section
variable{prog:Program}{w:World}{A:Around}{E:Value->Shared->Prop}{s:Shared}
def aiz{κ:Type}[DecidableEq κ]{knd:KeyKind prog w κ}{ao:List (κ×Value)}{Q:List Value->Shared->Prop}(hh:A.handled=none)(hd:(d==sysModules)=false)(hm:s.heap.DictOf knd d ao)(hz:ao.length<=sizeLine)
  (hQ:∀s' acc,s.heap.objs.size<=s'.heap.objs.size->(∀b o,s.heap.get? b=some o->s'.heap.get? b=some o)->s'.gens=s.gens->s'.drawn=s.drawn->s'.os=s.os->ItemsOf (λi v=>∃k x,ao[i]? = some (k,x)/\knd.is k v=true) acc ao.length->Q acc.toList s') :
  wpAny (model prog w) A (collect (.ref d)) Q E s:=by
 let#[ep,hm]:=hm.dictAt;have cY:=hm.lt_size;unfold collect;refine aaK (wpAny_runValue (ahe F.entry_proto_collect ?_));rw[af4 F.plain_proto_collect _];refine aaK (aib ?_);refine acp #[ajb F.plain_list_iadd _,ahe F.entry_list_iadd ?_];rw[af4 F.plain_list_iadd _];have oV:=hm.push { cls:=.type "list",data:=.seq ([]:List Value).toArray };have hT1:({ s with heap:=s.heap.push { cls:=.type "list",data:=.seq ([]:List Value).toArray } }:Shared).TypeIs (.ref d) "dict":=oV.dictOf.typeIs;show wpAny (model prog w) A.in1 (Builtin.List.listExtendWith (.ref s.heap.objs.size) (.ref d) (.ref s.heap.objs.size)) _ _ _;unfold Builtin.List.listExtendWith;refine aaK (wpAny_typeOf hT1 ?_);have h1:Builtin.List.listSameRef (.ref s.heap.objs.size) (.ref d)=false:=by simp[Builtin.List.listSameRef,ah7 cY]
 have h2:(Value.type "dict" == Value.type "list")=false:=by decide
 have h3:(Value.type "dict" == Value.type "tuple")=false:=by decide
 simp only[h1,h2,h3,Bool.or_false,aja,if_false];refine aaK (wpAny_pyIter_dict hd oV ?_);refine aaK (ai4 ?_);have oG:=oV.push { cls:=.type "dict_keyiterator",data:=.fields ([.ref d,.int 0 0,.int ao.length 0,.int ep 0].toArray) };have Eu:({ s with heap:=(s.heap.push { cls:=.type "list",data:=.seq ([]:List Value).toArray }).push { cls:=.type "dict_keyiterator",data:=.fields ([.ref d,.int 0 0,.int ao.length 0,.int ep 0].toArray) } }:Shared).TypeIs (.ref d) "dict":=oG.dictOf.typeIs;unfold Builtin.List.listLengthHint;refine aaK (wpAny_specialOf Eu Wb ?_);generalize IG:("dict.__len__":String)=OU
 (fail_if_success (clear IG OU))
 wp_delta
 rw[show splitId OU=some ("dict","__len__") from by subst IG;decide +kernel];subst IG;refine aaK (wpAny_isInstance (b:=true) Eu (by rw[isSubtype_type];kernel_rfl) ?_);refine aaK (wpAny_typeOf Eu ?_);refine acp ?_;refine aaK (wpAny_rule ?_);have hsz:(s.heap.push { cls:=.type "list",data:=.seq ([]:List Value).toArray }).objs.size=s.heap.objs.size+1:=ajn ..;generalize yf:s.heap.push { cls:=.type "list",data:=.seq ([]:List Value).toArray }=h1 at *;have hS1:h1.get? s.heap.objs.size=some { cls:=.type "list",data:=.seq ([]:List Value).toArray }:=by rw[<- yf];apply abp _ rfl
 have acs:∀b o,s.heap.get? b=some o->h1.get? b=some o:=λb o e=>by rw[<- yf];apply aaq _ e
 dsimp only;have hI2:(h1.push { cls:=.type "dict_keyiterator",data:=.fields ([.ref d,.int 0 0,.int ao.length 0,.int ep 0].toArray) }).get? h1.objs.size=some { cls:=.type "dict_keyiterator",data:=.fields ([.ref d,.int 0 0,.int ao.length 0,.int ep 0].toArray) }:=abp _ rfl;have RA:(h1.push { cls:=.type "dict_keyiterator",data:=.fields ([.ref d,.int 0 0,.int ao.length 0,.int ep 0].toArray) }).get? s.heap.objs.size=some { cls:=.type "list",data:=.seq ([]:List Value).toArray }:=aaq _ hS1;have ael:∀b o,s.heap.get? b=some o->(h1.push { cls:=.type "dict_keyiterator",data:=.fields ([.ref d,.int 0 0,.int ao.length 0,.int ep 0].toArray) }).get? b=some o:=λb o e=>aaq _ (acs b o e)
 generalize hh2:h1.push { cls:=.type "dict_keyiterator",data:=.fields ([.ref d,.int 0 0,.int ao.length 0,.int ep 0].toArray) }=h2 at *;have Pn:s.heap.objs.size≠h1.objs.size:=by rw[hsz];apply aco (aiV _)
 have Ve:=ah7 cY;have VG:d≠h1.objs.size:=by rw[hsz];apply aco (ajQ cY)
 refine aaK ?_;refine aaK (ajO RA rfl ?_);have OP:=ai7 (Obj.mapSeq (·.push Value.none)) RA rfl;refine ajO OP rfl ?_;have Zp:=ai7 (Obj.mapSeq (·.pop)) OP rfl;have HW:∀b o,b≠s.heap.objs.size->h2.get? b=some o->((h2.update s.heap.objs.size (Obj.mapSeq (·.push Value.none))).update s.heap.objs.size (Obj.mapSeq (·.pop))).get? b=some o:=
  λb o hb e=>(ae6 _ _ (ahc hb)).trans ((ae6 _ _ (ahc hb)).trans e)
 have W:=(Walks.dictKeys (A:=A.in1) (knd:=knd) hh h1.objs.size d VG ao ep).toS;refine acp #[ajb F.plain_extend_loop _,codeAny_extend_loopS W hz s.heap.objs.size (by simp;apply#[Pn,Ve]) _ ao.length 0 _ _ _ rfl (aeQ _) ?_ Zp (ItemsOf.nil _) λs' YE c' DX uZ oJ=>?_]
 .exact#[#[_,HW _ _ (ahc Pn) hI2,rfl,rfl],oG.at' λo e=>HW _ _ (ahc Ve) e]
 .show wpAny (model prog w) A (load s.heap.objs.size >>= _) _ _ s';refine aaK (wpAny_load uZ ?_);refine acp (hQ s' YE (agF (abb uZ)) (λb o e=>?_) DX.gens DX.drawn DX.os oJ);have hb:=abb e;refine DX.heap b o ?_ (HW b o (aco hb) (ael b o e));intro m;rcases aaA.mp m with z|z
  .exact absurd hb (by rw[z];apply agg _)
  .have z:=aaD.mp z;rw[hsz] at z;apply absurd hb (by rw[z];apply Nat.not_lt.mpr (ahv _))
def VS{x:Value}{Q:Value->Shared->Prop}(hc:∀(Q':List Value->Shared->Prop),(∀vs s',(∃ns,IntsAre vs ns/\∀(out:Array Value) (fU:List Int),IntsAre out.toList fU->fU.Perm ns->fU.Pairwise (·<=·)->
    Q (.ref s'.heap.objs.size) { s' with heap:=sortedHeap (s'.heap.push (seqObj "list" vs.toArray 0)) s'.heap.objs.size vs out })/\vs.length<64->Q' vs s')->wpAny (model prog w) A.in1 (collect x) Q' E s):wpAny (model prog w) A (call (.builtin "sorted") [x]) Q E s:=by
 refine call_function_tree kind_sorted plain_sorted entry_sorted (args_sorted1 _) ?_;unfold Builtin.«sorted»;refine aaK (acp ?_);refine aaK (hc _ ?_)
 rintro vs s' ⟨⟨ns,hI,h⟩,mD⟩
 refine aaK (wpAny_newList ?_);have Cz:(s'.heap.push (seqObj "list" vs.toArray 0)).get? s'.heap.objs.size=some (seqObj "list" vs.toArray 0):=abp _ rfl;refine aaK (ai4 (wpAny_call_entry slot_list_sort #[_,Cz,rfl] entry_list_sort (list_sort_tree Cz hI mD λout fU a1 a2 a3=>#[_,rfl,?_]) (args_list_sort _)));apply acp (h out fU a1 a2 a3)
end
section
variable{X:Cx}
theorem Mv:∀{ks:List Int}{ao:List (Key×Value)}{vs:List Value},ao.map (·.1)=ks.map Sum.inl->vs.length=ao.length->(∀(i:Nat) v,vs[i]? = some v->∃k x,ao[i]? = some (k,x)/\(gO P w).is k v=true)->IntsAre vs ks
 |[],[],vs,_,hl,_=>by cases vs with
  |nil=>apply .nil
  |cons _ _=>simp at hl
 |[],_::_,_,e,_,_=>by simp at e
 |_::_,[],_,e,_,_=>by simp at e
 |k::ks,(q,x)::ao,vs,e,hl,h=>by
  simp only[aar,ahr] at e;let#[rfl,e]:=e;cases vs with
  |nil=>simp at hl
  |cons v vs=>
   let#[k',x',e0,hk]:=h 0 v rfl;have YB:=abH e0;ext YB;rcases mO (show tL (Sum.inl k) v=true from hk) with⟨i,t,e1,e2⟩|⟨y,t,e1,e2⟩
   .cases e1;subst e2;apply .cons k t (Mv e (by simpa using hl) λi v hv=>h (i+1) v (by simpa using hv))
   .cases e1
def Ue(K:Fr):List V->Hp->VK->Prop:=λxs H Q=>∃(p:Addr) (ks:List Int),xs=[.ref p]/\ks.length<64/\((∃ao:List (Key×V),H p=some (.dK ao)/\ao.map (·.1)=ks.map Sum.inl)\/cH K H p (ks.map V.int))/\
 ∀(l:Addr) (o7:List Int),H l=none->o7.Perm ks->o7.Pairwise (·<=·)->Q (.ref l) (upd H l (.lst (o7.map V.int)))
def aba(hc:X.calm=true):ic X (.builtin "sorted") (Ue X.K):=by
 intro af s U H xs us Q I r h;let#[p,ks,rfl,mD,HL,q]:=h;let#[u,rfl,ru]:=vals1 r;ext ru;have fin:∀(vs:List Value) (s':Shared),s.heap.objs.size<=s'.heap.objs.size->(∀b o,s.heap.get? b=some o->s'.heap.get? b=some o)->s'.gens=s.gens->s'.drawn=s.drawn->s'.os=s.os->∀(out:Array Value) (fU:List Int),IntsAre out.toList fU->fU.Perm ks->fU.Pairwise (·<=·)->
   EP X af U Q (.ref s'.heap.objs.size) { s' with heap:=sortedHeap (s'.heap.push (seqObj "list" vs.toArray 0)) s'.heap.objs.size vs out }:=by
  intro vs s' hle hk e1 e2 e3 out fU a1 a2 a3;let#[h',g',d',t',o']:=s';dsimp only at e1 e2 e3 hk hle;subst e1 e2 e3;let#[e,he]:=sortedHeap_at (show(h'.push (seqObj "list" vs.toArray 0)).get? h'.objs.size=some (seqObj "list" vs.toArray 0) from abp _ rfl);have hlen:fU.length<64:=by rw[a2.length_eq];apply mD
  refine#[.ref h'.objs.size,upd H h'.objs.size (.lst (fU.map V.int)),I.laid (λb o eb=>?_) hle ?_,rfl,q _ fU (I.aM.fresh hle) a2 a3]
  .have hb:b<h'.objs.size:=abb (hk b o eb);rw[sortedHeap_old (aco hb) (by rw[ajn];apply ajQ hb)];apply aaq _ (hk b o eb)
  .exact#[by rw[List.length_map];apply agF (z8 (by omega)),out.toList,e,Kl a1,by rw[he]]
 have hh:X.A.handled=none:=I.ok.hd hc;refine VS λQ' RS=>?_
 rcases HL with⟨ao,hp,hk⟩|hp
 .let#[hz,hd,vs,rel,dd]:=Td I.aM hp;refine aiz hh hd dd (by rw[<- rel.length];apply hz) λs' acc hle kp e1 e2 e3 it=>RS _ s' #[#[ks,?_,λout fU a1 a2 a3=>fin _ s' hle kp e1 e2 e3 out fU a1 a2 a3],?_]
  .refine Mv (by rw[<- rel.keys];apply hk) (by rw[agm];apply it.1) λi v hv=>it.2 i v (by rw[<- Array.getElem?_toList];apply hv)
  .rw[agm,it.1,<- rel.length];have:=congrArg List.length hk;rw[List.length_map,List.length_map] at this;omega
 .let#[ay,rv,pl,hz]:=I.list hp;have hi:=intsAre_of rv;have k1:s.heap.objs.size<=((s.heap.push (seqObj "list" ([].toArray) 0)).update s.heap.objs.size (Obj.mapSeq (·++ay.toArray))).objs.size:=by
   rw[Heap.size_update,ajn];apply ahv _
  have k2:∀b o,s.heap.get? b=some o->((s.heap.push (seqObj "list" ([].toArray) 0)).update s.heap.objs.size (Obj.mapSeq (·++ay.toArray))).get? b=some o:=λb o e=>
   (ae6 _ _ (ah7 (abb e))).trans (aaq _ e)
  refine collect_list pl.isList (RS _ _ #[#[ks,hi,λout fU a1 a2 a3=>fin ay { s with heap:=(s.heap.push (seqObj "list" ([].toArray) 0)).update s.heap.objs.size (Obj.mapSeq (·++ay.toArray)) } k1 k2 rfl rfl rfl out fU a1 a2 a3],?_]) (by rw[<- rv.length];apply hz);rw[<- rv.length,List.length_map];apply mD
end
def aiR(a d:Value):argsOk "min" #[[a],[("default",d)]]:=by unfold argsOk;kernel_rfl
def BD:(toString "min"++toString ".loop":String)="min.loop":=by decide
def ahh(W:Walks prog w A.in1 it dw jJ n P T)(bt:Nat->Nat->Bool)(Kn:CmpOf prog w A.in1 .Lt P bt)(kw:List (Str×Value))(B:Addr)(hB:B∉dw):
  ∀(k j) (s) (vb) (c),n-(j+1)=k->j+1<=n->T (j+1) s.heap->P (argBest bt j) vb->s.heap.get? B=some { cls:=.type "list",dict:=none,data:=.seq ([vb,vb].toArray) c,slots:=([].toArray) }->
   (∀v h' tk,P (argBest bt (n-1)) v->(∀b o,b∉jJ->b≠B->s.heap.get? b=some o->h'.get? b=some o)->R (.ok (.ret v)) { s with heap:=h',toks:=tk })->
   codeAny (model prog w) A (.builtin "min.loop" #[[.ref it,.none,.ref B],kw]) R s:=by
 have nB:B∉jJ:=λm=>hB (W.sub _ m)
 intro k
 induction k with
 |zero=>
  intro j s vb c e1 e2 st pb gB fin;have en:j+1=n:=by omega
  refine ahe F.entry_min_loop ?_;rw[af4 ai1 _];refine aaK (wpAny_seqItems gB rfl ?_);refine aaK (ajz (W.done s _ _ (en ▸ st) λh1 t1 kp=>?_));have rQ:=kp B _ nB gB;refine aaK (ajO rQ rfl (aaK (wpAny_letGo (acp ?_))));apply fin vb _ t1 (by rw[<- en];apply pb) λb o m1 m2 e=>(ae6 _ _ (ahc m2)).trans (kp b o m1 e)
 |succ k ih=>
  intro j s vb c e1 e2 st pb gB fin;have lt:j+1<n:=by omega
  refine ahe F.entry_min_loop ?_;rw[af4 ai1 _];refine aaK (wpAny_seqItems gB rfl ?_);refine aaK (ajz (W.item (j+1) s _ _ lt st λv h1 t1 pv xE kp=>?_));have rQ:=kp B _ nB gB;show wpAny (model prog w) A.in1 (tryCatch (holding [v,v] (richCompare .Lt v vb >>= _)) _ >>= _) _ _ _;refine aaK (ajz (ai4 (aaK (Kn (j+1) (argBest bt j) v vb _ _ _ pv pb ?_))));refine aaK (ai4 (agz (aaK (wpAny_letGo (acp ?_)))));cases hb:bt (j+1) (argBest bt j) with
  |true=>
   simp only[if_true];refine aaK (ajO rQ rfl (aaK (wpAny_letGo ?_)));rw[BD];refine acp #[ajb ai1 _,ih (j + 1) _ v _ (by omega) lt (W.frame _ _ _ xE λb m o e=>(ae6 _ _ (λz:B=b=>hB (by rw[z];apply m))).trans e)
    (by simp only[argBest,hb,if_true];apply pv) (ai7 _ rQ rfl) λv2 h2 t2 p2 k2=>?_]
   apply fin v2 h2 t2 p2 λb o m1 m2 e=>k2 b o m1 m2 ((ae6 _ _ (ahc m2)).trans (kp b o m1 e))
  |false=>
   simp only[aja,if_false];refine aaK (wpAny_letGo ?_);rw[BD];refine acp #[ajb ai1 _,ih (j+1) _ vb c (by omega) lt xE (by simp only[argBest,hb,aja,if_false];apply pb) rQ λv2 h2 t2 p2 k2=>?_];apply fin v2 h2 t2 p2 λb o m1 m2 e=>k2 b o m1 m2 (kp b o m1 e)
def aep(W:Walks prog w A.in1 it dw jJ n P T)(bt:Nat->Nat->Bool)(Kn:CmpOf prog w A.in1 .Lt P bt)(key:Str)(dv:Value)(B:Addr)(hB:B∉dw){s:Shared}{c:Nat}(st:T 0 s.heap)
  (gB:s.heap.get? B=some { cls:=.type "list",dict:=none,data:=.seq ([].toArray) c,slots:=([].toArray) })
  (fin:∀v h' tk,(n=0/\v=dv\/0<n/\P (argBest bt (n-1)) v)->(∀b o,b∉jJ->b≠B->s.heap.get? b=some o->h'.get? b=some o)->R (.ok (.ret v)) { s with heap:=h',toks:=tk }) :
  codeAny (model prog w) A (.builtin "min.loop" #[[.ref it,.none,.ref B],[(key,dv)]]) R s:=by
 have nB:B∉jJ:=λm=>hB (W.sub _ m)
 refine ahe F.entry_min_loop ?_;rw[af4 ai1 _];refine aaK (wpAny_seqItems gB rfl ?_)
 by_cases hn:0<n
 .refine aaK (ajz (W.item 0 s _ _ hn st λv h1 t1 pv xE kp=>?_));have rQ:=kp B _ nB gB;show wpAny (model prog w) A.in1 (updateSeq B (λ_=>([v,v].toArray)) >>= _) _ _ _;refine aaK (ajO rQ rfl ?_);rw[BD];refine acp #[ajb ai1 _,ahh W bt Kn _ B hB _ 0 _ v _ rfl hn (W.frame _ _ _ xE λb m o e=>(ae6 _ _ (λz:B=b=>hB (by rw[z];apply m))).trans e) pv (ai7 _ rQ rfl) λv2 h2 t2 p2 k2=>?_];apply fin v2 h2 t2 (.inr #[hn,p2]) λb o m1 m2 e=>k2 b o m1 m2 ((ae6 _ _ (ahc m2)).trans (kp b o m1 e))
 .have en:n=0:=by lia
  refine aaK (ajz (W.done s _ _ (en ▸ st) λh1 t1 kp=>?_));apply aaK (wpAny_rule (acp (fin dv h1 t1 (.inl #[en,rfl]) λb o m1 _ e=>kp b o m1 e)))
def afV{id:String}{b:Builtin}{kw:List (Str×Value)}(hk:builtinKind id=none)(hp:plainId id=true)(hb:entryFor table id=some b)(ha:argsOk id #[args,kw])
  (hc:wpAny (model prog w) A.in1 (b #[args,kw]) (λfin s'=>match fin with
   |.done f=>(match(Except.ok f:Result) with|.ok (.ret v)=>Q v s'|.ok _=>False|.error e=>E e s')
   |.again c=>c.quiet=true/\codeAny (model prog w) A c (λr s'=>match r with|.ok (.ret v)=>Q v s'|.ok _=>False|.error e=>E e s') s') E s):wpAny (model prog w) A (call (.builtin id) args kw) Q E s:=by
 refine wpAny_call (codeAny_call_builtin hp hb ?_);simp only[checkBuiltinCall,hk];cases afZ:Manifest.signature? id with
 |none=>apply acp hc
 |some sig=>
  have h2:Bind.checkArgs id sig #[args,kw]=pure ():=by simpa only[argsOk,afZ] using ha
  simp only[h2];apply acp hc
theorem Na:∀{vs} {ns} {i} {v},IntsAre vs ns->vs[i]? = some v->∃t,v=Value.int (ns.getD i 0) t
 |_,_,_,_,.nil,e=>by simp at e
 |_,_,0,_,.cons n t h,e=>by
  have e':=abH e;subst e';apply#[t,rfl]
 |_,_,i+1,v,.cons n t h,e=>by
  let#[u,eu]:=Na h (by simpa using e);apply#[u,by simpa using eu]
def af6{ns:List Int}(h:i<ns.length):ns.getD i 0∈ns:=by
 rw[adM,aa8 h];apply List.getElem_mem h
def ab9{l:Addr}{vs:List Value}{ns:List Int}{dv:Value}{Q:Value->Shared->Prop}(hh:A.handled=none)(hl:s.heap.IsList l vs.toArray)(hi:IntsAre vs ns)
  (fin:∀v h' tk,(ns=[]/\v=dv\/∃m t,v=.int m t/\m∈ns/\∀x∈ns,m<=x)->(∀b o,s.heap.get? b=some o->h'.get? b=some o)->Q v { s with heap:=h',toks:=tk }) :
  wpAny (model prog w) A (call (.builtin "min") [.ref l] [("default",dv)]) Q E s:=by
 refine afV F.kind_min F.plain_min F.entry_min (aiR _ _) ?_;refine aaK (wpAny_of_eq (show Builtin.Builtins.bindParams "min" ["key","default"] 0 #[[],[("default",dv)]]=pure [none,some dv] from rfl) ?_);refine aaK (acp (aaK (wpAny_pyIter_list hl ?_)));refine aaK (aib ?_);rw[BD];have SO:l<s.heap.objs.size:=let#[_,ho,_]:=hl;abb ho
 have hsz:(s.heap.push { cls:=.type "list_iterator",data:=.fields ([.ref l,.int 0 0].toArray) }).objs.size=s.heap.objs.size+1:=ajn ..;have hv:∀(i) (v),vs.toArray[i]? = some v->∃t,v=Value.int (ns.getD i 0) t:=λi v e=>Na hi (by simpa using e)
 have hlen:=hi.length;generalize yf:s.heap.push { cls:=.type "list_iterator",data:=.fields ([.ref l,.int 0 0].toArray) }=h1 at *;have g1:h1.get? s.heap.objs.size=some { cls:=.type "list_iterator",data:=.fields ([.ref l,.int 0 0].toArray) }:=by rw[<- yf];apply abp _ rfl
 have old:∀b o,s.heap.get? b=some o->h1.get? b=some o:=λb o e=>by rw[<- yf];apply aaq _ e
 have nl:=aco SO;have W:=Walks.list (prog:=prog) (w:=w) (A:=A.in1.in1) hh s.heap.objs.size l nl vs.toArray;have hB:h1.objs.size∉[s.heap.objs.size,l]:=by
  intro m;rcases aaA.mp m with z|z
  .rw[hsz] at z;apply absurd z (ah7 (aiV _))
  .have z:=aaD.mp z;rw[hsz] at z;apply absurd z (ah7 (ajQ SO))
 refine acp #[ajb ai1 _,aep W.of_in1 (λi j=>decide (ns.getD i 0<ns.getD j 0)) (CmpOf.ints_lt (λi=>ns.getD i 0) hv) _ dv h1.objs.size hB ?_ (abp _ rfl) λv h' tk A7 kp=>?_]
 .exact#[#[_,aaq _ g1,rfl,rfl],hl.at λo e=>aaq _ (old l o e)]
 .refine fin v h' tk ?_ λb o e=>kp b o ?_ ?_ (aaq _ (old b o e))
  .have cV:vs.toArray.size=ns.length:=by rw[abF,hlen]
   rw[cV] at A7;rcases A7 with⟨h0,e⟩|⟨h0,pv⟩
   .exact .inl #[List.eq_nil_of_length_eq_zero h0,e]
   .let#[t,e]:=hv _ v pv;let#[a1,a2]:=argBest_lt (λi=>ns.getD i 0) (ns.length-1);refine .inr #[_,t,e,af6 (by omega),λx hx=>?_];let#[j,hj,rfl]:=List.getElem_of_mem hx;have:=a2 j (by omega);rw[show ns[j]=ns.getD j 0 by rw[adM,aa8 hj];rfl];apply this
  .intro m;apply absurd (abb e) (by rw[aaD.mp m];apply agg _)
  .intro z;apply absurd (abb e) (by rw[z,hsz];apply Nat.not_lt.mpr (ahv _))
def aez(K:Fr)(ta td:TE):TE:=λU H Q=>ta U H λx H1=>td U H1 λy H2=>∃(l:Addr) (ns:List Int),x=.ref l/\cH K H2 l (ns.map V.int)/\((ns=[]/\Q y H2)\/ns≠[]/\∀m,m∈ns->(∀n∈ns,m<=n)->Q (.int m) H2)
def ahn{b:Expr}{kp:Pos}(hc:X.calm=true)(hm:X.mg "min"=none)(ha:PE X a ta)(hb:PE X b td)(hg:Gl X "min":=by rfl)(hs:starEach [a] X.env=[(false,eval a X.env)]:=by rfl)
  (h1:backTo pos (starEach [a] X.env)=(false,eval a X.env)::backTo pos (starEach [] X.env):=by rfl) (h2:(backTo pos (starEach [a] X.env)).any (·.1)=false:=by rfl)
  (h3:(backToKw pos (keywordEach [#[some "default",b,kp]] X.env)).all (·.1.isSome)=true:=by rfl) (h4:(backToKw pos (keywordEach [#[some "default",b,kp]] X.env)).any (·.1.isNone)=false:=by rfl)
  (h5:(backToKw pos (keywordEach [#[some "default",b,kp]] X.env)).filterMap (·.1)=[("default":Str)]:=by rfl) :
  PE X (.Call (.Name "min" p) [a] [#[some "default",b,kp]] pos) (aez X.K ta td):=by
 intro af s U H Q I h;refine agO (qw I hg hm (show bootBuiltins "min"=some (.builtin "min") by decide +kernel) ?_ (by decide) (by decide));refine callWith_kw ?_ h1 h2 h3 h4;rw[h5];refine xT (dX ha fT hs pos af s U H (λvs H1=>match vs with|[x]=>td U H1 λy H2=>∃(l:Addr) (ns:List Int),x=.ref l/\cH X.K H2 l (ns.map V.int)/\((ns=[]/\Q y H2)\/ns≠[]/\∀m,m∈ns->(∀n∈ns,m<=n)->Q (.int m) H2)|_=>False) I h) λus s1 vs H1 I1 rv q1=>?_
 rcases vs with _|⟨x,_|⟨x2,r2⟩⟩
 .exact q1.elim
 .let#[u,rfl,ru]:=vals1 rv;refine kws_cons (cX (hb af s1 U H1 _ I1 q1) ?_)
  rintro dv s2 ⟨y,H2,I2,ry,l,ns,ex,hq,q2⟩
  refine kws_nil ?_;subst ex;ext ru;let#[ay,ri,pl,hz]:=I2.list hq;refine ab9 (I2.ok.hd hc) pl.isList (intsAre_of ri) λv h' tk A7 kp=>?_
  rcases A7 with⟨en,ev⟩|⟨m,t,ev,oV,oG⟩
  .subst ev;rcases q2 with⟨_,q2⟩|⟨ne,_⟩
   .exact#[y,H2,I2.kept kp,ry,q2]
   .exact absurd en ne
  .subst ev;rcases q2 with⟨en,_⟩|⟨_,q2⟩
   .rw[en] at oV;ext oV
   .exact#[.int m,H2,I2.kept kp,#[t,rfl],q2 m oV oG]
 .exact q1.elim
end L2
namespace PySem
def afR:typeLookup (.type "list") "keys"=pure none:=by rw[typeLookup_type,builtinLookup_eq_fast];kernel_rfl
def abG:typeLookup (.type "tuple") "keys"=pure none:=by rw[typeLookup_type,builtinLookup_eq_fast];kernel_rfl
def WW(hx:s.heap.get? a=some { cls:=.type "list",dict:=none,data:=.seq xs k,slots:=sl })(hA:A.handled=none)
  (h:∀h' tk,(∀b o,s.heap.get? b=some o->h'.get? b=some o)->Q none { s with heap:=h',toks:=tk }):wpAny (model prog w) A (getAttr? (.ref a) "keys") Q E s:=by
 let#[hp,g,d,tk,os]:=s;have hT:∀uG,(#[hp,g,d,uG,os]:Shared).TypeIs (.ref a) "list":=λ_=>#[_,hx,rfl]
 have f1:=sub_AttributeError;have f3:=F.slot_list_getattribute.lookup;have f4:=F.slot_list_getattribute.bind (.ref a);have f5:=am_list_getattr_none;unfold getAttr? getAttrBy? getAttrBy
 repeat (any_goals (first|assumption|exact hT _|((with_reducible show wpAny _ _ (call (Value.builtin "list.__getattribute__") _ _) _ _ _);refine call_meets F.slot_list_getattribute (hT _) am_entry_list_getattribute (F.args_list_getattribute_2 _ _) (meets_getattribute_miss_list a xs k sl "keys" _ afR (by decide +kernel)) #[hx,hA,λh' uG e yz=>?_])|wp_step))
 let#[t',u',he]:=yz.there;unfold getattributeRaised
 repeat (any_goals (first|assumption|wp_step))
 all_goals apply h _ _ yz.keeps
def acd(hx:s.heap.get? a=some { cls:=.type "tuple",dict:=none,data:=.seq xs k,slots:=sl })(hA:A.handled=none)
  (h:∀h' tk,(∀b o,s.heap.get? b=some o->h'.get? b=some o)->Q none { s with heap:=h',toks:=tk }):wpAny (model prog w) A (getAttr? (.ref a) "keys") Q E s:=by
 let#[hp,g,d,tk,os]:=s;have hT:∀uG,(#[hp,g,d,uG,os]:Shared).TypeIs (.ref a) "tuple":=λ_=>#[_,hx,rfl]
 have f1:=sub_AttributeError;have f3:=F.slot_tuple_getattribute.lookup;have f4:=F.slot_tuple_getattribute.bind (.ref a);have f5:=am_tuple_getattr_none;unfold getAttr? getAttrBy? getAttrBy
 repeat (any_goals (first|assumption|exact hT _|((with_reducible show wpAny _ _ (call (Value.builtin "tuple.__getattribute__") _ _) _ _ _);refine call_meets F.slot_tuple_getattribute (hT _) am_entry_tuple_getattribute (F.args_tuple_getattribute_2 _ _) (meets_getattribute_miss_tuple a xs k sl "keys" _ abG (by decide +kernel)) #[hx,hA,λh' uG e yz=>?_])|wp_step))
 let#[t',u',he]:=yz.there;unfold getattributeRaised
 repeat (any_goals (first|assumption|wp_step))
 all_goals apply h _ _ yz.keeps
end PySem
namespace L2
open PySem PySem.Spec PyProof.Rows
def Cs:plainId "dict.update.loop"=true:=by decide +kernel
def Si:entryFor table "dict.update.loop"=some Builtin.«dict.update.loop»:=entryFor_of_fast (by kernel_rfl)
def pairAt{prog:Program}{w:World}{κ:Type}[DecidableEq κ](knd:KeyKind prog w κ)(h:Heap)(no:List Addr)(v:Value)(p:κ×Value):Prop:=∃a key,v=.ref a/\a∉no/\IsTup h a ([key,p.2].toArray)/\knd.is p.1 key=true
section
variable[DecidableEq κ]{knd:KeyKind prog w κ}
def abf(W:Walks prog w A.in1 it dw jJ n P T)(hd:d∉dw)(h0:Heap)(ps:List (κ×Value))(hn:ps.length=n)(hP:∀i v,P i v->∃p,ps[i]? = some p/\pairAt knd h0 (d::jJ) v p)(res:Value):
  ∀(k i) (s) (m) (LW),n-i=k->i<=n->T i s.heap->s.heap.DictOf knd d m->m.length+(n-i)<=sizeLine->(∀b o,b∉d::jJ->h0.get? b=some o->s.heap.get? b=some o)->
   (∀h' tk,h'.DictOf knd d ((ps.drop i).foldl (λm p=>stored m p.1 p.2) m)->(∀b o,b∉d::jJ->h0.get? b=some o->h'.get? b=some o)->R (.ok (.ret res)) { s with heap:=h',toks:=tk })->
   codeAny (model prog w) A (.builtin "dict.update.loop" #[[.ref d,.ref it,.int i LW,res],[]]) R s:=by
 have nd:d∉jJ:=λm=>hd (W.sub _ m)
 intro k
 induction k with
 |zero=>
  intro i s m LW e1 e2 st dm hz kp fin;have en:i=n:=by lia
  subst en;refine ahe Si ?_;rw[af4 Cs _];refine aaK (W.done s _ _ st λh1 t1 k1=>?_);refine aaK (acp (acp (fin h1 t1 ?_ λb o mb e=>k1 b o (λz=>mb (aaf _ z)) (kp b o mb e))));rw[List.drop_eq_nil_of_le (by lia)];let#[o,es,ep,ho,r]:=dm;apply#[o,es,ep,k1 d o nd ho,r]
 |succ k ih=>
  intro i s m LW e1 e2 st dm hz kp fin;have lt:i<n:=by lia
  refine ahe Si ?_;rw[af4 Cs _];refine aaK (W.item i s _ _ lt st λv h1 t1 pv xE k1=>?_);let#[p,ep,a,key,rfl,na,Zt,zY]:=hP i v pv;have dm1:h1.DictOf knd d m:=by
   let#[o,es,ep,ho,r]:=dm;apply#[o,es,ep,k1 d o nd ho,r]
  let#[oa,hoa,hca,na',hda]:=Zt;have ga:=k1 a oa (λz=>na (aaf _ z)) (kp a oa na hoa);refine aaK (ai4 ?_);refine aaK (ajz ?_);unfold Builtin.Dict.pairItems;refine aaK (wpAny_typeOf #[oa,ga,hca] ?_);rw[if_pos (by decide)];refine aaK (wpAny_seqItems ga hda (acp ?_));refine ai4 (wpAny_dictSet_pairs zY dm1 (λh2 V4 sb=>?_) (by lia));have Nl:∀b o,b≠d->h1.get? b=some o->h2.get? b=some o:=λb o hb e=>(sb.2 b hb).trans e
  have uC:=W.frame _ _ _ xE λb mb o e=>Nl b o (λz=>hd (by rw[<- z];apply mb)) e
  have mQ:(stored m p.1 p.2).length<=m.length+1:=by
   unfold stored
   split
   .rw[List.length_map];apply ahv _
   .rw[aaY];apply abi _
  refine acp #[ajb Cs _,?_];refine ih (i+1) _ (stored m p.1 p.2) 0 (by lia) lt uC V4 (by lia) (λb o mb e=>Nl b o (λz=>mb (by rw[z];apply aah)) (k1 b o (λz=>mb (aaf _ z)) (kp b o mb e))) λh3 t3 G5 k3=>?_
  refine fin h3 t3 ?_ k3;have hi:i<ps.length:=by lia
  have AW:ps[i]=p:=by rw[aa8 hi] at ep;apply abH ep
  rw[ajA hi,afz,AW];apply G5
def PZ(ps:List (κ×Value))(hz:ps.length<=sizeLine)(T0:String)(hT0:(Value.type T0 != Value.type "dict")=true)
  (L6:∀o,({ s with heap:=s.heap.push o }:Shared).TypeIs x T0)
  (hk:∀(o) (Q') (E'),(∀h' tk,(∀b ob,(s.heap.push o).get? b=some ob->h'.get? b=some ob)->Q' none { s with heap:=h',toks:=tk })->wpAny (model prog w) A.in1.in1 (getAttr? x "keys") Q' E' { s with heap:=s.heap.push o })
  (hi:∀(s2) (Q') (E'),(∀b ob,s.heap.get? b=some ob->s2.heap.get? b=some ob)->(∃o,s2.heap.get? s.heap.objs.size=some o)->
   (∀I dw jJ n P T h3,Walks prog w A.in1.in1 I dw jJ n P T->T 0 h3->ps.length=n->s.heap.objs.size∉dw->(∀b ob,s2.heap.get? b=some ob->h3.get? b=some ob)->(∀b∈jJ,s.heap.get? b=none)->(∀i v,P i v->∃p,ps[i]? = some p/\pairAt knd s.heap (s.heap.objs.size::jJ) v p)->Q' (.ref I) { s2 with heap:=h3 })->
   wpAny (model prog w) A.in1.in1 (pyIter x) Q' E' s2)
  (h:∀h' tk,h'.DictOf knd s.heap.objs.size (ps.foldl (λm p=>stored m p.1 p.2) [])->(∀b o,s.heap.get? b=some o->h'.get? b=some o)->Q (.ref s.heap.objs.size) { s with heap:=h',toks:=tk }) :
  wpAny (model prog w) A (call (.type "dict") [x]) Q E s:=by
 refine callType_codes (Q₁:=λobj cL=>obj=.ref s.heap.objs.size/\cL={ s with heap:=s.heap.push { cls:=.type "dict",data:=.dict ([].toArray) } }) F.kt_called_dict (F.kt_typeCall_dict_1 _) F.entry_dict_init (kt_code_dict_new _ #[rfl,rfl]) ?_
 rintro obj cL ⟨rfl,rfl⟩
 have HX:(s.heap.push { cls:=.type "dict",data:=.dict ([].toArray) }).DictOf knd s.heap.objs.size []:=Heap.DictOf.new s.heap;refine#[HX.typeIs,F.args_dict_init_2 _ _,?_];unfold Builtin.«dict.__init__»;refine aaK ?_;unfold Builtin.Dict.selfAndRest;refine aaK (wpAny_notOrdered_dict HX.typeIs ?_);refine acp ?_;show wpAny (model prog w) _ (Builtin.Dict.updateFrom "dict.__init__" s.heap.objs.size x [] .none) _ _ _;unfold Builtin.Dict.updateFrom;refine aaK (wpAny_typeOf (L6 _) ?_);rw[if_pos hT0];refine aaK (hk _ _ _ λh1 t1 k1=>?_);refine aaK (wpAny_rule (aaK ?_));have o1:∀b ob,s.heap.get? b=some ob->h1.get? b=some ob:=λb ob e=>k1 b ob (aaq _ e)
 refine hi { s with heap:=h1,toks:=t1 } _ _ o1 #[_,k1 _ _ (abp _ rfl)] (λI dw jJ n P T h3 W st hn hd k3 hw hP=>?_);have G5:h3.DictOf knd s.heap.objs.size []:=by
  let#[o,es,ep,ho,r]:=HX;apply#[o,es,ep,k3 _ o (k1 _ o ho),r]
 refine acp #[ajb Cs _,abf W hd s.heap ps hn hP .none n 0 _ [] 0 rfl (aeQ _) st G5 (by rw[List.length_nil];lia) (λb o _ e=>k3 b o (o1 b o e)) λh4 t4 Wc k4=>?_];refine#[rfl,h h4 t4 (by simpa using Wc) λb o e=>k4 b o (λm=>?_) e];rcases aaA.mp m with z|z
 .exact absurd (abb e) (by rw[z];apply agg _)
 .rw[hw b z] at e;ext e
end
theorem To[DecidableEq κ]:∀{ps} {qs} {m}{r:List (κ×Value)},KV ps qs->KV m r->KV (ps.foldl (λm p=>putK m p.1 p.2) m) (qs.foldl (λm p=>stored m p.1 p.2) r)
 |_,_,_,_,.nil,h=>h
 |_,_,_,_,.cons (a:=p) e t,h=>by
  rw[afz,afz];refine To t ?_;rw[<- e.1];apply h.put p.1 e.2
def E4(K:Fr):List V->Hp->VK->Prop:=λxs H Q=>∃(p:Addr) (ys:List V) (ps:List (Key×V)),xs=[.ref p]/\(cH K H p ys\/cO K H p ys)/\Paired (λy (q:Key×V)=>∃a,y=.ref a/\cO K H a [kV q.1,q.2]) ys ps/\
 ∀l,H l=none->Q (.ref l) (upd H l (.dK (ps.foldl (λm q=>putK m q.1 q.2) [])))
theorem F9(I:Inv X af U H s):∀{ys} {ps} {ay},Paired (λy (q:Key×V)=>∃a,y=.ref a/\cO X.K H a [kV q.1,q.2]) ys ps->aW ys ay->
  ∃qs:List (Key×Value),KV ps qs/\∀(i:Nat) (v),ay[i]? = some v->∃q,qs[i]? = some q/\∃a key,v=.ref a/\IsTup s.heap a ([key,q.2].toArray)/\(gO X.prog X.w).is q.1 key=true
 |_,_,_,.nil,.nil=>#[[],.nil,λi v e=>by simp at e]
 |_,_,_,.cons (b:=q) #[a,ey,hr] t,.cons (b:=u) r rs=>by
  let#[qs,h1,h2]:=F9 I t rs;subst ey;ext r;let#[us,ru,pt,_]:=I.tuple hr;let#[key,x,rfl,rk,rx]:=vals2 ru;refine#[(q.1,x)::qs,.cons #[rfl,rx] h1,λi v e=>?_];cases i with
  |zero=>
   have e':=abH e;subst e';apply#[_,rfl,a,key,rfl,pt,sV rk]
  |succ i=>
   let#[q',e1,e2]:=h2 i v (by simpa using e);apply#[q',by simpa using e1,e2]
def acX(hc:X.calm=true):ic X (.type "dict") (E4 X.K):=by
 intro af s U H xs us Q I r h;let#[p,ys,ps,rfl,HL,s_,q]:=h;let#[u,rfl,ru]:=vals1 r;ext ru;have hh:=I.ok.hd hc;have big:=I.big;have fin:∀(ay:List Value) (qs:List (Key×Value)),KV ps qs->ys.length<=sizeLine->∀h' tk,h'.DictOf (gO X.prog X.w) s.heap.objs.size (qs.foldl (λm p=>stored m p.1 p.2) [])->(∀b o,s.heap.get? b=some o->h'.get? b=some o)->
   EP X af U Q (.ref s.heap.objs.size) { s with heap:=h',toks:=tk }:=by
  intro ay qs pK hz h' tk dm kp;have rel:=To pK .nil;have uM:∀(l:List (Key×V)) (m),(l.foldl (λm q=>putK m q.1 q.2) m).length<=m.length+l.length:=by
   intro l
   induction l with
   |nil=>intro m;apply abi _
   |cons a l ih=>
    intro m;rw[afz];have h1:=ih (putK m a.1 a.2);have h2:=F3 m a.1 a.2;rw[abZ]
    lia
  have hl:=(Paired.length s_).symm;refine#[.ref s.heap.objs.size,_,I.laid kp (abi _) (Io ?_ (ae0.mpr (ahc (aco big))) rel dm),rfl,q _ (I.aM.fresh (abi _))];have:=uM ps [];rw[List.length_nil] at this
  lia
 have El:∀{qs},KV ps qs->qs.length=ys.length:=λh=>by rw[<- h.length];apply(Paired.length s_).symm
 have qJ:∀{s2:Shared},(∃o,s2.heap.get? s.heap.objs.size=some o)->s.heap.objs.size<s2.heap.objs.size:=λ⟨_,e⟩=>abb e
 rcases HL with hq|hq
 .let#[ay,rv,pl,hz]:=I.list hq;let#[qs,pK,qB]:=F9 I s_ rv;let#[o,n,ho,lJ,Az,pS]:=pl;have hp:=abb ho;refine PZ qs (by rw[El pK];apply hz) "list" (by decide) (λob=>#[o,aaq _ ho,lJ]) (λob Q' E' k=>?_) (λs2 Q' E' o2 hS k=>?_) (λh' tk dm kp=>fin ay qs pK hz h' tk dm kp)
  .let#[c0,d0,Zn,sl0]:=o;dsimp only at lJ Az pS;subst lJ Az pS;apply WW (aaq _ ho) hh λh1 t1 kp=>k h1 t1 kp
  .have mQ:s2.heap.IsList p ay.toArray:=#[o,o2 p o ho,lJ,n,pS]
   refine wpAny_pyIter_list mQ (k s2.heap.objs.size [s2.heap.objs.size,p] [s2.heap.objs.size] _ _ _ _ (Walks.list (A:=X.A.in1.in1) hh s2.heap.objs.size p (aco (Nat.lt_trans hp (qJ hS))) ay.toArray) #[#[_,abp _ rfl,rfl,rfl],mQ.push _] (by rw[El pK,abF,<- rv.length]) ?_ (λb ob e=>aaq _ e) ?_ λi v e=>?_)
   .intro m;rcases aaA.mp m with z|z
    .exact absurd z (aco (qJ hS))
    .exact absurd (aaD.mp z) (ah7 hp)
   .intro b m;rw[aaD.mp m];apply ajy (agF (qJ hS))
   .let#[q',e1,a,key,e2,e3,e4]:=qB i v (by simpa using e);refine#[q',e1,a,key,e2,λm=>?_,e3,e4];let#[oa,ha,_]:=e3;rcases aaA.mp m with z|z
    .exact absurd (abb ha) (by rw[z];apply agg _)
    .exact absurd (abb ha) (by rw[aaD.mp z];apply Nat.not_lt.mpr (agF (qJ hS)))
 .let#[ay,rv,#[o,ho,lJ,Az,n,pS],hz]:=I.Om hq;let#[qs,pK,qB]:=F9 I s_ rv;have hp:=abb ho;refine PZ qs (by rw[El pK];apply hz) "tuple" (by decide) (λob=>#[o,aaq _ ho,lJ]) (λob Q' E' k=>?_) (λs2 Q' E' o2 hS k=>?_) (λh' tk dm kp=>fin ay qs pK hz h' tk dm kp)
  .let#[c0,d0,Zn,sl0]:=o;dsimp only at lJ Az pS;subst lJ Az pS;apply acd (aaq _ ho) hh λh1 t1 kp=>k h1 t1 kp
  .have mQ:s2.heap.IsTuple p ay.toArray:=#[o,o2 p o ho,lJ,n,pS]
   refine wpAny_pyIter_tuple mQ (k s2.heap.objs.size [s2.heap.objs.size,p] [s2.heap.objs.size] _ _ _ _ (Walks.tuple (A:=X.A.in1.in1) hh s2.heap.objs.size p (aco (Nat.lt_trans hp (qJ hS))) ay.toArray) #[#[_,abp _ rfl,rfl,rfl],mQ.push _] (by rw[El pK,abF,<- rv.length]) ?_ (λb ob e=>aaq _ e) ?_ λi v e=>?_)
   .intro m;rcases aaA.mp m with z|z
    .exact absurd z (aco (qJ hS))
    .exact absurd (aaD.mp z) (ah7 hp)
   .intro b m;rw[aaD.mp m];apply ajy (agF (qJ hS))
   .let#[q',e1,a,key,e2,e3,e4]:=qB i v (by simpa using e);refine#[q',e1,a,key,e2,λm=>?_,e3,e4];let#[oa,ha,_]:=e3;rcases aaA.mp m with z|z
    .exact absurd (abb ha) (by rw[z];apply agg _)
    .exact absurd (abb ha) (by rw[aaD.mp z];apply Nat.not_lt.mpr (agF (qJ hS)))
end L2
namespace L2.Ev
open PySem PySem.Spec PyProof.Rows
structure VA(X:Cx)(i:Nat)(x:Str):Prop where
 N:X.N[i]? = some x
 v:Bp X.env.scope x
 d:(x==("__debug__":Str))=false
 c:(x==("__classdict__":Str))=false
def VA.pe(h:VA X i x):PE X (.Name x p) (qC i):=JF h.N h.v h.d h.c
def sR(X:Cx)(o:Expr)(m:Str)(apos:Pos)(as:List Expr)(pos:Pos)(pl:Sem Bool):Prop:=eval (.Call (.Attribute o m apos) as [] pos) X.env=(do
   let ov <- eval o X.env
   standAt apos.atName
   let(f,first) <- holding [ov] (getMethod ov m pl)
   callWith pos f first (backTo pos (starEach as X.env)) (backToKw pos (keywordEach [] X.env)))
def SE(X:Cx)(e:Expr)(es:List Expr)(pos:Pos):Prop:=starEach (e::es) X.env=(false,eval e X.env)::starEach es X.env/\(backTo pos (starEach es X.env)).any (·.1)=false
def GD(X:Cx)(x:Str):Prop:=Gl X x/\(x==("__debug__":Str))=false
abbrev XN:=Str×Option Nat
inductive D where
 |aJ|bl (b:Bool)|int (i:Int)|str (x:Str)|tup (ds:List D)|lst (ds:List D)|c_ (ds:List D)|b_ (ao:List (Key×D))|fY (ao:List (List Key×D))|ins (cn:Str) (fs:List (Str×D))|exc (cn:XN)
def rG(K:Fr)(H:Hp)(a:Addr)(xs:List V):Prop:=(∃o,H a=some (.cR o (.lst xs)))\/
 ∃(o:Obj) (ay:Array Value) (n:Nat),K.lookup a=some o/\o.cls=.type "list"/\o.dict=none/\o.data=.seq ay n/\ay.size<=sizeLine/\aW xs ay.toList
def rG.sq{K:Fr}(h:rG K H a xs):cH K H a xs:=h.elim (λz=>.inl (.inr z)) .inr
mutual
inductive Rep(K:Fr)(H:Hp):D->V->List Addr->Prop
 |aJ:Rep K H .aJ .aJ []
 |bl (b:Bool):Rep K H (.bl b) (.bl b) []
 |int (i:Int):Rep K H (.int i) (.int i) []
 |str (x:Str):Rep K H (.str x) (.str x) []
 |tup {a:Addr}{xs:List V}{ds:List D}{fp:List Addr}:cO K H a xs->aH K H ds xs fp->Rep K H (.tup ds) (.ref a) fp
 |lst {a:Addr}{xs:List V}{ds:List D}{fp:List Addr}:H a=some (.lst xs)->aH K H ds xs fp->Rep K H (.lst ds) (.ref a) (a::fp)
 |yW {a:Addr}{xs:List V}{ds:List D}{fp:List Addr}:rG K H a xs->aH K H ds xs fp->Rep K H (.c_ ds) (.ref a) fp
 |b_ {a:Addr}{ao:List (Key×V)}{es:List (Key×D)}{fp:List Addr}:H a=some (.dK ao)->es.map (·.1)=ao.map (·.1)->aH K H (es.map (·.2)) (ao.map (·.2)) fp->Rep K H (.b_ es) (.ref a) (a::fp)
 |fY {a:Addr}{ao:List (List Key×V)}{es:List (List Key×D)}{fp:List Addr}:H a=some (.dT ao)->es.map (·.1)=ao.map (·.1)->aH K H (es.map (·.2)) (ao.map (·.2)) fp->Rep K H (.fY es) (.ref a) (a::fp)
 |ins {cn:Str}{a C dx:Addr}{fs:List (Str×V)}{es:List (Str×D)}{fp:List Addr}:PySem.W.nsIn K mainGlobals cn=some (some (.ref C))->H a=some (.ins C dx fs)->H dx=some (.own a)->es.map (·.1)=fs.map (·.1)->aH K H (es.map (·.2)) (fs.map (·.2)) fp->Rep K H (.ins cn es) (.ref a) (a::dx::fp)
 |exc {cn:XN}{a C:Addr}{de:Option Addr}{ob:Obj}:PySem.W.nsIn K mainGlobals cn.1=some (some (.ref C))->H a=some (Jz ob a (.ref C) de)->(∀n,cn.2=some n->∃dx,de=some dx/\H dx=some (Lb dx n))->Rep K H (.exc cn) (.ref a) []
inductive aH(K:Fr)(H:Hp):List D->List V->List Addr->Prop
 |nil:aH K H [] [] []
 |cons {d:D}{v:V}{ds:List D}{vs:List V}{f1 f2:List Addr}:Rep K H d v f1->aH K H ds vs f2->aH K H (d::ds) (v::vs) (f1++f2)
end
def bf(H H':Hp):Prop:=(∀a xs,H a=some (.tup xs)->H' a=some (.tup xs))/\(∀a o u,H a=some (.cR o u)->H' a=some (.cR o u))/\∀a φ,H a=some (.ext φ)->H' a=some (.ext φ)
def bf.M6{K:Fr}(i:bf H H')(h:cO K H a xs):cO K H' a xs:=by
 rcases h with(h|⟨o,h⟩)|h
 .exact .inl (.inl (i.1 _ _ h))
 .exact .inl (.inr #[o,i.2.1 _ _ _ h])
 .exact .inr h
def bf.cR{K:Fr}(i:bf H H')(h:rG K H a xs):rG K H' a xs:=by
 rcases h with⟨o,h⟩|h
 .exact .inl #[o,i.2.1 _ _ _ h]
 .exact .inr h
def bf.of(h:aN H H'):bf H H':=#[λ_ _ e=>h _ _ e,λ_ _ _ e=>h _ _ e,λ_ _ e=>h _ _ e]
def bf.trans(a:bf H H1)(b:bf H1 H2):bf H H2:=#[λ_ _ e=>b.1 _ _ (a.1 _ _ e),λ_ _ _ e=>b.2.1 _ _ _ (a.2.1 _ _ _ e),λ_ _ e=>b.2.2 _ _ (a.2.2 _ _ e)]
def lR:HO->Bool
 |.lst _|.dK _|.dT _|.ins _ _ _|.own _=>true
 |_=>false
theorem bf.upd(h:H p=some o)(m:lR o=true):bf H (upd H p o'):=by
 refine#[λa xs e=>?_,λa q u e=>?_,λa q e=>?_]
 .rw[aP]
  .exact e
  .rintro rfl;rw[h] at e;ext e;ext m
 .rw[aP]
  .exact e
  .rintro rfl;rw[h] at e;ext e;ext m
 .rw[aP]
  .exact e
  .rintro rfl;rw[h] at e;ext e;ext m
section
variable{K:Fr}
def Rep.frame(r:Rep K H d v fp)(k:∀a∈fp,H' a=H a)(i:bf H H'):Rep K H' d v fp:=
 Rep.rec (motive_2:=λd v fp _=>(∀a∈fp,H' a=H a)->aH K H' d v fp) (λ_=>.aJ) (λb _=>.bl b) (λn _=>.int n) (λx _=>.str x) (λh _ r k=>.tup (i.M6 h) (r k))
  (λh _ r k=>.lst ((k _ (.head _)).trans h) (r λa m=>k a (.tail _ m))) (λh _ r k=>.yW (i.cR h) (r k)) (λh e _ r k=>.b_ ((k _ (.head _)).trans h) e (r λa m=>k a (.tail _ m))) (λh e _ r k=>.fY ((k _ (.head _)).trans h) e (r λa m=>k a (.tail _ m)))
  (λg h h2 e _ r k=>.ins g ((k _ (.head _)).trans h) ((k _ (.tail _ (.head _))).trans h2) e (r λa m=>k a (.tail _ (.tail _ m)))) (λg h p _=>.exc g (i.2.1 _ _ _ h) λn e=>(p n e).imp λ_ q=>#[q.1,i.2.2 _ _ q.2])
  (λ_=>.nil) (λ_ _ h t k=>.cons (h λa m=>k a (aaL _ m)) (t λa m=>k a (aaJ _ m))) r k
def aH.frame:∀{ds} {vs} {fp},aH K H ds vs fp->(∀a∈fp,H' a=H a)->bf H H'->aH K H' ds vs fp
 |_,_,_,.nil,_,_=>.nil
 |_,_,_,.cons h t,k,i=>.cons (h.frame (λa m=>k a (aaL _ m)) i) (aH.frame t (λa m=>k a (aaJ _ m)) i)
def Rep.fu(r:Rep K H d v fp):∀a∈fp,∃o,H a=some o/\lR o=true:=by
 have c:∀{b} {o} {f},H b=some o->lR o=true->(∀a∈f,∃o,H a=some o/\lR o=true)->∀a∈b::f,∃o,H a=some o/\lR o=true:=λh m r a=>λ| .head _=>#[_,h,m]|.tail _ z=>r a z
 have n:∀a∈([]:List Addr),∃o,H a=some o/\lR o=true:=λ_ m=>nomatch m
 apply Rep.rec n (λ_=>n) (λ_=>n) (λ_=>n) (λ_ _ r=>r) (λh _ r=>c h rfl r) (λ_ _ r=>r) (λh _ _ r=>c h rfl r) (λh _ _ r=>c h rfl r)
  (λ_ h h2 _ _ r=>c h rfl (c h2 rfl r)) (λ_ _ _=>n) n (λ_ _ h t a m=>(abc.mp m).elim (h a) (t a)) r
def aH.fu:∀{ds} {vs} {fp},aH K H ds vs fp->∀a∈fp,∃o,H a=some o/\lR o=true
 |_,_,_,.nil,_,m=>nomatch m
 |_,_,_,.cons h t,a,m=>(abc.mp m).elim (h.fu a) (aH.fu t a)
def Rep.same(h:Rep K H d v fp)(s:aN H H'):Rep K H' d v fp:=
 h.frame (λa m=>let#[o,e,_]:=h.fu a m;(s a o e).trans e.symm) (.of s)
def aH.same(h:aH K H ds vs fp)(s:aN H H'):aH K H' ds vs fp:=
 h.frame (λa m=>let#[o,e,_]:=h.fu a m;(s a o e).trans e.symm) (.of s)
def aH.length:∀{ds} {vs} {fp},aH K H ds vs fp->ds.length=vs.length
 |_,_,_,.nil=>rfl
 |_,_,_,.cons _ t=>by rw[abZ,abZ,aH.length t]
def aH.get:∀{ds} {vs} {fp}{i:Nat} {d},aH K H ds vs fp->ds[i]? = some d->∃v f,vs[i]? = some v/\Rep K H d v f/\∀a∈f,a∈fp
 |_,_,_,_,_,.nil,e=>by simp at e
 |_,_,_,0,_,.cons h t,e=>by
  have e':=abH e;subst e';apply#[_,_,rfl,h,λa m=>aaL _ m]
 |_,_,_,i+1,d,.cons h t,e=>by
  let#[v,f,e1,r,s]:=aH.get t (by simpa using e);apply#[v,f,by simpa using e1,r,λa m=>aaJ _ (s a m)]
def aH.append:∀{ds es} {vs ws} {f g},aH K H ds vs f->aH K H es ws g->aH K H (ds++es) (vs++ws) (f++g)
 |_,_,_,_,_,_,.nil,s=>s
 |_,_,_,_,_,g,.cons h t,s=>by
  rw[afQ];apply .cons h (aH.append t s)
end
def Rep.i_{K:Fr}(r:Rep K H (.int i) v fp):v=.int i/\fp=[]:=by ext r;apply#[rfl,rfl]
def Rep.DW{K:Fr}(r:Rep K H (.bl i) v fp):v=.bl i/\fp=[]:=by ext r;apply#[rfl,rfl]
def Rep.xC{K:Fr}(r:Rep K H (.str i) v fp):v=.str i/\fp=[]:=by ext r;apply#[rfl,rfl]
def Rep.DC{K:Fr}(r:Rep K H .aJ v fp):v=.aJ/\fp=[]:=by ext r;apply#[rfl,rfl]
mutual
def aE:D->Bool
 |.lst _|.b_ _|.fY _|.ins _ _=>false
 |.tup ds=>aQ ds
 |.c_ ds=>aQ ds
 |_=>true
def aQ:List D->Bool
 |[]=>true
 |d::ds=>aE d&&aQ ds
end
section
variable{K:Fr}
theorem Rep.aE(r:Rep K H d v fp)(e:aE d=true):fp=[]:=
 Rep.rec (motive_2:=λds _ fp _=>aQ ds=true->fp=[]) (λ_=>rfl) (λ_ _=>rfl) (λ_ _=>rfl) (λ_ _=>rfl) (λ_ _ r e=>r (by rw[L2.Ev.aE] at e;apply e)) (λ_ _ _ e=>by delta L2.Ev.aE at e;ext e) (λ_ _ r e=>r (by rw[L2.Ev.aE] at e;apply e))
  (λ_ _ _ _ e=>by delta L2.Ev.aE at e;ext e) (λ_ _ _ _ e=>by delta L2.Ev.aE at e;ext e) (λ_ _ _ _ _ _ e=>by delta L2.Ev.aE at e;ext e) (λ_ _ _ _=>rfl) (λ_=>rfl) (λ_ _ h t e=>by
   rw[aQ,aav] at e;rw[h e.1,t e.2];rfl) r e
def aH.aE:∀{ds} {vs} {fp},aH K H ds vs fp->aQ ds=true->fp=[]
 |_,_,_,.nil,_=>rfl
 |_,_,_,.cons h t,e=>by
  rw[aQ,aav] at e;rw[h.aE e.1,aH.aE t e.2];rfl
end
inductive Tag where
 |own|lk|sh (o:List Nat)
abbrev Slot:=Option (D×Tag)
abbrev aR:=List Slot
def xD(z:Addr->Option Nat)(i:Nat):Tag->List Addr->Prop
 |.sh o,fp=>∀a∈fp,∀j,z a=some j->j∈o
 |_,fp=>fp.Nodup/\∀a∈fp,z a=some i
def wK(Y:aR)(j:Nat):Prop:=∀d,Y[j]?≠some (some (d,.own))
structure sE where
 d:D
 v:V
 fp:List Addr
 z0:Addr->Option Nat
structure Ok(K:Fr)(H0:Hp)(S:List Addr)(z:Addr->Option Nat)(aq:List sE)(Y:aR)(U:St)(H:Hp):Prop where
 sl:∀i d t,Y[i]? = some (some (d,t))->∃v fp,U[i]? = some (some v)/\Rep K H d v fp/\xD z i t fp
 hl:∀p∈aq,Rep K H p.d p.v p.fp/\∀a∈p.fp,∀j,z a=some j->p.z0 a=some j/\wK Y j
 zd:∀a j,z a=some j->(∃o,H a=some o)/\(H0 a=none\/a∈S)
 en:∀a o,H0 a=some o->a∉S->H a=some o
 ln:Y.length=U.length
def Ok.same{K:Fr}(h:Ok K H0 S z aq Y U H)(s:aN H H'):Ok K H0 S z aq Y U H':=
 #[λi d t e=>let#[v,fp,a,b,c]:=h.sl i d t e;#[v,fp,a,b.same s,c],λp m=>let#[a,b]:=h.hl p m;#[a.same s,b],
  λa j e=>let#[#[o,x],y]:=h.zd a j e;#[#[o,s _ _ x],y],λa o e n=>s _ _ (h.en a o e n),h.ln]
def dQ(z:Addr->Option Nat)(H:Hp):Tag->List Addr->Prop
 |.sh o,fp=>∀a∈fp,∀j,z a=some j->j∈o
 |_,fp=>fp.Nodup/\∀a∈fp,H a=none
def dQ.nil:dQ z H t []:=by
 cases t with
 |sh o=>intro a m;ext m
 |own=>apply#[acm,λa m=>nomatch m]
 |lk=>apply#[acm,λa m=>nomatch m]
abbrev EF:=aR->Option (D×Tag)
def FP(X:Cx)(e:Expr)(f:EF):Prop:=∃t,PE X e t/\∀{H0} {S} {z} {aq} {Y} {U} {H} {Q} {d} {tg},
 Ok X.K H0 S z aq Y U H->f Y=some (d,tg)->(∀H' v fp,aN H H'->Rep X.K H' d v fp->dQ z H tg fp->Q v H')->t U H Q
abbrev AF:=aR->Option (List (D×Tag))
abbrev TF:=aR->Option Bool
def FT(X:Cx)(e:Expr)(f:TF):Prop:=∃t,PT X e t/\∀{H0} {S} {z} {aq} {Y} {U} {H} {Q} {b},
 Ok X.K H0 S z aq Y U H->f Y=some b->(∀H',aN H H'->Q b H')->t U H Q
def LZ(i:Nat):Tag->Tag
 |.sh o=>.sh o
 |_=>.sh [i]
def aj(i:Nat):EF:=λY=>match Y[i]? with
 |some (some (d,t))=>some (d,LZ i t)
 |_=>none
def ai(i:Nat)(va:VA X i x:=by walk_at "va"):FP X (.Name x pos) (aj i):=by
 exists 20,va.pe;unfold aj at e;exists h,Y[i]?,s,e,0;cases s with
 |none=>rw[h] at e;ext e
 |some p=>
  let#[d',t]:=p;rw[h] at e;have e':=abH e;have e1:=congrArg Prod.fst e';have e2:=congrArg Prod.snd e';subst e1 e2;let#[v,fp,hs,r,zz]:=ok.sl i d' t h;refine#[v,hs,q H v fp (aN.refl H) r ?_];cases t with
  |sh o=>apply zz
  |own=>intro a m j ej;rw[zz.2 a m] at ej;ext ej;apply aah
  |lk=>intro a m j ej;rw[zz.2 a m] at ej;ext ej;apply aah
def eC(d:D):EF:=λ_=>some (d,.own)
def aC{i j pos}:FP X (.Constant (.int i) j pos) (eC (.int i)):=#[_,CH,@λ_ _ _ _ _ _ H _ _ _ _ e q=>by ext e;apply q H _ _ (aN.refl H) (.int i) .nil]
def iN{b j pos}:FP X (.Constant (.bool b) j pos) (eC (.bl b)):=#[_,aeE,@λ_ _ _ _ _ _ H _ _ _ _ e q=>by ext e;apply q H _ _ (aN.refl H) (.bl b) .nil]
def jU{j pos}:FP X (.Constant .none j pos) (eC .aJ):=#[_,Yd,@λ_ _ _ _ _ _ H _ _ _ _ e q=>by ext e;apply q H _ _ (aN.refl H) .aJ .nil]
def cB{x j pos}:FP X (.Constant (.str x) j pos) (eC (.str x)):=#[_,QL,@λ_ _ _ _ _ _ H _ _ _ _ e q=>by ext e;apply q H _ _ (aN.refl H) (.str x) .nil]
def e2(op:D->D->Option D)(fa fb:EF):EF:=λY=>match fa Y,fb Y with
 |some (d1,_),some (d2,_)=>(op d1 d2).map λd=>(d,.own)
 |_,_=>none
def pH(e:e2 op fa fb Y=some (d,tg)):∃d1 t1 d2 t2,fa Y=some (d1,t1)/\fb Y=some (d2,t2)/\op d1 d2=some d/\tg=.own:=by
 unfold e2 at e;exists h1,fa Y,p,e,0;let#[d1,t1]:=p;cases h2:fb Y with
 |none=>rw[h1,h2] at e;ext e
 |some p=>
  let#[d2,t2]:=p;rw[h1,h2] at e;dsimp only at e;exists h3,op d1 d2,d3,e;ext e;apply#[d1,t1,d2,t2,rfl,rfl,h3,rfl]
def g9(K:Fr)(r:R2)(op:D->D->Option D):Prop:=∀(H) (x y) (d1 d2) (f1 f2) (d) (Q),Rep K H d1 x f1->Rep K H d2 y f2->op d1 d2=some d->
 (∀H' v,aN H H'->Rep K H' d v []->Q v H')->r x y H Q
def fp_2{a b e:Expr}(dd:g9 X.K r op)(ha:FP X a fa)(hb:FP X b fb)(he:∀ta tb,PE X a ta->PE X b tb->PE X e (r_ r ta tb)):FP X e (e2 op fa fb):=by
 let#[ta,pa,sa]:=ha;let#[tb,pb,sb]:=hb;exists 20,he ta tb pa pb;let#[d1,t1,d2,t2,e1,iS,e3,rfl]:=pH e;refine sa ok e1 λH1 x f1 s1 r1 _=>?_
 refine sb (ok.same s1) iS λH2 y f2 s2 r2 _=>?_
 apply dd H2 x y d1 d2 f1 f2 d Q (r1.same s2) r2 e3 λH3 v s3 r3=>q H3 v [] ((s1.trans s2).trans s3) r3 .nil
end L2.Ev
namespace L2.Ev
open PySem PySem.Spec PyProof.Rows
def M9:Tag->Tag->Tag
 |.sh o,.sh p=>.sh (o++p)
 |.sh o,_=>.sh o
 |_,t=>t
def jL:List (D×Tag)->Tag
 |[]=>.own
 |p::r=>M9 p.2 (jL r)
def FA(X:Cx)(es:List Expr)(f:AF):Prop:=∃t,PA X es t/\(∀Y ps,f Y=some ps->ps.length=es.length)/\∀{H0} {S} {z} {aq} {Y} {U} {H} {Q} {ps},
 Ok X.K H0 S z aq Y U H->f Y=some ps->(∀H' vs fp,aN H H'->aH X.K H' (ps.map (·.1)) vs fp->dQ z H (jL ps) fp->Q vs H')->t U H Q
def aB:AF:=λ_=>some []
def au(f:EF)(g:AF):AF:=λY=>match f Y,g Y with
 |some p,some ps=>some (p::ps)
 |_,_=>none
def O2(e:au f g Y=some ps):∃d t r,f Y=some (d,t)/\g Y=some r/\ps=(d,t)::r:=by
 unfold au at e;exists h1,f Y,p,e,0;cases h2:g Y with
 |none=>rw[h1,h2] at e;ext e
 |some r=>
  rw[h1,h2] at e;ext e;apply#[p.1,p.2,r,rfl,rfl,rfl]
def dQ.join{K:Fr}(ok:Ok K H0 S z aq Y U H)(s:aN H H1)
  (h1:dQ z H t1 f1) (d1:∀a∈f1,∃o,H1 a=some o/\lR o=true) (h2:dQ z H1 t2 f2):dQ z H (M9 t1 t2) (f1++f2):=by
 have nz:∀{a} {j},H a=none->z a=some j->False:=λ{a j} e q=>by
  let#[#[o,w],_]:=ok.zd a j q;rw[e] at w;ext w
 have both:∀{t1 t2:Tag},(f1.Nodup/\∀a∈f1,H a=none)->(f2.Nodup/\∀a∈f2,H1 a=none)->(f1++f2).Nodup/\∀a∈f1++f2,H a=none:=λp q=>by
  refine#[adv.mpr #[p.1,q.1,λa m b m' e=>?_],λa m=>?_]
  .subst e;let#[o,w,_]:=d1 a m;rw[q.2 a m'] at w;ext w
  .rcases abc.mp m with m|m
   .exact p.2 a m
   .exact s.free (q.2 a m)
 cases t1 with
 |sh o=>
  have iJ:=h1;cases t2 with
  |sh p=>
   intro a m j q;rcases abc.mp m with m|m
   .exact aaL _ (iJ a m j q)
   .exact aaJ _ (h2 a m j q)
  |own=>
   intro a m j q;rcases abc.mp m with m|m
   .exact iJ a m j q
   .exact(nz (s.free (h2.2 a m)) q).elim
  |lk=>
   intro a m j q;rcases abc.mp m with m|m
   .exact iJ a m j q
   .exact(nz (s.free (h2.2 a m)) q).elim
 |own=>
  cases t2 with
  |sh p=>
   intro a m j q;rcases abc.mp m with m|m
   .exact(nz (h1.2 a m) q).elim
   .exact h2 a m j q
  |own=>apply both (t1:=.own) (t2:=.own) h1 h2
  |lk=>apply both (t1:=.own) (t2:=.own) h1 h2
 |lk=>
  cases t2 with
  |sh p=>
   intro a m j q;rcases abc.mp m with m|m
   .exact(nz (h1.2 a m) q).elim
   .exact h2 a m j q
  |own=>apply both (t1:=.own) (t2:=.own) h1 h2
  |lk=>apply both (t1:=.own) (t2:=.own) h1 h2
def aA:FA X [] aB:=#[_,fT,λ_ _ e=>by ext e;rfl,@λ_ _ _ _ _ _ H _ _ _ e q=>by ext e;apply q H _ _ (aN.refl H) .nil .nil]
def ak{e:Expr}{es:List Expr}(ha:FP X e f)(hr:FA X es g)(hs:starEach (e::es) X.env=(false,eval e X.env)::starEach es X.env:=by rfl):FA X (e::es) (au f g):=by
 let#[t,p,q]:=ha;let#[t',p',l',q']:=hr;refine#[_,dX p p' hs,λY ps e=>by let#[d,tg,r,e1,e2,rfl]:=O2 e;rw[abZ,abZ,l' Y r e2],@λH0 S z aq Y U H Q ps ok e k=>?_];let#[d,tg,r,e1,e2,rfl]:=O2 e;refine q ok e1 λH1 v f1 s1 r1 g1=>?_
 refine q' (ok.same s1) e2 λH2 vs f2 s2 r2 g2=>?_
 apply k H2 (v::vs) (f1++f2) (s1.trans s2) (.cons (r1.same s2) r2) (dQ.join ok s1 g1 r1.fu g2)
def gZ(g:AF):EF:=λY=>(g Y).map λps=>(.tup (ps.map (·.1)),jL ps)
def dF{x1}(h:FA X es g)(hl:es.length<=1000:=by decide):FP X (.Tuple es x1 pos) (gZ g):=by
 let#[t,p,hg,q]:=h;exists 21,Lc p;unfold gZ at e;exists h1,g Y,ps,e;ext e;refine q ok h1 λH1 vs fp s1 r1 g1=>#[?_,λa ha=>?_]
 .rw[<- r1.length,List.length_map,hg Y ps h1];apply agF (z8 hl)
 .have s2:aN H1 (upd H1 a (.tup vs)):=λb o e=>by rw[aP (dh e ha)];apply e
  apply k _ _ fp (s1.trans s2) (.tup (cO.of cg) (r1.same s2)) g1
def iI(g:AF):EF:=λY=>(g Y).map λps=>(.lst (ps.map (·.1)),jL ps)
def dQ.cons{K:Fr}(ok:Ok K H0 S z aq Y U H)(s:aN H H1)(h:dQ z H t fp)
  (d:∀b∈fp,∃o,H1 b=some o/\lR o=true) (ha:H1 a=none):dQ z H t (a::fp):=by
 have na:=s.free ha;have both:(fp.Nodup/\∀b∈fp,H b=none)->(a::fp).Nodup/\∀b∈a::fp,H b=none:=λp=>by
  refine#[abo.mpr #[λm=>?_,p.1],λb m=>?_]
  .let#[o,w,_]:=d a m;rw[ha] at w;ext w
  .rcases aaA.mp m with e|m
   .rw[e];apply na
   .exact p.2 b m
 cases t with
 |sh o=>
  intro b m j q;rcases aaA.mp m with e|m
  .let#[#[o,w],_]:=ok.zd b j q;rw[e,na] at w;ext w
  .exact h b m j q
 |own=>apply both h
 |lk=>apply both h
def gQ(h:FA X es g)(hl:es.length<=1000:=by decide):FP X (.List es pos) (iI g):=by
 let#[t,p,hg,q]:=h;exists 21,ai2 p;unfold iI at e;exists h1,g Y,ps,e;ext e;refine q ok h1 λH1 vs fp s1 r1 g1=>#[?_,λa ha=>?_]
 .rw[<- r1.length,List.length_map,hg Y ps h1];apply agF (z8 hl)
 .have s2:aN H1 (upd H1 a (.lst vs)):=λb o e=>by rw[aP (dh e ha)];apply e
  apply k _ _ (a::fp) (s1.trans s2) (.lst cg (r1.same s2)) (g1.cons ok s1 r1.fu ha)
def a_(K:Fr)(F:List D->Option D):Sp:=λvs H Q _=>∃ds fp d,aH K H ds vs fp/\F ds=some d/\∀H' v gS,aN H H'->Rep K H' d v gS->gS.Nodup->(∀a∈gS,H a=none)->Q v H'
def cI(F:List D->Option D)(g:AF):EF:=λY=>(g Y).bind λps=>(F (ps.map (·.1))).map λd=>(d,.own)
def Yk(e:cI F g Y=some (d,tg)):∃ps,g Y=some ps/\F (ps.map (·.1))=some d/\tg=.own:=by
 unfold cI at e;exists h1,g Y,ps,e,0;rw[h1,abR] at e;exists h2,F (ps.map (·.1)),d',e;ext e;apply#[ps,rfl,h2,rfl]
def aU(G:bS X.prog X.w X.K X.mg X.base dR k f fd ps (a_ X.K F) cm)(hr:bR k X.A cm)(hm:X.mg x=some (.ref f))(hk:PySem.W.keepIn X.K (.ref f)=true)(hb:Binds X.K fd ps [])(ha:FA X (e::es) g)
  (hg:GD X x:=by apply#[rfl,by decide])
  (he:SE X e es pos:=by apply#[rfl,rfl]):FP X (.Call (.Name x p) (e::es) [] pos) (cI F g):=by
 let#[t,pa,_,sa]:=ha;refine#[_,ON G hr hg.1 hm hk hb .nil oK pa hg.2 he.1 he.2,@λH0 S z aq Y U H Q d tg ok e0 q=>?_];let#[qs,e1,e2,rfl]:=Yk e0;refine sa ok e1 λH1 vs fp s1 r1 _=>?_
 rw[ack];apply#[_,fp,d,r1,e2,λH2 v gS s2 r2 nd fr=>q H2 v gS (s1.trans s2) r2 #[nd,λa m=>s1.free (fr a m)]]
def tV(f:EF):TF:=λY=>match f Y with
 |some (.bl b,_)=>some b
 |_=>none
def F0(e:tV f Y=some b):∃t,f Y=some (.bl b,t):=by
 unfold tV at e;exists h,f Y,p,e,0;let#[d,t]:=p;rw[h] at e;ext d<;>first|(ext e;apply#[t,rfl])|ext e
def eX(h:FP X e f)(he:∀whole,isTrue e X.env whole=(do let v <- whole;standAt e.pos;holding [v] (truthy v)):=by intro _;rfl):FT X e (tV f):=by
 let#[t,p,q]:=h;refine#[_,Uz p he,@λH0 S z aq Y U H Q b ok e k=>?_];let#[tg,e1]:=F0 e;refine q ok e1 λH1 v fp s1 r1 _=>?_
 ext r1;apply#[b,rfl,k H1 s1]
def kD(ho:eB X (compareOp op) r)(dd:g9 X.K r o)(ha:FP X a fa)(hb:FP X b fb)(hm:behindInMarks op b=false):FT X (.Compare a [op] [b] pos) (tV (e2 o fa fb)):=by
 let#[ta,pa,sa]:=ha;let#[tb,pb,sb]:=hb;exists 22,MC ho pa pb hm;let#[tg,e0]:=F0 e;let#[d1,t1,d2,t2,e1,iS,e3,rfl]:=pH e0;refine sa ok e1 λH1 x f1 s1 r1 _=>?_
 refine sb (ok.same s1) iS λH2 y f2 s2 r2 _=>?_
 refine dd H2 x y d1 d2 f1 f2 _ _ (r1.same s2) r2 e3 λH3 v s3 r3=>?_
 ext r3;apply#[c,rfl,k H3 ((s1.trans s2).trans s3)]
def qT(ho:eB X (compareOp op) r)(dd:g9 X.K r o)(ha:FP X a fa)(hb:FP X b fb)(hm:behindInMarks op b=false):FP X (.Compare a [op] [b] pos) (e2 o fa fb):=
 fp_2 dd ha hb λ_ _ pa pb=>ZM ho pa pb hm
def xZ(ho:eB X (binaryOp op) r)(dd:g9 X.K r o)(ha:FP X a fa)(hb:FP X b fb):FP X (.BinOp a op b pos) (e2 o fa fb):=
 fp_2 dd ha hb λ_ _ pa pb=>Se ho pa pb
def jr(f g:TF):TF:=λY=>match f Y with
 |some true=>g Y
 |some false=>some false
 |none=>none
def lY(f g:TF):TF:=λY=>match f Y with
 |some true=>some true
 |some false=>g Y
 |none=>none
def kZ(f:TF):TF:=λY=>(f Y).map λb=>!b
def FW(X:Cx)(e:Expr)(f:TF):Prop:=∃t,PW X e t/\∀{H0} {S} {z} {aq} {Y} {U} {H} {Q} {b},
 Ok X.K H0 S z aq Y U H->f Y=some b->(∀H',aN H H'->Q b H')->t U H Q
def FW.ft(h:FW X e f):FT X e f:=let#[t,p,q]:=h;#[t,p.pt,q]
def rA(h:FT X a f):FW X (.BoolOp .And [a] pos) f:=let#[t,p,q]:=h;#[t,T7 p,q]
def qF(h:FT X a f):FW X (.BoolOp .Or [a] pos) f:=let#[t,p,q]:=h;#[t,abj p,q]
def rB{rest:List Expr}(ha:FT X a f)(hb:FW X (.BoolOp .And (b::rest) pos) g):FW X (.BoolOp .And (a::b::rest) pos) (jr f g):=by
 let#[t,p,q]:=ha;let#[t',p',q']:=hb;exists 22,Fp p p';unfold jr at e;exists h,f Y,y,e;cases y with
 |false=>
  ext e;refine q ok h λH1 s1=>?_
  rw[aa0 aaH];apply k H1 s1
 |true=>
  refine q ok h λH1 s1=>?_
  rw[if_pos rfl];apply q' (ok.same s1) e λH2 s2=>k H2 (s1.trans s2)
def n6{rest:List Expr}(ha:FT X a f)(hb:FW X (.BoolOp .Or (b::rest) pos) g):FW X (.BoolOp .Or (a::b::rest) pos) (lY f g):=by
 let#[t,p,q]:=ha;let#[t',p',q']:=hb;exists 22,ahy p p';unfold lY at e;exists h,f Y,y,e;cases y with
 |true=>
  ext e;refine q ok h λH1 s1=>?_
  rw[if_pos rfl];apply k H1 s1
 |false=>
  refine q ok h λH1 s1=>?_
  rw[aa0 aaH];apply q' (ok.same s1) e λH2 s2=>k H2 (s1.trans s2)
def iy(ha:FT X a f):FT X (.UnaryOp .Not a pos) (kZ f):=by
 let#[t,p,q]:=ha;exists 22,afO p;unfold kZ at e;exists h,f Y,y,e;ext e;apply q ok h λH1 s1=>k H1 s1
inductive Out where
 |nx (Y:aR)|rt (d:D)|bk (Y:aR)|ct (Y:aR)
 |er (raw:Bool) (cn:XN) (Y:aR)
abbrev SF:=aR->Option Out
def lG(X:Cx)(x:Str):Bool:=x==("self":Str)||(X.fn ("self":Str)&&!X.fn x)
def Kp(X:Cx)(U aG:St):Prop:=∀(i:Nat) (x),X.N[i]? = some x->lG X x=true->aG[i]? = U[i]?
def Kp.refl(X:Cx)(U:St):Kp X U U:=λ_ _ _ _=>rfl
def Kp.trans(a:Kp X U pZ)(b:Kp X pZ i7):Kp X U i7:=λi x h k=>(b i x h k).trans (a i x h k)
def Kp.set(hi:X.N[i]? = some x)(hs:lG X x=false):Kp X U (U.set i v):=λj y h k=>by
 refine adt λe=>?_
 subst e;rw[hi] at h;have h:=abH h;subst h;rw[hs] at k;ext k
def w6(X:Cx)(H0:Hp)(S:List Addr)(aq:List sE)(pY:St)(raw:Bool)(cn:XN)(Y:aR):Prop:=∃ES:XS,(if raw=true then LD X ES else sN X ES)/\
 ∀z U H C,Ok X.K H0 S z aq Y U H->Kp X pY U->PySem.W.nsIn X.K mainGlobals cn.1=some (some (.ref C))->ES (.ref C) cn.2 U H
def w6.of(k:w6 X H0 S aq U raw cn Y)(a:Kp X U aG):w6 X H0 S aq aG raw cn Y:=
 let#[ES,th,q]:=k;#[ES,th,λz s H C ok b hC=>q z s H C ok (a.trans b) hC]
def nU(X:Cx)(H0:Hp)(S:List Addr)(aq:List sE)(pY:St)(E:Ends):Out->Prop
 |.nx Y=>∀z U H,Ok X.K H0 S z aq Y U H->Kp X pY U->E.nx U H
 |.bk Y=>∀z U H,Ok X.K H0 S z aq Y U H->Kp X pY U->E.bk U H
 |.ct Y=>∀z U H,Ok X.K H0 S z aq Y U H->Kp X pY U->E.ct U H
 |.er raw cn Y=>w6 X H0 S aq pY raw cn Y
 |.rt d=>∀H v fp,(∀a o,H0 a=some o->a∉S->H a=some o)->Rep X.K H d v fp->fp.Nodup->(∀a∈fp,H0 a=none\/a∈S)->E.rt v H
def FS(X:Cx)(st:List Stmt)(f:SF):Prop:=∃t,iX X st t/\∀{H0} {S} {z} {aq} {Y} {U} {H} {E} {o},
 Ok X.K H0 S z aq Y U H->f Y=some o->nU X H0 S aq U E o->t E U H
def fG(X:Cx)(st:Stmt)(f:SF):Prop:=∃t,PS X st t/\∀{H0} {S} {z} {aq} {Y} {U} {H} {E} {o},
 Ok X.K H0 S z aq Y U H->f Y=some o->nU X H0 S aq U E o->t E U H
def nU.of(k:nU X H0 S aq U E o)(a:Kp X U aG):nU X H0 S aq aG E o:=by
 cases o with
 |nx Y=>apply λz s H ok b=>k z s H ok (a.trans b)
 |bk Y=>apply λz s H ok b=>k z s H ok (a.trans b)
 |ct Y=>apply λz s H ok b=>k z s H ok (a.trans b)
 |rt d=>apply k
 |er raw cn Y=>apply w6.of k a
def eS:SF:=λY=>some (.nx Y)
def bN(f g:SF):SF:=λY=>match f Y with
 |some (.nx Y')=>g Y'
 |o=>o
def cJ:FS X [] eS:=#[_,Sx,@λ_ _ z _ _ U H _ _ ok e k=>by ext e;apply k z U H ok (.refl _ _)]
def aK{st:Stmt}(h:fG X st f):FS X [st] f:=let#[t,p,q]:=h;#[t,Qt p,q]
def aO{st:Stmt}{rest:List Stmt}(h1:fG X st f)(h2:FS X rest g):FS X (st::rest) (bN f g):=by
 let#[t,p,q]:=h1;let#[t',p',q']:=h2;exists 23,Ac p p';unfold bN at e;exists h,f Y,w,e,0;refine q ok h ?_;rw[h] at e;cases w with
 |nx Y'=>apply λz' aG H' bu a=>q' bu e (k.of a)
 |rt d=>ext e;apply k
 |bk Y'=>ext e;apply k
 |ct Y'=>ext e;apply k
 |er _ _ _=>ext e;apply k
def Kr:SF:=λ_=>none
def nY{st:Stmt}:fG X st Kr:=#[_,Tn,@λ_ _ _ _ _ _ _ _ _ _ e _=>by ext e]
def HH{st:List Stmt}:FS X st Kr:=#[_,ahN,@λ_ _ _ _ _ _ _ _ _ _ e _=>by ext e]
def dg(c:TF)(f g:SF):SF:=λY=>match c Y with
 |some true=>f Y
 |some false=>g Y
 |none=>none
def cj(hc:FT X c tc)(ha:FS X a f)(hb:FS X b g):fG X (.If c a b pos) (dg tc f g):=by
 let#[t,p,q]:=hc;let#[t1,p1,q1]:=ha;let#[t2,p2,q2]:=hb;exists 23,IZ p p1 p2;unfold dg at e;exists h,tc Y,y,e;refine q ok h λH1 s1=>?_
 cases y with
 |true=>rw[if_pos rfl];apply q1 (ok.same s1) e k
 |false=>rw[aa0 aaH];apply q2 (ok.same s1) e k
def kq:Tag->Bool
 |.sh _=>false
 |_=>true
def h_(f:EF):SF:=λY=>match f Y with
 |some (d,t)=>if kq t=true then some (.rt d) else if aE d=true then some (.rt d) else none
 |none=>none
def aX(he:FP X e f):fG X (.Return (some e) pos) (h_ f):=by
 let#[t,p,q]:=he;exists 23,za p;unfold h_ at e;exists h,f Y,w,e,0;let#[d,tg]:=w;rw[h] at e;dsimp only at e;refine q ok h λH1 v fp s1 r1 g1=>?_
 have en:∀a o,H0 a=some o->a∉S->H1 a=some o:=λa o e n=>s1 _ _ (ok.en a o e n)
 by_cases ho:kq tg=true
 .rw[if_pos ho] at e;ext e;have g:fp.Nodup/\∀a∈fp,H a=none:=by ext tg<;>first|exact g1|ext ho
  refine k H1 v fp en r1 g.1 λa m=>?_
  cases h0:H0 a with
  |none=>apply .inl rfl
  |some o=>
   by_cases hs:a∈S
   .exact .inr hs
   .have w:=ok.en a o h0 hs;rw[g.2 a m] at w;ext w
 .rw[aa0 ho] at e;let#[hi,e]:=ci e;ext e;have hn:=r1.aE hi;subst hn;apply k H1 v [] en r1 acm λa m=>nomatch m
def nJ(i:Nat):SF:=λY=>match Y[i]? with
 |some (some (d,t))=>if kq t=true then some (.rt d) else if aE d=true then some (.rt d) else none
 |_=>none
def qg(i:Nat)(va:VA X i x:=by walk_at "va"):fG X (.Return (some (.Name x pos')) pos) (nJ i):=by
 exists 23,za va.pe;unfold nJ at e;exists h,Y[i]?,w,e,0;cases w with
 |none=>rw[h] at e;ext e
 |some w=>
  let#[d,tg]:=w;rw[h] at e;dsimp only at e;let#[v,fp,hs,r,zz]:=ok.sl i d tg h;refine#[v,hs,?_]
  by_cases ho:kq tg=true
  .rw[if_pos ho] at e;ext e;have g:fp.Nodup/\∀a∈fp,z a=some i:=by ext tg<;>first|exact zz|ext ho
   apply k H v fp ok.en r g.1 λa m=>(ok.zd a i (g.2 a m)).2
  .rw[aa0 ho] at e;let#[hi,e]:=ci e;ext e;have hn:=r.aE hi;subst hn;apply k H v [] ok.en r acm λa m=>nomatch m
def g_(Y:aR)(i:Nat)(d:D):Tag->aR
 |.sh o=>Y.set i (some (d,.sh o))
 |_=>Y.set i (some (d,.own))
def dG(i:Nat)(f:EF):SF:=λY=>match f Y with
 |some (d,t)=>some (.nx (g_ Y i d t))
 |none=>none
def Ok.chg{K:Fr}{fp aS fo:List Addr}(ok:Ok K H0 S z aq Y U H)(hi:Y'[i]? = some (some (d,tg)))(hs:aG[i]? = some (some v))(h0:∀a∈aS,z a=some i)(im:bf H H')
  (keep:∀b o,b∉aS->H b=some o->H' b=some o) (r:Rep K H' d v fp) (hz:xD z' i tg fp) (zn:∀a,a∉fo->z a=some i/\z' a=none\/z' a=z a/\a∉aS/\(z a=some i->¬wK Y i)) (F6:∀a∈fo,(a∈aS\/H a=none)/\∃o,H' a=some o)
  (ot:∀{j d t},j≠i->Y'[j]? = some (some (d,t))->Y[j]? = some (some (d,t))/\(aS=[]\/∀o,t=.sh o->i∉o)) (os:∀j,j≠i->aG[j]? = U[j]?) (hh:aS=[]\/¬wK Y i) (ln:Y'.length=aG.length):Ok K H0 S z' aq Y' aG H':=by
 have old:∀{a} {o},a∉aS->H a=some o->a∉fo:=λn e m=>(F6 _ m).1.elim n λq=>by rw[e] at q;ext q
 have at_:∀{a} {k},a∉fo->z' a=some k->z a=some k/\a∉aS/\(k=i->¬wK Y i):=λ{a k} n e=>by
  rcases zn a n with⟨_,w⟩|⟨w,q,u⟩
  .rw[e] at w;ext w
  .rw[e] at w;apply#[w.symm,q,λx=>u (x ▸ w.symm)]
 have S0:∀a∈aS,H0 a=none\/a∈S:=λa m=>(ok.zd a i (h0 a m)).2
 refine#[λj d' t e=>?_,λp hp=>?_,λa j e=>?_,λa o e n=>keep a o (λm=>?_) (ok.en a o e n),ln]
 .by_cases hj:j=i
  .subst hj;rw[hi] at e;ext e;apply#[v,fp,hs,r,hz]
  .let#[e0,nd]:=ot hj e;let#[v',gS,c9,r',zz]:=ok.sl j d' t e0;have n0:∀a∈gS,a∉aS:=λa m q=>by
    have zi:=h0 a q;rcases nd with rfl|nd
    .cases q
    cases t with
    |sh o=>apply nd o rfl (zz a m i zi)
    |own=>rw[zz.2 a m] at zi;apply hj (abH zi)
    |lk=>rw[zz.2 a m] at zi;apply hj (abH zi)
   have n1:∀a∈gS,a∉fo:=λa m=>let#[o,w,_]:=r'.fu a m;old (n0 a m) w
   have o1:∀a∈gS,z a=some j->z' a=some j:=λa m e=>by
    rcases zn a (n1 a m) with⟨w,_⟩|⟨w,_⟩
    .rw[e] at w;apply(hj (abH w)).elim
    .rw[w,e]
   refine#[v',gS,(os j hj).trans c9,r'.frame (λa m=>?_) im,?_]
   .let#[o,w,_]:=r'.fu a m;rw[keep a o (n0 a m) w,w]
   .cases t with
    |sh o=>apply λa m k q=>zz a m k (at_ (n1 a m) q).1
    |own=>apply#[zz.1,λa m=>o1 a m (zz.2 a m)]
    |lk=>apply#[zz.1,λa m=>o1 a m (zz.2 a m)]
 .let#[r',Nh]:=ok.hl p hp;have n0:∀a∈p.fp,a∉aS:=λa m q=>by
   rcases hh with rfl|hh
   .cases q
   .exact hh (Nh a m i (h0 a q)).2
  refine#[r'.frame (λa m=>?_) im,λa m j q=>?_]
  .let#[o,w,_]:=r'.fu a m;rw[keep a o (n0 a m) w,w]
  .let#[o,w,_]:=r'.fu a m;let#[q,_,hj]:=at_ (old (n0 a m) w) q;let#[x,y]:=Nh a m j q;apply#[x,λd e=>y d (ot (λx=>hj x (x ▸ y)) e).1]
 .by_cases w:a∈fo
  .refine#[(F6 a w).2,(F6 a w).1.elim (S0 a) λq=>?_];cases h0:H0 a with
   |none=>apply .inl rfl
   |some o=>
    by_cases hs:a∈S
    .exact .inr hs
    .rw[ok.en a o h0 hs] at q;ext q
  .let#[e,n,_]:=at_ w e;let#[#[o,x],y]:=ok.zd a j e;apply#[#[o,keep a o n x],y]
 .rcases S0 a m with q|q
  .rw[e] at q;ext q
  .exact n q
open Classical in
def zN(fo:List Addr)(i:Nat)(z:Addr->Option Nat):Addr->Option Nat:=λa=>if a∈fo then some i else if z a=some i then none else z a
def I_{fo aS:List Addr}(h:∀a∈aS,z a=some i)(a:Addr)(n:a∉fo):z a=some i/\zN fo i z a=none\/zN fo i z a=z a/\a∉aS/\(z a=some i->P):=by
 unfold zN
 by_cases w:z a=some i
 .exact .inl #[w,by rw[aa0 n,if_pos w]]
 .exact .inr #[by rw[aa0 n,aa0 w],λm=>w (h a m),λq=>(w q).elim]
def Ok.set{K:Fr}{fp:List Addr}(ok:Ok K H0 S z aq Y U H)(hi:i<U.length)(s:aN H H1)
  (r:Rep K H1 d v fp) (g:dQ z H t fp):∃z',Ok K H0 S z' aq (g_ Y i d t) (U.set i (some v)) H1:=by
 have n0:∀a∈([]:List Addr),z a=some i:=λa m=>nomatch m
 have main:∀(fo) (tg),(∀a∈fo,H a=none/\a∈fp)->xD (zN fo i z) i tg fp->∃z',Ok K H0 S z' aq (Y.set i (some (d,tg))) (U.set i (some v)) H1:=λfo tg h hz=>
  #[_,ok.chg (agc (by rw[ok.ln];apply hi)) (agc hi) n0 (.of s) (λb o _ e=>s b o e) r hz (I_ n0) (λa m=>#[.inr (h a m).1,let#[o,w,_]:=r.fu a (h a m).2;#[o,w]])
   (λhj e=>#[(adt (ahc hj)).symm.trans e,.inl rfl]) (λj hj=>adt (ahc hj)) (.inl rfl) (by rw[ajr,ajr];apply ok.ln)]
 cases t with
 |own=>apply main fp .own (λa m=>#[g.2 a m,m]) #[g.1,λa m=>if_pos m]
 |lk=>apply main fp .own (λa m=>#[g.2 a m,m]) #[g.1,λa m=>if_pos m]
 |sh o=>
  refine main [] (.sh o) (λa m=>nomatch m) λa m j q=>?_
  rcases I_ (fo:=[]) (P:=True) n0 a (λw=>nomatch w) with⟨_,w⟩|⟨w,_⟩
  .rw[q] at w;ext w
  .exact g a m j (w ▸ q)
def Ok.stored{K:Fr}{G:Prop}(ok:Ok K H0 S z aq Y U H)(s:aN H H1)
  (r:Rep K H1 d v fp) (g:dQ z H t fp) (k:∀z',Ok K H0 S z' aq (g_ Y i d t) (U.set i (some v)) H1->G):G:=by
 by_cases hi:i<U.length
 .let#[z',bu]:=ok.set hi s r g;apply k z' bu
 .have e1:U.set i (some v)=U:=List.set_eq_of_length_le (Nat.le_of_not_lt hi);have e2:∀w,Y.set i w=Y:=λw=>List.set_eq_of_length_le (by rw[ok.ln];apply Nat.le_of_not_lt hi)
  have e3:g_ Y i d t=Y:=by ext t<;>apply e2 _
  refine k z ?_;rw[e1,e3];apply ok.same s
def bP(i:Nat){x:Str}{e:Expr}(he:FP X e f)(hN:X.N.Nodup)(hi:X.N[i]? = some x:=by rfl)(hx:Loc X.env.scope x:=by first|exact Or.inl rfl|exact Or.inr rfl)
  (hs:swapsWith e (some (.Name x pos')) pos.line X.env=pure false:=by rfl) (hf:X.fn x=true\/X.env.scope.names.lookup x=some .local:=by first|exact .inl rfl|exact .inr rfl) (oS:lG X x=false:=by rfl):fG X (.Assign [.Name x pos'] e pos) (dG i f):=by
 let#[t,p,q]:=he;exists 23,DS hN hi hx p hs hf;unfold dG at e;exists h,f Y,w,e,0;let#[d,tg]:=w;rw[h] at e;ext e;refine q ok h λH1 v fp s1 r1 g1=>?_
 apply ok.stored s1 r1 g1 λz' bu=>k z' _ H1 bu (.set hi oS)
abbrev GF:=D->Tag->aR->Option aR
def FG(X:Cx)(tg:Expr)(g:GF)(is:List Nat):Prop:=(∀i∈is,∀x,X.N[i]? = some x->lG X x=false)/\∃t,PG X tg t/\∀{H0} {S} {z} {aq} {Y} {U} {H H1} {v} {d} {tag} {fp} {Q} {Y'},
 Ok X.K H0 S z aq Y U H->aN H H1->Rep X.K H1 d v fp->dQ z H tag fp->g d tag Y=some Y'->(∀z' aG,Ok X.K H0 S z' aq Y' aG H1->(aG.length=U.length/\∀j,j∉is->aG[j]? = U[j]?)->Q aG H1)->t v U H1 Q
def gN(i:Nat):GF:=λd t Y=>some (g_ Y i d t)
abbrev yj:=List D->aR->Option aR
def Kp.off{is:List Nat}(hk:∀i∈is,∀x,X.N[i]? = some x->lG X x=false)(h:∀j,j∉is->aG[j]? = U[j]?):Kp X U aG:=λi x e k=>h i λm=>by rw[hk i m x e] at k;ext k
def DA(X:Cx)(ts:List Expr)(g:yj)(is:List Nat):Prop:=(∀i∈is,∀x,X.N[i]? = some x->lG X x=false)/\∃t,yy X ts t/\(∀ds Y Y',g ds Y=some Y'->ds.length=ts.length)/\∀{H0} {S} {z} {aq} {Y} {U} {H} {vs} {ds} {fp} {Q} {Y'},
 Ok X.K H0 S z aq Y U H->aH X.K H ds vs fp->g ds Y=some Y'->(∀z' aG,Ok X.K H0 S z' aq Y' aG H->(aG.length=U.length/\∀j,j∉is->aG[j]? = U[j]?)->Q aG H)->t vs U H Q
def kJ:yj:=λds Y=>match ds with
 |[]=>some Y
 |_=>none
def dD(g:GF)(gs:yj):yj:=λds Y=>match ds with
 |d::r=>if aE d=true then(g d .own Y).bind λY'=>gs r Y' else none
 |_=>none
def RI(e:dD g gs ds Y=some Y'):∃d r aT,ds=d::r/\aE d=true/\g d .own Y=some aT/\gs r aT=some Y':=by
 cases ds with
 |nil=>ext e
 |cons d r=>
  unfold dD at e;dsimp only at e;let#[hi,e]:=ci e;exists h,g d .own Y,aT,e,0;rw[h,abR] at e;apply#[d,r,aT,rfl,hi,h,e]
def gT(gs:yj):GF:=λd _ Y=>match d with
 |.tup ds=>gs ds Y
 |_=>none
def bY(i:Nat)(hN:X.N.Nodup)(hi:X.N[i]? = some x:=by rfl)(hx:Loc X.env.scope x:=by first|exact Or.inl rfl|exact Or.inr rfl)(hf:X.fn x=true\/X.env.scope.names.lookup x=some .local:=by first|exact .inl rfl|exact .inr rfl)(oS:lG X x=false:=by rfl):FG X (.Name x pos) (gN i) [i]:=by
 refine#[λj m y e=>by rw[aaD.mp m,hi] at e;have e:=abH e;subst e;apply oS,_,Q0 hN hi hx hf,@λH0 S z aq Y U H H1 v d tag fp Q Y' ok s r g e k=>?_];ext e;apply ok.stored s r g λz' bu=>k z' _ bu #[ajr ..,λj hj=>adt λe=>hj (by rw[e];apply aah)]
def nW:DA X [] kJ []:=by
 refine#[λj m=>(nomatch m),_,Yj,λds Y Y' e=>?_,@λH0 S z aq Y U H vs ds fp Q Y' ok r e k=>?_]
 .cases ds with
  |nil=>rfl
  |cons _ _=>ext e
 .cases ds with
  |nil=>ext r;ext e;apply#[rfl,k z U ok #[rfl,λ_ _=>rfl]]
  |cons _ _=>ext e
def fZ(h1:FG X e g is)(h2:DA X es gs ks)(hs:(assignEach (e::es) X.env).map (·.2)=assign e X.env::(assignEach es X.env).map (·.2):=by rfl):DA X (e::es) (dD g gs) (is++ks):=by
 let#[n1,t,p,q]:=h1;let#[n2,t',p',l',q']:=h2;refine#[λj m=>(abc.mp m).elim (n1 j) (n2 j),_,VI p p' hs,λds Y Y' e=>?_,@λH0 S z aq Y U H vs ds fp Q Y' ok r e k=>?_]
 .let#[d,r,aT,rfl,_,_,h]:=RI e;rw[abZ,abZ,l' r aT Y' h]
 .let#[d,dr,aT,rfl,hi,h1,h2]:=RI e;cases r with
  | @cons _ v _ vr f1 f2 r1 r2=>
   have hn:=r1.aE hi;subst hn;apply#[v,vr,rfl,q ok (aN.refl H) r1 .nil h1 λz1 pZ cG a1=>q' cG r2 h2 λz2 i7 ou a2=>k z2 i7 ou #[a2.1.trans a1.1,λj hj=>(a2.2 j λm=>hj (aaJ _ m)).trans (a1.2 j λm=>hj (aaL _ m))]]
def nI(hc:X.calm=true)(h:DA X es gs is)(hn:(assignEach es X.env).length=es.length:=by rfl)(dM:(assignEach es X.env).findIdx? (·.1)=none:=by rfl):FG X (.Tuple es k pos) (gT gs) is:=by
 let#[n1,t,p,l,q]:=h;refine#[n1,_,aec hc p hn dM,@λH0 S z aq Y U H H1 v d tag fp Q Y' ok s r g e k=>?_];cases r with
 | @tup a xs ds fp hq rs=>
  have e:=e;apply#[a,xs,rfl,hq,by rw[<- rs.length];apply l ds Y Y' e,q (ok.same s) rs e k]
 |_=>ext e
def ux(f:EF)(g:GF):SF:=λY=>match f Y with
 |some (d,t)=>(g d t Y).map .nx
 |none=>none
def QS{is:List Nat}(he:FP X e f)(hg:FG X tg g is)(hs:swapsWithSole [tg] e pos.line X.env=pure false:=by rfl)(hw:swappedStores [tg] e X.env=pure none:=by rfl)
  (h1:(assignEach [tg] X.env).map (·.2)=[assign tg X.env]:=by rfl):fG X (.Assign [tg] e pos) (ux f g):=by
 let#[t,p,q]:=he;let#[n1,t',p',q']:=hg;exists 23,ahE p p' hs hw h1;unfold ux at e;cases h:f Y with
 |none=>rw[h] at e;ext e
 |some w=>
  let#[d,tg]:=w;rw[h] at e;dsimp only at e;cases h2:g d tg Y with
  |none=>rw[h2] at e;ext e
  |some Y'=>
   rw[h2] at e;ext e;apply q ok h λH1 v fp s1 r1 g1=>q' ok s1 r1 g1 h2 λz' aG bu a=>k z' aG H1 bu (.off n1 a.2)
structure Hv where
 d:D
 v:V
 fp:List Addr
def tR(K:Fr)(J:It)(ds:List D)(hv:List Hv):Prop:=∀(H) (i),(∀h∈hv,Rep K H h.d h.v h.fp)->
 (∀d,ds[i]? = some d->J.go i H/\∀x H1,J.Ai i H x H1->aN H H1/\∃fp,Rep K H1 d x fp/\∀a∈fp,∃h∈hv,a∈h.fp)/\(ds.length<=i->J.stop i H)
abbrev IF:=aR->Option (List D×Tag)
def FI(X:Cx)(tg iter:Expr)(f:IF):Prop:=∃wi,PI X tg iter wi/\∀{H0} {S} {z} {aq} {Y} {U} {H} {R} {ds} {t},
 Ok X.K H0 S z aq Y U H->f Y=some (ds,t)->(∀H1 J hv,aN H H1->(∀h∈hv,Rep X.K H1 h.d h.v h.fp/\∀a∈h.fp,∀j,z a=some j->∃o,t=.sh o/\j∈o)->tR X.K J ds hv->R J H1)->wi U H R
def fV(f:EF):IF:=λY=>match f Y with
 |some (.lst ds,t)=>some (ds,t)
 |some (.c_ ds,t)=>some (ds,t)
 |some (.tup ds,t)=>some (ds,t)
 |_=>none
def aa7(K:Fr)(tl:TE):TI:=λU H R=>tl U H λx H1=>∃a,x=.ref a/\(((∃xs,cH K H1 a xs)/\R (C_ K a) H1)\/((∃xs,cO K H1 a xs)/\R (GU K a) H1))
def ag2(hl:PE X l tl):PI X tg l (aa7 X.K tl):=by
 intro af s U H R I h;refine hl.n I h λv s1 x H1 I1 r1 q1=>?_
 let#[a,e,q]:=q1;subst e;ext r1;rcases q with⟨⟨xs,hq⟩,q⟩|⟨⟨xs,hq⟩,q⟩
 .let#[ay,rv,p,hz]:=I1.list hq;refine wpAny_pyIter_list p.isList ?_;refine#[s1.heap.objs.size,[s1.heap.objs.size],_,_,H1,rfl,I1.kept (λb o e=>aaq _ e),aiO a _,#[_,abp _ rfl,rfl,rfl],λb hb=>?_,q];obtain rfl:b=s1.heap.objs.size:=by simpa using hb
  apply I1.rZ (abi _) (I1.aM.fresh (abi _))
 .let#[ay,rv,p,hz]:=I1.tuple hq;refine wpAny_pyIter_tuple (show s1.heap.IsTuple a ay.toArray from p) ?_;refine#[s1.heap.objs.size,[s1.heap.objs.size],_,_,H1,rfl,I1.kept (λb o e=>aaq _ e),agf a _,#[_,abp _ rfl,rfl,rfl],λb hb=>?_,q];obtain rfl:b=s1.heap.objs.size:=by simpa using hb
  apply I1.rZ (abi _) (I1.aM.fresh (abi _))
def Rep.fq{K:Fr}(r:Rep K H (.lst ds) v fp):∃a xs f,v=.ref a/\cH K H a xs/\aH K H ds xs f/\∀b∈f,b∈fp:=by
 cases r with
 |lst h rs=>apply#[_,_,_,rfl,cH.of h,rs,λb m=>aaf _ m]
def Rep.qp{K:Fr}(r:Rep K H (.c_ ds) v fp):∃a xs,v=.ref a/\cH K H a xs/\aH K H ds xs fp:=by
 cases r with
 |yW h rs=>apply#[_,_,rfl,h.sq,rs]
def Rep.jf{K:Fr}(r:Rep K H (.tup ds) v fp):∃a xs,v=.ref a/\cO K H a xs/\aH K H ds xs fp:=by
 cases r with
 |tup h rs=>apply#[_,_,rfl,h,rs]
def ahl{K:Fr}:tR K (C_ K a) ds [#[.lst ds,.ref a,fp]]:=by
 intro H i hh;have r:=hh #[.lst ds,.ref a,fp] aah;let#[a',xs,f,e,hq,rs,sub]:=r.fq;ext e;refine#[λd hd=>?_,λhl=>#[xs,hq,by rw[<- rs.length];apply hl]];let#[v,f',hv,rv,s']:=rs.get hd;refine#[#[xs,v,hq,hv],λx H1 y=>?_];let#[e1,y]:=y;subst e1;have e2:=y xs hq;rw[hv] at e2;ext e2;apply#[aN.refl _,f',rv,λb m=>#[_,aah,sub b (s' b m)]]
def agn{K:Fr}:tR K (C_ K a) ds [#[.c_ ds,.ref a,fp]]:=by
 intro H i hh;have r:=hh #[.c_ ds,.ref a,fp] aah;let#[a',xs,e,hq,rs]:=r.qp;ext e;refine#[λd hd=>?_,λhl=>#[xs,hq,by rw[<- rs.length];apply hl]];let#[v,f',hv,rv,s']:=rs.get hd;refine#[#[xs,v,hq,hv],λx H1 y=>?_];let#[e1,y]:=y;subst e1;have e2:=y xs hq;rw[hv] at e2;ext e2;apply#[aN.refl _,f',rv,λb m=>#[_,aah,s' b m]]
def Xv{K:Fr}:tR K (GU K a) ds [#[.tup ds,.ref a,fp]]:=by
 intro H i hh;have r:=hh #[.tup ds,.ref a,fp] aah;let#[a',xs,e,hq,rs]:=r.jf;ext e;refine#[λd hd=>?_,λhl=>#[xs,hq,by rw[<- rs.length];apply hl]];let#[v,f',hv,rv,s']:=rs.get hd;refine#[#[xs,v,hq,hv],λx H1 y=>?_];let#[e1,y]:=y;subst e1;have e2:=y xs hq;rw[hv] at e2;ext e2;apply#[aN.refl _,f',rv,λb m=>#[_,aah,s' b m]]
def Vz{K:Fr}{lo:Int}:tR K (yC lo n) ((List.range n).map λi:Nat=>D.int (lo+(i:Int))) []:=by
 intro H i _;refine#[λd hd=>?_,λhl=>?_]
 .rw[abV] at hd
  by_cases hi:i<n
  .rw[List.getElem?_range hi] at hd;ext hd;refine#[hi,λx H1 y=>?_];let#[e1,e2]:=y;subst e1 e2;apply#[aN.refl _,[],.int _,λb m=>nomatch m]
  .rw[ajs (by simpa using hi)] at hd;ext hd
 .rw[List.length_map,ajv] at hl;apply hl
def dQ.over{K:Fr}(ok:Ok K H0 S z aq Y U H)(g:dQ z H t fp):∀a∈fp,∀j,z a=some j->∃o,t=.sh o/\j∈o:=by
 intro a m j q;cases t with
 |sh o=>apply#[o,rfl,g a m j q]
 |own=>let#[#[o,w],_]:=ok.zd a j q;rw[g.2 a m] at w;ext w
 |lk=>let#[#[o,w],_]:=ok.zd a j q;rw[g.2 a m] at w;ext w
def fE{l:Expr}{f:EF}(hl:FP X l f):FI X tg l (fV f):=by
 let#[t,p,q]:=hl;exists 24,ag2 p;unfold fV at e;exists h,f Y,w,e,0;let#[d,Sj]:=w;rw[h] at e;cases d with
 |lst es=>
  ext e;refine q ok h λH1 v fp s1 r1 g1=>?_
  let#[a,xs,f,rfl,hq,rs,sub]:=r1.fq;apply#[a,rfl,.inl #[#[xs,hq],k H1 _ [#[.lst ds,.ref a,fp]] s1 (λh m=>by cases aaD.mp m;apply#[r1,g1.over ok]) ahl]]
 |c_ es=>
  ext e;refine q ok h λH1 v fp s1 r1 g1=>?_
  let#[a,xs,rfl,hq,rs]:=r1.qp;apply#[a,rfl,.inl #[#[xs,hq],k H1 _ [#[.c_ ds,.ref a,fp]] s1 (λh m=>by cases aaD.mp m;apply#[r1,g1.over ok]) agn]]
 |tup es=>
  ext e;refine q ok h λH1 v fp s1 r1 g1=>?_
  let#[a,xs,rfl,hq,rs]:=r1.jf;apply#[a,rfl,.inr #[#[xs,hq],k H1 _ [#[.tup ds,.ref a,fp]] s1 (λh m=>by cases aaD.mp m;apply#[r1,g1.over ok]) Xv]]
 |_=>ext e
def small(i:Int):Bool:=decide (-(2 ^ 62)<=i)&&decide (i<2 ^ 62)
def ze(g:EF):IF:=λY=>match g Y with
 |some (.int j,_)=>if small j=true then some ((List.range j.toNat).map λi:Nat=>D.int (0+(i:Int)),.own) else none
 |_=>none
def pW(f g:EF):IF:=λY=>match f Y,g Y with
 |some (.int i,_),some (.int j,_)=>if(small i&&small j)=true then some ((List.range (j-i).toNat).map λk:Nat=>D.int (i+(k:Int)),.own) else none
 |_,_=>none
def vA(h:small i=true):-(2 ^ 62)<=i/\i<2 ^ 62:=by
 let#[a,b]:=(aav _ _).mp h;apply#[aau a,aau b]
def Rk(hm:X.mg "range"=none)(ha:FP X a g)(hg:Gl X "range":=by rfl)(hs:starEach [a] X.env=[(false,eval a X.env)]:=by rfl):FI X tg (.Call (.Name "range" p) [a] [] pos) (ze g):=by
 let#[t,pa,q]:=ha;exists 24,Xn hg hm (dX pa fT hs) hs;unfold ze at e;exists h,g Y,w,e,0;let#[d,Sj]:=w;rw[h] at e;cases d with
 |int j=>
  dsimp only at e;let#[hj,e]:=ci e;ext e;refine q ok h λH1 v fp s1 r1 g1=>?_
  ext r1;apply#[j,rfl,(vA hj).1,(vA hj).2,k H1 _ [] s1 (λh m=>nomatch m) Vz]
 |_=>ext e
def yx(hm:X.mg "range"=none)(ha:FP X a f)(hb:FP X b g)(hg:Gl X "range":=by rfl)(hs:starEach [a,b] X.env=[(false,eval a X.env),(false,eval b X.env)]:=by rfl)(cV:starEach [b] X.env=[(false,eval b X.env)]:=by rfl):
  FI X tg (.Call (.Name "range" p) [a,b] [] pos) (pW f g):=by
 let#[t,pa,q]:=ha;let#[t',pb,q']:=hb;exists 24,Zo hg hm (dX pa (dX pb fT cV) (by rw[hs,cV])) hs cV;unfold pW at e;exists h,f Y,w,e,0;let#[d,Sj]:=w;cases h2:g Y with
 |none=>rw[h,h2] at e;ext d<;>ext e
 |some w=>
  let#[d2,gb]:=w;rw[h,h2] at e;cases d with
  |int i=>
   cases d2 with
   |int j=>
    dsimp only at e;let#[hj,e]:=ci e;ext e;let#[si,sj]:=(aav _ _).mp hj;refine q ok h λH1 v fp s1 r1 g1=>?_
    ext r1;refine q' (ok.same s1) h2 λH2 v fp s2 r2 g2=>?_
    ext r2;apply#[i,j,rfl,#[(vA si).1,(vA si).2,(vA sj).1,(vA sj).2],k H2 _ [] (s1.trans s2) (λh m=>nomatch m) Vz]
   |_=>ext e
  |_=>ext e
def m_:Tag->List Nat
 |.sh o=>o
 |_=>[]
def lM(t:Tag):Tag:=.sh (m_ t)
def ownAt(Y:aR)(j:Nat):Bool:=match Y[j]? with
 |some (some (_,.own))=>true
 |_=>false
def oz(o:List Nat)(Y:aR):List Nat:=o.filter (ownAt Y)
def Tu:Tag->Tag
 |.own=>.lk
 |t=>t
def PM:Tag->Tag
 |.lk=>.own
 |t=>t
def CS(f:Tag->Tag):Slot->Slot
 |some (d,t)=>some (d,f t)
 |none=>none
def qA:List Nat->aR->aR
 |[],Y=>Y
 |j::r,Y=>qA r (Y.modify j (CS Tu))
def uO:List Nat->aR->aR
 |[],Y=>Y
 |j::r,Y=>uO r (Y.modify j (CS PM))
def cU(g:GF)(t:Tag)(f:SF):List D->SF
 |[],Y=>some (.nx Y)
 |d::ds,Y=>match g d t Y with
  |none=>none
  |some aT=>match f aT with
   |some (.nx aY)=>cU g t f ds aY
   |some (.ct aY)=>cU g t f ds aY
   |some (.bk aY)=>some (.nx aY)
   |some (.rt r)=>some (.rt r)
   |some (.er raw cn aY)=>some (.er raw cn aY)
   |none=>none
def jl(it:IF)(g:GF)(f:SF):SF:=λY=>match it Y with
 |none=>none
 |some (ds,t)=>match cU g (lM t) f ds (qA (oz (m_ t) Y) Y) with
  |some (.nx Y')=>some (.nx (uO (oz (m_ t) Y) Y'))
  |some (.rt d)=>some (.rt d)
  |some (.er raw cn Y')=>some (.er raw cn (uO (oz (m_ t) Y) Y'))
  |_=>none
theorem Dj:∀{ks} {Y} {i} {d} {t},(qA ks Y)[i]? = some (some (d,t))->∃t',Y[i]? = some (some (d,t'))/\(t=t'\/(t'=.own/\t=.lk))/\(i∈ks->t≠.own)
 |[],Y,i,d,t,h=>#[t,h,.inl rfl,λm=>nomatch m]
 |j::r,Y,i,d,t,h=>by
  let#[t1,h1,h2,h3]:=Dj (ks:=r) h;rw[List.getElem?_modify] at h1;exists e,Y[i]?,s,h1;have iJ:(if j=i then CS Tu s else s)=some (d,t1):=abH h1
  by_cases hj:j=i
  .rw[if_pos hj] at iJ;cases s with
   |none=>ext iJ
   |some p=>
    let#[d0,t0]:=p;ext iJ;refine#[t0,rfl,?_,λ_=>?_]
    .rcases h2 with h2|⟨h2,mS⟩
     .cases t0<;>first|exact .inl h2|exact .inr #[rfl,h2]
     .cases t0<;>ext h2
    .rcases h2 with h2|⟨h2,mS⟩
     .rw[h2];ext t0<;>(intro z;ext z)
     .rw[mS];intro z;ext z
  .rw[aa0 hj] at iJ;subst iJ;refine#[t1,rfl,h2,λm=>?_];rcases aaA.mp m with z|z
   .exact absurd z.symm hj
   .exact h3 z
theorem RE:∀{ks} {Y},(qA ks Y).length=Y.length
 |[],_=>rfl
 |_::r,Y=>(RE (ks:=r)).trans (List.length_modify ..)
theorem Vw:∀{ks} {Y},(uO ks Y).length=Y.length
 |[],_=>rfl
 |_::r,Y=>(Vw (ks:=r)).trans (List.length_modify ..)
theorem Hr:∀{ks} {Y} {i} {d} {t},(uO ks Y)[i]? = some (some (d,t))->∃t',Y[i]? = some (some (d,t'))/\(t=t'\/(t'=.lk/\t=.own/\i∈ks))
 |[],Y,i,d,t,h=>#[t,h,.inl rfl]
 |j::r,Y,i,d,t,h=>by
  let#[t1,h1,h2]:=Hr (ks:=r) h;rw[List.getElem?_modify] at h1;exists e,Y[i]?,s,h1;have iJ:(if j=i then CS PM s else s)=some (d,t1):=abH h1
  by_cases hj:j=i
  .rw[if_pos hj] at iJ;cases s with
   |none=>ext iJ
   |some p=>
    let#[d0,t0]:=p;ext iJ;refine#[t0,rfl,?_];rcases h2 with h2|⟨h2,mS,h3⟩
    .cases t0<;>first|exact .inl h2|exact .inr #[rfl,h2,by rw[hj];apply aah]
    .cases t0<;>ext h2
  .rw[aa0 hj] at iJ;subst iJ;refine#[t1,rfl,?_];rcases h2 with h2|⟨h2,mS,h3⟩
   .exact .inl h2
   .exact .inr #[h2,mS,aaf _ h3]
def wM(z:Addr->Option Nat)(hv:List Hv):List sE:=hv.map λh=>#[h.d,h.v,h.fp,z]
def zh(z:Addr->Option Nat)(aq:List sE):List sE:=aq.map λh=>{ h with z0:=z }
section
variable{K:Fr}
def Ok.begin(ok:Ok K H0 S z aq Y U H)(hh:∀h∈hv,Rep K H h.d h.v h.fp/\∀a∈h.fp,∀j,z a=some j->∃o,t=.sh o/\j∈o):
  Ok K H0 S z (wM z hv++zh z aq) (qA (oz (m_ t) Y) Y) U H:=by
 refine#[λi d tg e=>?_,λp m=>?_,ok.zd,ok.en,by rw[RE];apply ok.ln]
 .let#[t',e',h,_]:=Dj e;let#[v,fp,a,b,c]:=ok.sl i d t' e';refine#[v,fp,a,b,?_];rcases h with h|⟨h,h'⟩
  .subst h;apply c
  .subst h h';apply c
 .have aac:∀j,wK Y j->wK (qA (oz (m_ t) Y) Y) j:=λj n d e=>by
   let#[t',e',h,_]:=Dj e;rcases h with h|⟨h,h'⟩
   .subst h;apply n d e'
   .cases h'
  rcases abc.mp m with m|m
  .let#[h,hm,rfl]:=abn.mp m;refine#[(hh h hm).1,λa ha j q=>#[q,λd e=>?_]];let#[o,rfl,hj]:=(hh h hm).2 a ha j q;let#[t',e',h',n]:=Dj e;rcases h' with h'|⟨h',Ah⟩
   .subst h';apply n (acW.mpr #[hj,by unfold ownAt;rw[e']]) rfl
   .cases Ah
  .let#[h,hm,rfl]:=abn.mp m;let#[r,hz]:=ok.hl h hm;apply#[r,λa ha j q=>#[q,aac j (hz a ha j q).2]]
def Ok.fin(ok:Ok K H0 S z aq Y U H)(bu:Ok K H0 S z' (wM z hv++zh z aq) Y' aG H'):Ok K H0 S z' aq (uO (oz (m_ t) Y) Y') aG H':=by
 refine#[λi d tg e=>?_,λp m=>?_,bu.zd,bu.en,by rw[Vw];apply bu.ln]
 .let#[t',e',h]:=Hr e;let#[v,fp,a,b,c]:=bu.sl i d t' e';refine#[v,fp,a,b,?_];rcases h with h|⟨h,h',_⟩
  .subst h;apply c
  .subst h h';apply c
 .let#[r,hz]:=bu.hl { p with z0:=z } (aaJ _ (abn.mpr #[p,m,rfl]));refine#[r,λa ha j q=>?_];let#[h1,h2]:=hz a ha j q;have h1:=h1;let#[h3,h4]:=(ok.hl p m).2 a ha j h1;refine#[h3,λd e=>?_];let#[t',e',h]:=Hr e;rcases h with h|⟨h,_,hk⟩
  .subst h;apply h2 d e'
  .have ho:=(acW.mp hk).2;unfold ownAt at ho;exists e0,Y[j]?,s,ho;cases s with
   |none=>ext ho
   |some p=>
    let#[d0,t0]:=p;ext t0<;>first|exact h4 d0 e0|ext ho
end
def jE(hc:X.calm=true)(hi:FI X tg iter it)(hg:FG X tg g is)(hb:FS X body f)(hp:PassesOwn (model X.prog X.w) X.A X.env X.xe:=by apply PassesOwn.never)
  (hs:∀x,foldedSetIterable iter X.env x=pure x:=by intro _;rfl):fG X (.For tg iter body [] pos) (jl it g f):=by
 let#[wi,pi,si]:=hi;let#[n1,tgt,pg,sg]:=hg;let#[tb,pb,sb]:=hb;exists 23,acv hp hc pi pg pb hs;unfold jl at e;exists h,it Y,w,e,0;let#[ds,t]:=w;rw[h] at e;dsimp only at e;refine si ok h λH1 J hv s1 hh J5=>?_
 exists ho,cU g (lM t) f ds (qA (oz (m_ t) Y) Y),out,e;have cG:=ok.same s1;have ou:=cG.begin hh;have fin:∀{z'} {Y'} {aG} {H'},Ok X.K H0 S z' (wM z hv++zh z aq) Y' aG H'->out=.nx Y'->Kp X U aG->E.nx aG H':=λ{z' Y' aG H'} bu eo kp=>by
  subst eo;ext e;apply k z' aG H' (cG.fin bu) kp
 refine#[λi m aG H'=>m=ds.length-i/\∃z' Y',Ok X.K H0 S z' (wM z hv++zh z aq) Y' aG H'/\cU g (lM t) f (ds.drop i) Y'=some out/\Kp X U aG,#[ds.length,rfl,z,_,ou,ho,.refl _ _],?_]
 rintro i m aG H' ⟨rfl,z',Y',bu,e',kp⟩
 have hH:∀h∈hv,Rep X.K H' h.d h.v h.fp:=λh m=>(bu.hl _ (aaL _ (abn.mpr #[h,m,rfl]))).1
 let#[go,stop]:=J5 H' i hH
 by_cases hl:ds.length<=i
 .refine .inl #[stop hl,?_];rw[List.drop_eq_nil_of_le hl] at e';ext e';apply fin bu rfl kp
 .have cY:=Nat.lt_of_not_le hl;rw[ajA cY] at e';let#[g1,g2]:=go ds[i] (aa8 cY);refine .inr #[g1,λi7 H2=>∃z' Y',Ok X.K H0 S z' (wM z hv++zh z aq) Y' i7 H2/\cU g (lM t) f (ds.drop (i+1)) Y'=some out/\Kp X U i7,λi7 H2 hn=>#[ds.length-(i+1),by omega,rfl,hn],λx H2 y=>?_];let#[s2,fp,r2,sub]:=g2 x H2 y;unfold cU at e';cases tQ:g ds[i] (lM t) Y' with
  |none=>rw[tQ] at e';ext e'
  |some aT=>
   rw[tQ] at e';dsimp only at e';refine sg (tag:=lM t) bu s2 r2 (λa ha j q=>?_) tQ λz2 i7 iG a3=>?_
   .let#[h,hm,MH]:=sub a ha;let#[_,hz]:=bu.hl _ (aaL _ (abn.mpr #[h,hm,rfl]));let#[q0,_]:=hz a MH j q;let#[o',rfl,hj]:=(hh h hm).2 a MH j q0;apply hj
   .cases hf:f aT with
    |none=>rw[hf] at e';ext e'
    |some o1=>
     rw[hf] at e';refine sb iG hf ?_;cases o1 with
     |nx aY=>apply λz3 d9 H3 jx b=>#[z3,aY,jx,e',(kp.trans (.off n1 a3.2)).trans b]
     |ct aY=>apply λz3 d9 H3 jx b=>#[z3,aY,jx,e',(kp.trans (.off n1 a3.2)).trans b]
     |bk aY=>
      ext e';apply λz3 d9 H3 jx b=>fin jx rfl ((kp.trans (.off n1 a3.2)).trans b)
     |rt d=>
      ext e';ext e;apply k
     |er raw cn aY=>
      ext e';ext e;let#[ES,th,q]:=k;apply#[ES,th,λz3 d9 H3 C jx b hC=>q z3 d9 H3 C (cG.fin jx) ((kp.trans (.off n1 a3.2)).trans b) hC]
def jg(c:TF)(f:SF):Nat->SF
 |0,_=>none
 |n+1,Y=>match c Y with
  |some false=>some (.nx Y)
  |some true=>match f Y with
   |some (.nx Y')=>jg c f n Y'
   |some (.ct Y')=>jg c f n Y'
   |some (.bk Y')=>some (.nx Y')
   |some (.rt d)=>some (.rt d)
   |some (.er raw cn Y')=>some (.er raw cn Y')
   |none=>none
  |none=>none
def T3(n:Nat)(hc:FT X c tc)(hb:FS X body f)(hp:PassesOwn (model X.prog X.w) X.A X.env X.xe:=by apply PassesOwn.never):fG X (.While c body [] pos) (jg tc f n):=by
 let#[t,p,q]:=hc;let#[tb,pb,qb]:=hb;exists 23,Pz hp p pb;refine#[λm aG H'=>∃z' Y',Ok X.K H0 S z' aq Y' aG H'/\jg tc f m Y'=some o/\Kp X U aG,#[n,z,Y,ok,e,.refl _ _],?_]
 rintro m aG H' ⟨z',Y',bu,e',kp⟩
 cases m with
 |zero=>ext e'
 |succ m=>
  unfold jg at e';exists hc,tc Y',b,e';refine q bu hc λH1 s1=>?_
  cases b with
  |false=>
   ext e';rw[aa0 aaH];apply k z' aG H1 (bu.same s1) kp
  |true=>
   rw[if_pos rfl];dsimp only at e';exists hf,f Y',o1,e';refine#[λi7 H2=>∃z2 aY,Ok X.K H0 S z2 aq aY i7 H2/\jg tc f m aY=some o/\Kp X U i7,λi7 H2 hn=>#[m,aiV m,hn],?_];refine qb (bu.same s1) hf ?_;cases o1 with
   |nx aY=>apply λz3 d9 H3 jx b=>#[z3,aY,jx,e',kp.trans b]
   |ct aY=>apply λz3 d9 H3 jx b=>#[z3,aY,jx,e',kp.trans b]
   |bk aY=>
    ext e';apply λz3 d9 H3 jx b=>k z3 d9 H3 jx (kp.trans b)
   |rt d=>
    ext e';apply k
   |er raw cn aY=>
    ext e';let#[ES,th,q]:=k;apply#[ES,th,λz3 d9 H3 C jx b hC=>q z3 d9 H3 C jx (kp.trans b) hC]
def JA(K:Fr)(f:EF):TE:=λU H Q=>∃H0 S z aq Y d tg,Ok K H0 S z aq Y U H/\f Y=some (d,tg)/\∀H' v fp,aN H H'->Rep K H' d v fp->dQ z H tg fp->Q v H'
def A5(K:Fr)(f:TF):TT:=λU H Q=>∃H0 S z aq Y b,Ok K H0 S z aq Y U H/\f Y=some b/\∀H',aN H H'->Q b H'
def Gw(K:Fr)(g:GF)(is:List Nat):TG:=λv U H1 Q=>∃H0 S z aq Y H d tag fp Y',Ok K H0 S z aq Y U H/\aN H H1/\Rep K H1 d v fp/\dQ z H tag fp/\g d tag Y=some Y'/\
 ∀z' aG,Ok K H0 S z' aq Y' aG H1->(aG.length=U.length/\∀j,j∉is->aG[j]? = U[j]?)->Q aG H1
def FP.pe(h:FP X e f):PE X e (JA X.K f):=by
 let#[t,p,q]:=h
 rintro af s U H Q I ⟨H0,S,z,aq,Y,d,tg,ok,e,k⟩
 apply p af s U H Q I (q ok e k)
def FT.pt(h:FT X e f):PT X e (A5 X.K f):=by
 let#[t,p,q]:=h
 rintro af s U H Q I ⟨H0,S,z,aq,Y,b,ok,e,k⟩
 apply p af s U H Q I (q ok e k)
def FG.pg(h:FG X e g is):PG X e (Gw X.K g is):=by
 let#[_,t,p,q]:=h
 rintro af s U H1 v u Q I r ⟨H0,S,z,aq,Y,H,d,tag,fp,Y',ok,sm,rp,tk,e,k⟩
 apply p af s U H1 v u Q I r (q ok sm rp tk e k)
def Dg(X:Cx)(ifs:List Expr)(f:TF):Prop:=tY X ifs (A5 X.K f)
def oN:TF:=λ_=>some true
def mV:Dg X [] oN:=by
 rintro af s U H Q I ⟨H0,S,z,aq,Y,b,ok,e,k⟩
 ext e;apply wpAny_tests_nil #[H,I,k H (aN.refl H)]
def lA(h:FT X c f):Dg X [c] f:=SG h.pt
def jK(js:List (Option Nat))(Y:aR):aR:=js.map λj=>match j with
 |none=>none
 |some j=>match Y[j]? with
  |some (some (d,_))=>some (d,.sh [])
  |_=>none
def jQ(g:GF)(tt:TF)(te:EF)(Y:aR)(d:D):Option (Option D):=match g d (.sh []) Y with
 |none=>none
 |some aT=>match tt aT with
  |none=>none
  |some false=>some none
  |some true=>match te aT with
   |none=>none
   |some (e,t)=>if kq t=true then some (some e) else if aE e=true then some (some e) else none
def pQ(h:D->Option (Option D)):List D->Option (List D)
 |[]=>some []
 |d::ds=>match h d with
  |none=>none
  |some none=>pQ h ds
  |some (some e)=>match pQ h ds with
   |none=>none
   |some es=>some (e::es)
def gK(js:List (Option Nat))(it:IF)(g:GF)(tt:TF)(te:EF):EF:=λY=>match it Y with
 |none=>none
 |some (ds,_)=>if ds.length<sizeLine then(pQ (jQ g tt te (jK js Y)) ds).map λes=>(.lst es,.own) else none
theorem R3:∀{ds},(∀d∈ds,h d=some (k d))->pQ h ds=some (ds.filterMap k)
 |[],_=>rfl
 |d::ds,e=>by
  unfold pQ;rw[e d aah,R3 λx m=>e x (aaf _ m),afr];cases k d<;>rfl
section
variable{X:Cx}
def OD(yb:∀i∈is,js[i]? = some none)
  (si:∀{H0} {S} {z} {aq} {Y} {U} {H} {R} {ds} {t},
   Ok X.K H0 S z aq Y U H->it Y=some (ds,t)->(∀H1 J hv,aN H H1->(∀h∈hv,Rep X.K H1 h.d h.v h.fp/\∀a∈h.fp,∀j,z a=some j->∃o,t=.sh o/\j∈o)->tR X.K J ds hv->R J H1)->wi U H R)
  (ok:Ok X.K H0 S z aq Y U H) (e:gK js it g tt te Y=some (d,tg))
  (k:∀H' v fp,aN H H'->Rep X.K H' d v fp->dQ z H tg fp->Q v H'):HE wi js (Gw X.K g is) (A5 X.K tt) (JA X.K te) U H Q:=by
 unfold gK at e;cases h:it Y with
 |none=>rw[h] at e;ext e
 |some w=>
  let#[ds,t]:=w;rw[h] at e;dsimp only at e
  by_cases hz:ds.length<sizeLine
  .rw[if_pos hz] at e;cases Fc:pQ (jQ g tt te (jK js Y)) ds with
   |none=>rw[Fc] at e;ext e
   |some es=>
    rw[Fc] at e;ext e;refine si ok h λH1 J hv s1 hh J5 Dd vt=>?_
    have cG:=ok.same s1;have inner:∀(aG) (H2),aN H1 H2->(∃o,H2 Dd=some o)->aG.length=js.length->(∀j,j∉is->aG[j]? = (mG js U)[j]?)->Ok X.K H1 [] (λa=>if a=Dd then some js.length else none) (wM (λ_=>none) hv) (jK js Y) aG H2:=by
     intro aG H2 s2 Ll hlen C8;have nD:∀{a} {o},H1 a=some o->a≠Dd:=λe=>dh e vt
     refine#[λi d t e=>?_,λp m=>?_,λa j e=>?_,λa o e _=>s2 _ _ e,by unfold jK;rw[List.length_map,hlen]]
     .unfold jK at e;rw[abV] at e;cases hj:js[i]? with
      |none=>rw[hj] at e;ext e
      |some o=>
       rw[hj] at e;cases o with
       |none=>ext e
       |some j=>
        have e:(match Y[j]? with|some (some (d,_))=>some (d,Tag.sh [])|_=>none)=some (d,t):=abH e;cases hr:Y[j]? with
        |none=>rw[hr] at e;ext e
        |some s=>
         rw[hr] at e;cases s with
         |none=>ext e
         |some p=>
          let#[d0,t0]:=p;have e1:d0=d/\Tag.sh []=t:=Prod.mk.inj (abH e);let#[rfl,rfl]:=e1;let#[v,fp,hs,r,_]:=cG.sl j d0 t0 hr;have hi:i∉is:=λm=>by rw[yb i m] at hj;ext hj
          refine#[v,fp,?_,r.same s2,λa m q e=>?_]
          .rw[C8 i hi];unfold mG;rw[abV,hj];show some ((U[j]?).join)=some (some v);rw[hs];rfl
          .let#[o,w,_]:=r.fu a m;dsimp only at e;rw[aa0 (nD w)] at e;ext e
     .let#[h,hm,rfl]:=abn.mp m;refine#[(hh h hm).1.same s2,λa ha q e=>?_];let#[o,w,_]:=(hh h hm).1.fu a ha;rw[aa0 (nD w)] at e;ext e
     .by_cases w:a=Dd
      .rw[w];apply#[Ll,.inl vt]
      .rw[aa0 w] at e;ext e
    refine#[λi m aG H'=>m=ds.length - i/\aN H1 H'/\aG.length=js.length/\(∀j,j∉is->aG[j]? = (mG js U)[j]?)/\∃done rest vs fp,H' Dd=some (.lst vs)/\aH X.K H' done vs fp/\fp.Nodup/\(∀a∈fp,H1 a=none/\a≠Dd)/\
     pQ (jQ g tt te (jK js Y)) (ds.drop i)=some rest/\done++rest=es/\done.length<=i,?_,?_]
    .refine#[ds.length,rfl,λb o e=>by rw[aP (dh e vt)];apply e,by unfold mG;rw[List.length_map],λ_ _=>rfl,[],es,[],[],cg,.nil,acm,(λa m=>nomatch m),Fc,rfl,abi _]
    .rintro i m aG H' ⟨rfl,sH,hlen,C8,done,rest,vs,fp,hD,rs,nd,fr,hr,rfl,hle⟩
     let#[go,stop]:=J5 H' i λh m=>(hh h m).1.same sH
     by_cases hl:ds.length<=i
     .refine .inl #[stop hl,?_];rw[List.drop_eq_nil_of_le hl] at hr;ext hr;rw[ack] at k;refine k H' (.ref Dd) (Dd::fp) (s1.trans sH) (.lst hD rs) #[abo.mpr #[λm=>(fr Dd m).2 rfl,nd],λa m=>?_];rcases aaA.mp m with e|m
      .rw[e];apply s1.free vt
      .exact s1.free (fr a m).1
     .have cY:i<ds.length:=Nat.lt_of_not_le hl;rw[ajA cY] at hr;let#[g1,g2]:=go ds[i] (aa8 cY);refine .inr #[g1,λx H2 y=>?_];let#[s2,jF,r2,sub]:=g2 x H2 y;have ou:=inner aG H' sH #[_,hD] hlen C8;unfold pQ at hr;cases hE:jQ g tt te (jK js Y) ds[i] with
      |none=>rw[hE] at hr;ext hr
      |some oe=>
       rw[hE] at hr;unfold jQ at hE;cases tQ:g ds[i] (.sh []) (jK js Y) with
       |none=>rw[tQ] at hE;ext hE
       |some aT=>
        rw[tQ] at hE;dsimp only at hE;have tko:dQ (λa=>if a=Dd then some js.length else none) H' (.sh []) jF:=λa m j e=>by
         let#[h,hm,ha]:=sub a m;let#[o,w,_]:=(hh h hm).1.fu a ha;dsimp only at e;rw[aa0 (dh w vt)] at e;ext e
        refine#[H1,[],_,_,jK js Y,H',ds[i],.sh [],jF,aT,ou,s2,r2,tko,tQ,λz3 d9 iG UG=>?_];have UN:d9.length=js.length:=UG.1.trans hlen;have Nq:∀j,j∉is->d9[j]? = (mG js U)[j]? :=λj hj=>(UG.2 j hj).trans (C8 j hj)
        cases ht:tt aT with
        |none=>rw[ht] at hE;ext hE
        |some b=>
         rw[ht] at hE;refine#[H1,[],z3,_,aT,b,iG,ht,λH4 s4=>?_];have Em:aN H1 H4:=(sH.trans s2).trans s4;have AH:aN H' H4:=s2.trans s4;cases b with
         |false=>
          ext hE;refine afB ?_;apply#[ds.length-(i+1),by lia,rfl,Em,UN,Nq,done,rest,vs,fp,AH _ _ hD,rs.same AH,nd,fr,hr,rfl,Nat.le_succ_of_le hle]
         |true=>
          refine ait ?_;dsimp only at hE;cases KA:te aT with
          |none=>rw[KA] at hE;ext hE
          |some w=>
           let#[y,ty]:=w;rw[KA] at hE;dsimp only at hE;refine#[H1,[],z3,_,aT,y,ty,iG.same s4,KA,λH5 yv fy s5 ry gy=>?_];have zV:oe=some y/\fy.Nodup/\∀a∈fy,H4 a=none:=by
            by_cases ho:kq ty=true
            .rw[if_pos ho] at hE;ext hE;apply#[rfl,by ext ty<;>first|exact gy|ext ho]
            .rw[aa0 ho] at hE
             by_cases hi:aE y=true
             .rw[if_pos hi] at hE;ext hE;have hn:=ry.aE hi;subst hn;apply#[rfl,acm,λa m=>nomatch m]
             .rw[aa0 hi] at hE;ext hE
           let#[rfl,Y8,E2]:=zV;dsimp only at hr;cases yU:pQ (jQ g tt te (jK js Y)) (ds.drop (i+1)) with
           |none=>rw[yU] at hr;ext hr
           |some r'=>
            rw[yU] at hr;ext hr;have Qp:aN H' H5:=AH.trans s5;have M3:H5 Dd=some (.lst vs):=Qp _ _ hD;have lv:vs.length<sizeLine:=by rw[<- rs.length];lia
            have im:bf H5 (upd H5 Dd (.lst (vs++[yv]))):=bf.upd M3 rfl;have n1:∀a∈fp++fy,a≠Dd:=λa m=>by
             rcases abc.mp m with m|m
             .exact(fr a m).2
             .intro e;have:=E2 a m;rw[e,AH _ _ hD] at this;ext this
            have rs5:aH X.K H5 (done++[y]) (vs++[yv]) (fp++fy):=by
             have q:=aH.append (rs.same Qp) (aH.cons ry .nil);rw[ack] at q;apply q
            refine#[vs,M3,lv,ds.length-(i+1),by lia,rfl,λb o e=>?_,UN,Nq,done++[y],r',vs++[yv],fp++fy,cg,rs5.frame (λa m=>aP (n1 a m)) im,?_,λa m=>?_,yU,?_,?_]
            .rw[aP (dh e vt)];apply s5 _ _ (Em _ _ e)
            .refine adv.mpr #[nd,Y8,λa m b m' e=>?_];subst e;let#[o,w,_]:=(rs.same AH).fu a m;rw[E2 a m'] at w;ext w
            .refine#[?_,n1 a m];rcases abc.mp m with m|m
             .exact(fr a m).1
             .exact Em.free (E2 a m)
            .rw[afQ];rfl
            .rw[aaY,aeS];lia
  .rw[aa0 hz] at e;ext e
def ja{ifs:List Expr}{tt:TF}{te:EF}{is:List Nat}(S:mK X M js sc)(hc:X.calm=true)(hi:FI X tg iter it)(yb:∀i∈is,js[i]? = some none)
  (hb:∀s3 H3 fp,FG (fB X M sc s3 H3 fp) tg g is/\Dg (fB X M sc s3 H3 fp) ifs tt/\FP (fB X M sc s3 H3 fp) elt te) (hs:∀x,foldedSetIterable iter X.env x=pure x:=by intro _;rfl) :
  FP X (.ListComp elt [#[tg,iter,ifs,0]] sc pos) (gK js it g tt te):=by
 let#[wi,pi,si]:=hi;apply#[_,Vl (tt:=A5 X.K tt) S hc pi (λs3 H3 fp=>#[(hb s3 H3 fp).1.pg,(hb s3 H3 fp).2.1,(hb s3 H3 fp).2.2.pe]) hs,@λH0 S z aq Y U H Q d tg ok e k=>OD yb si ok e k]
def Aq(i:Nat){ifs:List Expr}{js:List (Option Nat)}{it:IF}{is:List Nat}(hN:X.N.Nodup)(S:mK X M js sc)(hc:X.calm=true)(hi:FI X tg iter it)
  (yb:∀i∈is,js[i]? = some none) (hb:∀s3 H3 fp,FG (fB X M sc s3 H3 fp) tg g is/\Dg (fB X M sc s3 H3 fp) ifs tt/\FP (fB X M sc s3 H3 fp) elt te) (hy:X.N[i]? = some y:=by rfl) (hl:X.env.scope.names.lookup y=some .local:=by rfl)
  (jo:swapsWith (.ListComp elt [#[tg,iter,ifs,0]] sc pos) (some (.Name y py)) K9.line X.env=pure true:=by rfl) (hs:∀x,foldedSetIterable iter X.env x=pure x:=by intro _;rfl) (oS:lG X y=false:=by rfl) :
  fG X (.Assign [.Name y py] (.ListComp elt [#[tg,iter,ifs,0]] sc pos) K9) (dG i (gK js it g tt te)):=by
 let#[wi,pi,si]:=hi;exists 23,aa3 (g:=Gw X.K g is) (tt:=A5 X.K tt) (te:=JA X.K te) hN hy hl S hc pi (λs3 H3 fp=>#[(hb s3 H3 fp).1.pg,(hb s3 H3 fp).2.1,(hb s3 H3 fp).2.2.pe]) jo hs;unfold dG at e;exists h,gK js it g tt te Y,w,e,0;let#[d,tg]:=w;rw[h] at e;ext e;refine OD yb si ok h λH1 v fp s1 r1 g1=>?_
 apply ok.stored s1 r1 g1 λz' bu=>k z' _ H1 bu (.set hy oS)
end
def vZ(n:Nat)(ds:List D):aR:=ds.map (λd=>some (d,.sh []))++List.replicate (n-ds.length) none
def bJ(n N:Nat)(b:SF):List D->Option D:=λds=>if ds.length=n then(match b (vZ N ds) with
 |some (.rt d)=>some d
 |some (.nx _)=>some .aJ
 |_=>none) else none
abbrev CF:=List D->List D->Option D
def D8(N:Nat)(es ds:List D):aR:=es.map (λd=>some (d,.own))++(ds.map (λd=>some (d,.sh []))++List.replicate (N-(ds.length+es.length)) none)
def runC(n N:Nat)(b:SF):CF:=λes ds=>if ds.length + es.length=n then(match b (D8 N es ds) with
 |some (.rt d)=>some d
 |some (.nx _)=>some .aJ
 |_=>none) else none
def spC(K:Fr)(G:CF):Sp:=λvs H Q _=>∃us ws es ds aS dw d,vs=us++ws/\aH K H es us aS/\aS.Nodup/\aH K H ds ws dw/\(∀b∈dw,b∉aS)/\G es ds=some d/\
 ∀H' v fp,(∀a o,H a=some o->a∉aS->H' a=some o)->Rep K H' d v fp->fp.Nodup->(∀a∈fp,H a=none\/a∈aS)->Q v H'
def aH.own{K:Fr}:∀{es} {us} {fp} (k),aH K H es us fp->fp.Nodup->∃z:Addr->Option Nat,(∀i d,es[i]? = some d->∃v f,us[i]? = some v/\Rep K H d v f/\f.Nodup/\∀a∈f,z a=some (k+i))/\∀a j,z a=some j->a∈fp
 |_,_,_,_,.nil,_=>#[λ_=>none,λi d e=>by simp at e,λ_ _ e=>nomatch e]
 |_,_,_,k,.cons (f1:=f1) (f2:=f2) r t,n=>by
  classical
  let#[n1,n2,n3]:=adv.mp n;let#[z,h1,h2]:=t.own (k+1) n2;refine#[λa=>if a∈f1 then some k else z a,λi d e=>?_,λa j e=>?_]
  .cases i with
   |zero=>ext e;apply#[_,f1,rfl,r,n1,λa m=>if_pos m]
   |succ i=>
    let#[v,f,a1,a2,a3,a4]:=h1 i d e;apply#[v,f,a1,a2,a3,λa m=>(aa0 λq=>n3 a q a (h2 a _ (a4 a m)) rfl).trans ((a4 a m).trans (by rw[Nat.add_assoc,Nat.add_comm 1]))]
  .dsimp only at e
   split at e
   .exact aaL _ (by assumption)
   .exact aaJ _ (h2 a j e)
section
variable{K:Fr}
def Ok.mY{H:Hp}(r0:aH K H es us aS)(nd:aS.Nodup)(rs:aH K H ds ws dw)(dj:∀b∈dw,b∉aS):∃z,Ok K H aS z [] (D8 N.length es ds) (start N (us++ws)) H:=by
 let#[z,h1,h2]:=r0.own 0 nd;have l0:=r0.length;have l1:=rs.length;unfold D8 start;rw[adS,afQ];refine#[z,λi d' t' e'=>?_,(λp m=>by ext m),(λa j e=>#[let#[o,w,_]:=r0.fu a (h2 a j e);#[o,w],.inr (h2 a j e)]),(λa o e _=>e),?_]
 .by_cases hi:i<es.length
  .rw[agY (by rw[List.length_map];apply hi),abV,aa8 hi] at e';ext e';let#[v,g,hv,rv,n',hz]:=h1 i _ (aa8 hi);rw[ajI] at hz;apply#[v,g,(agY (by rw[List.length_map];lia)).trans (by rw[abV,hv];rfl),rv,n',hz]
  .rw[aht (by rw[List.length_map];lia),List.length_map] at e';rw[aht (by rw[List.length_map];lia),List.length_map,<- l0];generalize i-es.length=i at e' ⊢
   by_cases hi:i<ds.length
   .rw[agY (by rw[List.length_map];apply hi),abV,aa8 hi] at e';ext e';let#[v,g,hv,rv,sub]:=rs.get (aa8 hi);apply#[v,g,(agY (by rw[List.length_map];lia)).trans (by rw[abV,hv];rfl),rv,λa m j e=>(dj a (sub a m) (h2 a j e)).elim]
   .rw[aht (by rw[List.length_map];lia),List.getElem?_replicate] at e'
    split at e'<;>ext e'
 .simp only[aaY,List.length_map,List.length_replicate]
  lia
def WZ{st:Stmt}(F:jj K x qual st f fd)(S:nC N ps (di st))
  (hb:∀(aZ:{c:Value // c=fd.code}) (A) (outer) (s) (H) (E),bR k (A.deeper (envOfC qual (di st) s.heap.objs.size f aZ)) cm->FS (ir dR P w K mg base N qual (di st) f aZ A outer s H E cm).gJ (iH st) b) :
  bS P w K mg base dR (k+1) f fd ps (spC K (runC ps.length N.length b)) cm:=by
 refine F.ok S (λvs H Q E h=>?_) (λaZ A outer s H vs Q E hr h=>?_)<;>let#[us,ws,es,ds,aS,dw,d,e0,r0,nd,rs,dj,e,q]:=h
 .unfold runC at e
  split at e
  .rename_i h;rw[e0,aaY,<- r0.length,<- rs.length,Nat.add_comm,h]
  .cases e
 .let#[t,p,sd]:=hb aZ A outer s H E hr;refine#[t,p,?_];let#[z,ok]:=Ok.mY r0 nd rs dj;rw[e0];unfold runC at e
  split at e
  .cases ho:b (D8 N.length es ds) with
   |none=>rw[ho] at e;ext e
   |some o=>
    rw[ho] at e;refine sd ok ho ?_;cases o with
    |rt d'=>ext e;apply q
    |nx Y'=>ext e;apply λz' aG H' bu _=>q H' .aJ [] bu.en .aJ acm λa m=>nomatch m
    |bk _=>ext e
    |ct _=>ext e
    |er _ _ _=>ext e
  .cases e
def E_{st:Stmt}(F:jj K x qual st f fd)(S:nC N ps (di st))
  (hb:∀(aZ:{c:Value // c=fd.code}) (A) (outer) (s) (H) (E),bR k (A.deeper (envOfC qual (di st) s.heap.objs.size f aZ)) cm->FS (ir dR P w K mg base N qual (di st) f aZ A outer s H E cm).gJ (iH st) b) :
  bS P w K mg base dR (k+1) f fd ps (a_ K (bJ ps.length N.length b)) cm:=
 (WZ F S hb).imp λvs H Q E #[ds,fp,d,rs,e,q]=>#[[],vs,[],ds,[],fp,d,rfl,.nil,.nil,rs,(λ_ _ m=>nomatch m),e,λH' v fp en r n fr=>q H' v fp (λa o e=>en a o e λm=>nomatch m) r n λa m=>(fr a m).resolve_right λm=>nomatch m]
end
def vP(f:Int->Int->Int):D->D->Option D
 |.int i,.int j=>some (.int (f i j))
 |_,_=>none
def vE(C:Int->Int->Bool)(f:Int->Int->Int):D->D->Option D
 |.int i,.int j=>if C i j=true then some (.int (f i j)) else none
 |_,_=>none
def xJ(f:Int->Int->Bool):D->D->Option D
 |.int i,.int j=>some (.bl (f i j))
 |_,_=>none
def qD(i j:Int):Bool:=(decide (-(2 ^ 64)<i)&&decide (i<2 ^ 64))||(decide (-(2 ^ 64)<j)&&decide (j<2 ^ 64))
def IL(_ j:Int):Bool:=decide (0<j)
def iz:=vP λi j=>i+j
def g7:=vP λi j=>i-j
def lu:=vE qD λi j=>i*j
def oMod:=vE IL λi j=>i % j
def oLt:=xJ λi j=>decide (i<j)
def oLe:=xJ λi j=>decide (i<=j)
def tW:=xJ λi j=>decide (j<i)
def DI:=xJ λi j=>decide (j<=i)
def oEq:D->D->Option D
 |.int i,.int j=>some (.bl (i==j))
 |.bl i,.bl j=>some (.bl (i==j))
 |.str i,.str j=>some (.bl (i==j))
 |.aJ,.aJ=>some (.bl true)
 |_,_=>none
def jA:D->D->Option D
 |.int i,.int j=>some (.bl (!(i==j)))
 |.bl i,.bl j=>some (.bl (!(i==j)))
 |.str i,.str j=>some (.bl (!(i==j)))
 |.aJ,.aJ=>some (.bl false)
 |_,_=>none
def pL:D->Bool
 |.aJ=>true
 |_=>false
def iV:D->D->Option D
 |d,.aJ=>some (.bl (pL d))
 |_,_=>none
def xw:D->D->Option D
 |d,.aJ=>some (.bl (!pL d))
 |_,_=>none
section
variable{K:Fr}
def OO:g9 K (nS λi j=>.int (g i j)) (vP g):=by
 intro H x y d1 d2 f1 f2 d Q r1 r2 e k;unfold vP at e
 split at e
 .cases e;apply#[_,_,r1.i_.1,r2.i_.1,k H _ (aN.refl H) (.int _)]
 .cases e
def tM:g9 K (nS λi j=>.bl (g i j)) (xJ g):=by
 intro H x y d1 d2 f1 f2 d Q r1 r2 e k;unfold xJ at e
 split at e
 .cases e;apply#[_,_,r1.i_.1,r2.i_.1,k H _ (aN.refl H) (.bl _)]
 .cases e
def Bd(h:∀i j,c i j=true->C i j):g9 K (rI C λi j=>.int (g i j)) (vE c g):=by
 intro H x y d1 d2 f1 f2 d Q r1 r2 e k;unfold vE at e
 split at e
 .rename_i i j;let#[hc,e]:=ci e;ext e;apply#[i,j,r1.i_.1,r2.i_.1,h i j hc,k H _ (aN.refl H) (.int _)]
 .cases e
def Xk(i j:Int)(h:qD i j=true):zy i j:=by
 unfold qD at h;unfold zy;rcases(aje _ _).mp h with h|h
 .let#[a,b]:=(aav _ _).mp h;apply .inl #[aau a,aau b]
 .let#[a,b]:=(aav _ _).mp h;apply .inr #[aau a,aau b]
def Qg:g9 K EJ oEq:=by
 intro H x y d1 d2 f1 f2 d Q r1 r2 e k;unfold oEq at e
 split at e
 .cases e;rw[r1.i_.1,r2.i_.1];refine#[rfl,?_];rw[Dl];apply k H _ (aN.refl H) (.bl _)
 .cases e;rw[r1.DW.1,r2.DW.1];refine#[rfl,?_];rw[CM];apply k H _ (aN.refl H) (.bl _)
 .cases e;rw[r1.xC.1,r2.xC.1];refine#[rfl,?_];rw[C1];apply k H _ (aN.refl H) (.bl _)
 .cases e;rw[r1.DC.1,r2.DC.1];apply#[rfl,by have:=k H (.bl true) (aN.refl H) (.bl _);simpa using this]
 .cases e
def ah3:g9 K Ug jA:=by
 intro H x y d1 d2 f1 f2 d Q r1 r2 e k;unfold jA at e
 split at e
 .cases e;rw[r1.i_.1,r2.i_.1];refine#[rfl,?_];rw[Dl];apply k H _ (aN.refl H) (.bl _)
 .cases e;rw[r1.DW.1,r2.DW.1];refine#[rfl,?_];rw[CM];apply k H _ (aN.refl H) (.bl _)
 .cases e;rw[r1.xC.1,r2.xC.1];refine#[rfl,?_];rw[C1];apply k H _ (aN.refl H) (.bl _)
 .cases e;rw[r1.DC.1,r2.DC.1];apply#[rfl,by have:=k H (.bl false) (aN.refl H) (.bl _);simpa using this]
 .cases e
theorem Rep.pL(r:Rep K H d v fp):decide (v=.aJ)=pL d:=by
 ext r<;>first|rfl|exact aaR (λe=>nomatch e)
def RP:g9 K (λx y H Q=>y=.aJ/\Q (.bl (decide (x=.aJ))) H) iV:=by
 intro H x y d1 d2 f1 f2 d Q r1 r2 e k;unfold iV at e
 split at e
 .cases e;ext r2;refine#[rfl,?_];rw[r1.pL];apply k H _ (aN.refl H) (.bl _)
 .cases e
def acB:g9 K (λx y H Q=>y=.aJ/\Q (.bl (!decide (x=.aJ))) H) xw:=by
 intro H x y d1 d2 f1 f2 d Q r1 r2 e k;unfold xw at e
 split at e
 .cases e;ext r2;refine#[rfl,?_];rw[r1.pL];apply k H _ (aN.refl H) (.bl _)
 .cases e
end
section
variable{X:Cx}
def d_(ha:FP X a fa)(hb:FP X b fb):FP X (.BinOp a .Add b pos) (e2 iz fa fb):=xZ V8 OO ha hb
def kO(ha:FP X a fa)(hb:FP X b fb):FP X (.BinOp a .Sub b pos) (e2 g7 fa fb):=xZ agV OO ha hb
def iP(ha:FP X a fa)(hb:FP X b fb):FP X (.BinOp a .Mult b pos) (e2 lu fa fb):=xZ ahA (Bd Xk) ha hb
def uy(ha:FP X a fa)(hb:FP X b fb):FP X (.BinOp a .Mod b pos) (e2 oMod fa fb):=xZ Wp (Bd λ_ _ h=>aau h) ha hb
def qz(ha:FP X a fa)(hb:FP X b fb):FT X (.Compare a [.Lt] [b] pos) (tV (e2 oLt fa fb)):=kD Mj tM ha hb (jV _)
def PU(ha:FP X a fa)(hb:FP X b fb):FT X (.Compare a [.Gt] [b] pos) (tV (e2 tW fa fb)):=kD aer tM ha hb (jV _)
def Ej(ha:FP X a fa)(hb:FP X b fb):FT X (.Compare a [.GtE] [b] pos) (tV (e2 DI fa fb)):=kD aia tM ha hb (jV _)
def k7(ha:FP X a fa)(hb:FP X b fb):FT X (.Compare a [.Eq] [b] pos) (tV (e2 oEq fa fb)):=kD Ji Qg ha hb (jV _)
def vU(ha:FP X a fa)(hb:FP X b fb):FT X (.Compare a [.NotEq] [b] pos) (tV (e2 jA fa fb)):=kD ZI ah3 ha hb (jV _)
def CU(ha:FP X a fa)(hb:FP X b fb):FT X (.Compare a [.Is] [b] pos) (tV (e2 iV fa fb)):=kD Qc RP ha hb (jV _)
def zg(ha:FP X a fa)(hb:FP X b fb):FT X (.Compare a [.IsNot] [b] pos) (tV (e2 xw fa fb)):=kD aaC acB ha hb (jV _)
def aeT(ha:FP X a fa)(hb:FP X b fb):FP X (.Compare a [.Eq] [b] pos) (e2 oEq fa fb):=qT Ji Qg ha hb (jV _)
def e1(op:D->Option D)(fa:EF):EF:=λY=>match fa Y with
 |some (d1,_)=>(op d1).map λd=>(d,.own)
 |none=>none
def pO(e:e1 op fa Y=some (d,tg)):∃d1 t1,fa Y=some (d1,t1)/\op d1=some d/\tg=.own:=by
 unfold e1 at e;exists h1,fa Y,p,e,0;let#[d1,t1]:=p;rw[h1] at e;dsimp only at e;exists h3,op d1,d3,e;ext e;apply#[d1,t1,rfl,h3,rfl]
def qZ(K:Fr)(r:List V->Hp->VK->Prop)(op:D->Option D):Prop:=∀(H) (x) (d1) (f1) (d) (Q),Rep K H d1 x f1->op d1=some d->
 (∀H' v fp,aN H H'->Rep K H' d v fp->fp.Nodup->(∀a∈fp,H a=none)->Q v H')->r [x] H Q
def fp_1(dd:qZ X.K r op)(ha:FP X a fa)(he:∀ta,PE X a ta->PE X e (Fj r (Nb ta A6))):FP X e (e1 op fa):=by
 let#[t,p,q]:=ha;exists 21,he t p;let#[d1,t1,h1,h2,rfl]:=pO e;refine q ok h1 λH1 x f1 s1 r1 _=>?_
 apply dd H1 x d1 f1 d Q r1 h2 λH2 v fp s2 r2 nd fr=>k H2 v fp (s1.trans s2) r2 #[nd,λa m=>s1.free (fr a m)]
def gH:D->Option D
 |.lst ds=>some (.int ds.length)
 |.c_ ds=>some (.int ds.length)
 |.tup ds=>some (.int ds.length)
 |.b_ es=>some (.int es.length)
 |_=>none
def ic.or'(h:ic X f r)(h':ic X f r'):ic X f (λxs H Q=>r xs H Q\/r' xs H Q):=by
 intro af s U H xs us Q I rv q;rcases q with q|q
 .exact h af s U H xs us Q I rv q
 .exact h' af s U H xs us Q I rv q
def aaw:qZ X.K (λxs H Q=>(∃p ys,xs=[V.ref p]/\(cH X.K H p ys\/cO X.K H p ys)/\Q (.int ys.length) H)\/(∃a ao,xs=[V.ref a]/\H a=some (.dK ao)/\Q (.int ao.length) H)) gH:=by
 intro H x d1 f1 d Q r e k;have fin:∀n:Nat,d=.int n->Q (.int n) H:=λn e=>by subst e;apply k H _ [] (aN.refl H) (.int _) acm λa m=>nomatch m
 cases d1 with
 |lst ds=>
  let#[a,xs,f,rfl,hq,rs,_]:=r.fq;ext e;apply .inl #[a,xs,rfl,.inl hq,by rw[<- rs.length];apply fin _ rfl]
 |c_ ds=>
  let#[a,xs,rfl,hq,rs]:=r.qp;ext e;apply .inl #[a,xs,rfl,.inl hq,by rw[<- rs.length];apply fin _ rfl]
 |tup ds=>
  let#[a,xs,rfl,hq,rs]:=r.jf;ext e;apply .inl #[a,xs,rfl,.inr hq,by rw[<- rs.length];apply fin _ rfl]
 |b_ es=>
  cases r with
  |b_ h hk rs=>
   ext e;refine .inr #[_,_,rfl,h,?_];have hl:=congrArg List.length hk;rw[List.length_map,List.length_map] at hl;rw[<- hl];apply fin _ rfl
 |_=>ext e
def iw(hm:X.mg "len"=none)(ha:FP X a fa)(hg:Gl X "len":=by rfl)(hs:starEach [a] X.env=[(false,eval a X.env)]:=by rfl):FP X (.Call (.Name "len" p) [a] [] pos) (e1 gH fa):=
 fp_1 aaw ha λta pa=>sD (ic.or' adX Yz) hg hm PySem.boot_len (dX pa fT hs) (he:=hs)
def vp:D->Option D
 |.lst ds=>if aQ ds=true then some (.lst ds) else none
 |.tup ds=>if aQ ds=true then some (.lst ds) else none
 |_=>none
def aaU:qZ X.K (λxs H Q=>∃p ys,xs=[V.ref p]/\(cH X.K H p ys\/cO X.K H p ys)/\∀l,H l=none->Q (.ref l) (upd H l (.lst ys))) vp:=by
 intro H x d1 f1 d Q r e k;have fin:∀{ds} {xs} {f},aH X.K H ds xs f->(if aQ ds=true then some (D.lst ds) else none)=some d->∀l,H l=none->Q (.ref l) (upd H l (.lst xs)):=λ{ds xs f} rs e l hl=>by
  let#[hi,e]:=ci e;ext e;have hn:=rs.aE hi;subst hn;have s2:aN H (upd H l (.lst xs)):=λb o e=>by rw[aP (dh e hl)];apply e
  apply k _ _ [l] s2 (.lst cg (rs.same s2)) (abo.mpr #[(λm=>by ext m),acm]) λa m=>by cases aaD.mp m;apply hl
 cases d1 with
 |lst ds=>
  let#[a,xs,f,rfl,hq,rs,_]:=r.fq;apply#[a,xs,rfl,.inl hq,fin rs e]
 |tup ds=>
  let#[a,xs,rfl,hq,rs]:=r.jf;apply#[a,xs,rfl,.inr hq,fin rs e]
 |_=>ext e
def lE(hm:X.mg "list"=none)(ha:FP X a fa)(hg:Gl X "list":=by rfl)(hs:starEach [a] X.env=[(false,eval a X.env)]:=by rfl):FP X (.Call (.Name "list" p) [a] [] pos) (e1 vp fa):=
 fp_1 aaU ha λta pa=>yX Nd hg hm (by rfl) (dX pa fT hs) (he:=hs)
end
def bU:D->D->Option D
 |.c_ ds,.int i=>(fC ds i).bind λd=>if aE d=true then some d else none
 |.lst ds,.int i=>(fC ds i).bind λd=>if aE d=true then some d else none
 |.tup ds,.int i=>(fC ds i).bind λd=>if aE d=true then some d else none
 |_,_=>none
def afb{K:Fr}:g9 K (λx y H Q=>Lh K x y H Q\/C7 K x y H Q\/Ez x y H Q) bU:=by
 intro H x y d1 d2 f1 f2 d Q r1 r2 e k;have key:∀{ds} {xs} {f} {i},aH K H ds xs f->((fC ds i).bind λd=>if aE d=true then some d else none)=some d->∃v,fC xs i=some v/\Rep K H d v []:=λ{ds xs f i} rs e=>by
  unfold fC at e ⊢;rw[<- rs.length];exists h,lB ds.length i,j,e,0;rw[h,abR] at e;rw[abR];exists h2,ds[j]?,d',e,0;rw[h2,abR] at e
  by_cases hi:aE d'=true
  .rw[if_pos hi] at e;ext e;let#[v,f',hv,rv,_]:=rs.get h2;have hn:=rv.aE hi;subst hn;apply#[v,hv,rv]
  .rw[aa0 hi] at e;ext e
 unfold bU at e
 split at e
 .let#[a,xs,rfl,hq,rs]:=r1.qp;let#[v,hv,rv]:=key rs e;apply .inl #[a,xs,_,v,rfl,r2.i_.1,hq,hv,k H v (aN.refl H) rv]
 .let#[a,xs,f,rfl,hq,rs,_]:=r1.fq;let#[v,hv,rv]:=key rs e;apply .inl #[a,xs,_,v,rfl,r2.i_.1,hq,hv,k H v (aN.refl H) rv]
 .let#[a,xs,rfl,hq,rs]:=r1.jf;let#[v,hv,rv]:=key rs e;apply .inr (.inl #[a,xs,_,v,rfl,r2.i_.1,hq,hv,k H v (aN.refl H) rv])
 .cases e
def cu(ha:FP X a fa)(hb:FP X b fb)(hs:HY b:=by apply λ_ _=>rfl):FP X (.Subscript a b pos) (e2 bU fa fb):=fp_2 afb ha hb λ_ _ pa pb=>C6 OG pa pb hs
def EH:eC d Y=some (d,.own):=rfl
def k1(op:D->Option D):Option (D×Tag)->Option (D×Tag)
 |some (d,_)=>(op d).map λd=>(d,.own)
 |none=>none
def xM:e1 EI fa Y=k1 EI (fa Y):=by unfold e1 k1;cases fa Y<;>rfl
def GZ:k1 EI (some (d,t))=(EI d).map λd=>(d,.own):=rfl
def k2(op:D->D->Option D):Option (D×Tag)->Option (D×Tag)->Option (D×Tag)
 |some (d1,_),some (d2,_)=>(op d1 d2).map λd=>(d,.own)
 |_,_=>none
def kj:e2 IS fa fb Y=k2 IS (fa Y) (fb Y):=by unfold e2 k2;cases fa Y<;>cases fb Y<;>rfl
def zo:k2 IS (some (d1,t1)) (some (d2,t2))=(IS d1 d2).map λd=>(d,.own):=rfl
def Rn:(some a).map f=some (f a):=rfl
def kV:Option (D×Tag)->Option Bool
 |some (.bl b,_)=>some b
 |_=>none
def wg:tV fa Y=Ev.kV (fa Y):=by
 unfold tV Ev.kV;cases fa Y with
 |none=>rfl
 |some p=>let#[d,t]:=p;ext d<;>rfl
def Q4(h:tf Y=some true):jr tf tg Y=tg Y:=by unfold jr;rw[h]
def aiH(h:tf Y=some false):lY tf tg Y=tg Y:=by unfold lY;rw[h]
def v_(h:tf Y=some a)(h2:tg Y=some b):jr tf tg Y=some (a&&b):=by unfold jr;rw[h];ext a<;>first|exact h2|rfl
def qt(h:tf Y=some a)(h2:tg Y=some b):lY tf tg Y=some (a||b):=by unfold lY;rw[h];ext a<;>first|exact h2|rfl
def Ga:kZ tf Y=(tf Y).map λb=>!b:=rfl
def adI:eS Y=some (.nx Y):=rfl
def Di(g:SF):Option Out->Option Out
 |some (.nx Y)=>g Y
 |o=>o
def jH:bN sf sg Y=Di sg (sf Y):=by
 unfold bN Di;cases sf Y with
 |none=>rfl
 |some o=>ext o<;>rfl
def pU:Di sg (some (.nx Y))=sg Y:=rfl
def CP(sf sg:SF)(Y:aR):Option Bool->Option Out
 |some true=>sf Y
 |some false=>sg Y
 |none=>none
def iR:dg tf sf sg Y=CP sf sg Y (tf Y):=by unfold dg CP;cases tf Y<;>rfl
def SK:CP sf sg Y (some true)=sf Y:=rfl
def OB:CP sf sg Y (some false)=sg Y:=rfl
def UO:Option (D×Tag)->Option Out
 |some (d,t)=>if kq t=true then some (.rt d) else if aE d=true then some (.rt d) else none
 |none=>none
def Ds:h_ fa Y=UO (fa Y):=by unfold h_ UO;cases fa Y<;>rfl
def Dm(i:Nat)(Y:aR):Option (D×Tag)->Option Out
 |some (d,t)=>some (.nx (g_ Y i d t))
 |none=>none
def pB:dG i fa Y=Dm i Y (fa Y):=by unfold dG Dm;cases fa Y<;>rfl
def yl:aB Y=some []:=rfl
def ng:Option (D×Tag)->Option (List (D×Tag))->Option (List (D×Tag))
 |some p,some ps=>some (p::ps)
 |_,_=>none
def bG:au fa a Y=ng (fa Y) (a Y):=by unfold au ng;cases fa Y<;>cases a Y<;>rfl
def DG:ng (some p) (some ps)=some (p::ps):=rfl
def s_call:cI F a Y=(a Y).bind λps=>(F (ps.map (·.1))).map λd=>(d,.own):=rfl
def Ut:(some a).bind f=f a:=rfl
def nQ:gZ a Y=(a Y).map λps=>(.tup (ps.map (·.1)),jL ps):=rfl
def Qw:iz (.int m) (.int n)=some (.int (m+n)):=rfl
def mC(h:qD m n=true):lu (.int m) (.int n)=some (.int (m*n)):=by show(if qD m n=true then some (D.int (m*n)) else none)=_;rw[if_pos h]
def uT(h:0<n):oMod (.int m) (.int n)=some (.int (m % n)):=by show(if IL m n=true then some (D.int (m % n)) else none)=_;rw[if_pos (show IL m n=true from aas h)]
def AI:oLt (.int m) (.int n)=some (.bl (decide (m<n))):=rfl
def adw:oLe (.int m) (.int n)=some (.bl (decide (m<=n))):=rfl
def Xb:tW (.int m) (.int n)=some (.bl (decide (n<m))):=rfl
def adh:DI (.int m) (.int n)=some (.bl (decide (n<=m))):=rfl
def Ay:oEq (.int m) (.int n)=some (.bl (m==n)):=rfl
def x8:gH (.lst ds)=some (.int ds.length):=rfl
def wD(h:fC ds m=some d)(hi:aE d=true):bU (.lst ds) (.int m)=some d:=by show((fC ds m).bind λd=>if aE d=true then some d else none)=_;rw[h,abR,if_pos hi]
def Rl(h:fC ds m=some d)(hi:aE d=true):bU (.c_ ds) (.int m)=some d:=by show((fC ds m).bind λd=>if aE d=true then some d else none)=_;rw[h,abR,if_pos hi]
def jn(h:fC ds m=some d)(hi:aE d=true):bU (.tup ds) (.int m)=some d:=by show((fC ds m).bind λd=>if aE d=true then some d else none)=_;rw[h,abR,if_pos hi]
def bg(hl:ds.length=n)(h:b (vZ N ds)=some (.rt d)):bJ n N b ds=some d:=by unfold bJ;rw[if_pos hl,h]
def dI(ns:List Int):D:=.c_ (ns.map D.int)
def Lg{ns:List Int}{i:Int}(h0:0<=i)(h1:i<ns.length):fC (ns.map D.int) i=some (.int (ns.getD i.toNat 0)):=by
 unfold fC lB;have h2:i.toNat<ns.length:=by omega
 rw[List.length_map,if_pos h0,if_pos h1,abR,abV,aa8 h2,adM,aa8 h2];rfl
section
variable[DecidableEq κ]
def bB(es:List (κ×D))(k:κ):Option D:=(es.find? λkv=>decide (kv.1=k)).map (·.2)
def putD(es:List (κ×D))(k:κ)(d:D):List (κ×D):=
 if(es.any λkv=>decide (kv.1=k))=true then es.map (λkv=>if kv.1=k then(kv.1,d) else kv) else es++[(k,d)]
theorem qX{K:Fr}:∀{es}{ao:List (κ×V)} {fp},es.map (·.1)=ao.map (·.1)->aH K H (es.map (·.2)) (ao.map (·.2)) fp->
  (∀d,bB es k=some d->∃v f,fM ao k=some v/\Rep K H d v f/\∀a∈f,a∈fp)/\(bB es k=none->fM ao k=none)
 |[],[],_,_,_=>#[λd e=>(nomatch e),λ_=>rfl]
 |[],_::_,_,e,_=>by simp at e
 |_::_,[],_,e,_=>by simp at e
 |(q,d0)::es,(q',v0)::ao,fp,e,r=>by
  simp only[aar,ahr] at e;let#[rfl,e]:=e;simp only[aar] at r;cases r with
  | @cons _ _ _ _ f1 f2 r1 r2=>
   let#[i1,i2]:=qX e r2
   by_cases h:q=k
   .have e1:bB ((q,d0)::es) k=some d0:=by unfold bB;rw[adQ,aas h];rfl
    refine#[λd ed=>?_,λen=>?_]
    .rw[e1] at ed;ext ed;apply#[v0,f1,yM h,r1,λa m=>aaL _ m]
    .rw[e1] at en;ext en
   .have e1:bB ((q,d0)::es) k=bB es k:=by unfold bB;rw[adQ,aaR h]
    rw[e1,zQ h];apply#[λd ed=>let#[v,f,a,b,c]:=i1 d ed;#[v,f,a,b,λx m=>aaJ _ (c x m)],i2]
def DF{k:κ}(e:es.map (·.1)=ao.map (·.1)):(putD es k d).map (·.1)=(putK ao k v).map (·.1):=by
 have any:(es.any λkv=>decide (kv.1=k))=ao.any λkv=>decide (kv.1=k):=by
  have h1:(es.any λkv=>decide (kv.1=k))=(es.map (·.1)).any λx=>decide (x=k):=by rw[aji];rfl
  have h2:(ao.any λkv=>decide (kv.1=k))=(ao.map (·.1)).any λx=>decide (x=k):=by rw[aji];rfl
  rw[h1,h2,e]
 have m1:∀l:List (κ×D),(l.map λkv=>if kv.1=k then(kv.1,d) else kv).map (·.1)=l.map (·.1):=λl=>by
  rw[adz];congr 1;funext kv;show(if kv.1=k then(kv.1,d) else kv).1=kv.1;split<;>rfl
 have m2:∀l:List (κ×V),(l.map λkv=>if kv.1=k then(kv.1,v) else kv).map (·.1)=l.map (·.1):=λl=>by
  rw[adz];congr 1;funext kv;show(if kv.1=k then(kv.1,v) else kv).1=kv.1;split<;>rfl
 unfold putD putK;rw[any]
 by_cases h:(ao.any λkv=>decide (kv.1=k))=true
 .rw[if_pos h,if_pos h,m1,m2,e]
 .rw[aa0 h,aa0 h,adS,adS,e];rfl
def ED{K:Fr}{ao:List (κ×V)}(e:es.map (·.1)=ao.map (·.1))(r:aH K H (es.map (·.2)) (ao.map (·.2)) [])(rv:Rep K H d v []):
  aH K H ((putD es k d).map (·.2)) ((putK ao k v).map (·.2)) []:=by
 have any:(es.any λkv=>decide (kv.1=k))=ao.any λkv=>decide (kv.1=k):=by
  have h1:(es.any λkv=>decide (kv.1=k))=(es.map (·.1)).any λx=>decide (x=k):=by rw[aji];rfl
  have h2:(ao.any λkv=>decide (kv.1=k))=(ao.map (·.1)).any λx=>decide (x=k):=by rw[aji];rfl
  rw[h1,h2,e]
 have go:∀(es:List (κ×D)) (ao:List (κ×V)),es.map (·.1)=ao.map (·.1)->aH K H (es.map (·.2)) (ao.map (·.2)) []->aH K H ((es.map λkv=>if kv.1=k then(kv.1,d) else kv).map (·.2)) ((ao.map λkv=>if kv.1=k then(kv.1,v) else kv).map (·.2)) []:=by
  intro es
  induction es with
  |nil=>
   intro ao e r;cases ao with
   |nil=>apply .nil
   |cons _ _=>simp at e
  |cons p es ih=>
   intro ao e r;cases ao with
   |nil=>simp at e
   |cons p' ao=>
    let#[q,d0]:=p;let#[q',v0]:=p';simp only[aar,ahr] at e;let#[rfl,e]:=e;simp only[aar] at r ⊢;generalize hf:([]:List Addr)=fp at r;cases r with
    | @cons _ _ _ _ f1 f2 r1 r2=>
     let#[h1,h2]:=agS.mp hf.symm;subst h1 h2;have t:=ih ao e r2
     by_cases h:q=k
     .rw[if_pos h,if_pos h];apply aH.cons rv t
     .rw[aa0 h,aa0 h];apply aH.cons r1 t
 unfold putD putK;rw[any]
 by_cases h:(ao.any λkv=>decide (kv.1=k))=true
 .rw[if_pos h,if_pos h];apply go es ao e r
 .rw[aa0 h,aa0 h,adS,adS];apply aH.append r (aH.cons rv .nil)
end
def iU:D->Option Key
 |.int i=>some (.inl i)
 |.str x=>some (.inr x)
 |_=>none
def Rep.key{K:Fr}(r:Rep K H d y fp)(e:iU d=some k):y=L2.kV k:=by
 ext r<;>ext e<;>rfl
def kc:D->D->Option D
 |.b_ es,kd=>match iU kd with
  |some k=>(bB es k).bind λd=>if aE d=true then some d else none
  |none=>none
 |_,_=>none
def ZT:R2:=λx y H Q=>∃a v,x=.ref a/\jz H a y (some v)/\Q v H
def acJ{K:Fr}:g9 K ZT kc:=by
 intro H x y d1 d2 f1 f2 d Q r1 r2 e k;cases r1 with
 | @b_ a ao es fp h hk rs=>
  have e:(match iU d2 with|some k=>(bB es k).bind λd=>if aE d=true then some d else none|none=>none)=some d:=e;exists zu,iU d2,key,e;dsimp only at e;exists hv,bB es key,d',e,0;rw[hv,abR] at e
  by_cases hi:aE d'=true
  .rw[if_pos hi] at e;ext e;let#[v,f,h1,r,_]:=(qX hk rs).1 d hv;have hn:=r.aE hi;subst hn;have ek:=r2.key zu;subst ek;have g:=jz.k (k:=key) h;rw[h1] at g;apply#[a,v,rfl,g,k H v (aN.refl H) r]
  .rw[aa0 hi] at e;ext e
 |_=>ext e
def uo(hu:X.A.units+1<cLine)(ha:FP X a fa)(hb:FP X b fb)(hs:yF b:=by apply λ_ _=>rfl):FP X (.Subscript a b pos) (e2 kc fa fb):=
 fp_2 acJ ha hb λ_ _ pa pb=>Of hu pa pb hs
def mZ(d1 d2 d3:D):Option D:=match d1,iU d2 with
 |.b_ es,some k=>match bB es k with
  |some d=>if aE d=true then some d else none
  |none=>if aE d3=true then some d3 else none
 |_,_=>none
def e3(op:D->D->D->Option D)(fa fb fc:EF):EF:=λY=>match fa Y,fb Y,fc Y with
 |some (d1,_),some (d2,_),some (d3,_)=>(op d1 d2 d3).map λd=>(d,.own)
 |_,_,_=>none
def Xc(e:e3 op fa fb fc Y=some (d,tg)):∃d1 t1 d2 t2 d3 t3,fa Y=some (d1,t1)/\fb Y=some (d2,t2)/\fc Y=some (d3,t3)/\op d1 d2 d3=some d/\tg=.own:=by
 unfold e3 at e;exists h1,fa Y,p,e,0;cases h2:fb Y with
 |none=>rw[h1,h2] at e;ext e
 |some q=>
  cases h3:fc Y with
  |none=>rw[h1,h2,h3] at e;ext e
  |some r=>
   let#[d1,t1]:=p;let#[d2,t2]:=q;let#[d3,t3]:=r;rw[h1,h2,h3] at e;dsimp only at e;exists h4,op d1 d2 d3,d4,e;ext e;apply#[d1,t1,d2,t2,d3,t3,rfl,rfl,rfl,h4,rfl]
def M7{apos gG:Pos}(hu:X.A.units+1<cLine)(ha:FP X a fa)(hb:FP X b fb)(hc:FP X c fc)(m:M2 X a "get" apos b c gG:=by apply#[rfl,rfl,rfl,rfl]):FP X (.Call (.Attribute a "get" apos) [b,c] [] gG) (e3 mZ fa fb fc):=by
 let#[ta,pa,sa]:=ha;let#[tb,pb,sb]:=hb;let#[tc,pc,sc]:=hc;exists 21,GV hu pa pb pc m;let#[d1,t1,d2,t2,d3,t3,h1,h2,h3,h4,rfl]:=Xc e;refine sa ok h1 λH1 x f1 s1 r1 _=>?_
 cases d1 with
 |b_ es=>
  cases r1 with
  | @b_ p ao _ fp h hk rs=>
   refine#[p,rfl,.inl #[ao,.inl h],?_];refine sb (ok.same s1) h2 λH2 y f2 s2 r2 _=>?_
   refine sc ((ok.same s1).same s2) h3 λH3 w f3 s3 r3 _=>?_
   unfold mZ at h4;exists zu,iU d2,key,h4;dsimp only at h4;have ek:=r2.key zu;subst ek;have DV:=s3 _ _ (s2 _ _ h);have g:=jz.k (k:=key) DV;refine#[_,g,?_];have RW:=(s1.trans s2).trans s3;let#[i1,i2]:=qX hk ((rs.same s2).same s3);cases hv:bB es key with
   |some d'=>
    rw[hv] at h4;dsimp only at h4;let#[hi,h4]:=ci h4;ext h4;let#[v,f,e1,r,_]:=i1 d hv;have hn:=r.aE hi;subst hn;rw[e1];apply k H3 v [] RW r .nil
   |none=>
    rw[hv] at h4;dsimp only at h4;let#[hi,h4]:=ci h4;ext h4;rw[i2 hv];have hn:=r3.aE hi;subst hn;apply k H3 w [] RW r3 .nil
 |_=>ext h4
def Jv:FP X (.Dict [] [] pos) (eC (.b_ [])):=by
 refine#[_,aiK,@λH0 S z aq Y U H Q d tg ok e k p hp=>?_];ext e;have s2:aN H (upd H p (.dK [])):=λb o e=>by rw[aP (dh e hp)];apply e
 apply k _ _ [p] s2 (.b_ cg rfl .nil) #[abo.mpr #[(λm=>by ext m),acm],λa m=>by cases aaD.mp m;apply hp]
def Gi(i:Nat):Slot->Slot
 |some (d,.sh o)=>if o.contains i=true then none else some (d,.sh o)
 |s=>s
def cz(Y:aR)(i:Nat)(d:D):aR:=(Y.map (Gi i)).set i (some (d,.own))
def Ig(e:Gi i s=some (d,t)):s=some (d,t)/\∀o,t=.sh o->i∉o:=by
 cases s with
 |none=>ext e
 |some w=>
  let#[d',t']:=w;cases t' with
  |sh o=>
   have e:(if o.contains i=true then none else some (d',Tag.sh o))=some (d,t):=e
   split at e
   .cases e
   .rename_i hc;ext e;apply#[rfl,λo' eo m=>by ext eo;apply hc (ae3.mpr m)]
  |own=>ext e;apply#[rfl,λo eo=>by ext eo]
  |lk=>ext e;apply#[rfl,λo eo=>by ext eo]
def Rt(hj:j≠i)(e:(cz Y i d1)[j]? = some (some (d,t))):Y[j]? = some (some (d,t))/\(P\/∀o,t=.sh o->i∉o):=by
 unfold cz at e;rw[adt (ahc hj),abV] at e;let#[s,e0,e]:=abW.mp e;let#[rfl,n]:=Ig e;apply#[e0,.inr n]
def Qh(h:Y[i]? = some d0):(cz Y i d1)[i]? = some (some (d1,.own)):=agc (by rw[List.length_map];apply(acS.mp h).1)
def Ms:(cz Y i d1).length=Y.length:=by unfold cz;rw[ajr,List.length_map]
def Ok.put{K:Fr}(ok:Ok K H0 S z aq Y U H)(h:Y[i]? = some (some (d0,.own)))
  (hs:U[i]? = some (some v)) (zz:xD z i .own aS) (im:bf H H') (keep:∀b o,b∉aS->H b=some o->H' b=some o) (r1:Rep K H' d1 v bC) (nd:bC.Nodup) (fr:∀b∈bC,b∈aS\/H b=none):∃z',Ok K H0 S z' aq (cz Y i d1) U H':=
 #[_,ok.chg (Qh h) hs zz.2 im keep r1 #[nd,λa m=>if_pos m] (I_ zz.2) (λa m=>#[fr a m,let#[o,w,_]:=r1.fu a m;#[o,w]]) Rt (λ_ _=>rfl) (.inr λn=>n _ h) (Ms.trans ok.ln)]
def Ok.HC{K:Fr}(ok:Ok K H0 S z aq Y U H)(h:Y[i]? = some (some (d0,.own)))
  (hs:U[i]? = some (some v)) (zz:xD z i .own fp) (hp:p∈fp) (ho:H p=some o) (mo:lR o=true) (r1:Rep K (upd H p o') d1 v fp):Ok K H0 S z aq (cz Y i d1) U (upd H p o'):=
 ok.chg (Qh h) hs zz.2 (bf.upd ho mo) (λb o n e=>by rw[aP λq:b=p=>n (q ▸ hp)];apply e) r1 zz (λa n=>.inr #[rfl,n,λ_ n=>n _ h]) (λa m=>#[.inl m,let#[o,w,_]:=r1.fu a m;#[o,w]]) Rt (λ_ _=>rfl) (.inr λn=>n _ h) (Ms.trans ok.ln)
def ly(i:Nat)(fk fv:EF):SF:=λY=>match fv Y,Y[i]?,fk Y with
 |some (d,_),some (some (.b_ es,.own)),some (kd,_)=>match iU kd with
  |some k=>if(aE d&&aQ (es.map (·.2))&&decide (es.length<sizeLine))=true then some (.nx (cz Y i (.b_ (putD es k d)))) else none
  |none=>none
 |_,_,_=>none
def Av(i:Nat){x:Str}{k v:Expr}(hu:X.A.units+1<cLine)(hk:FP X k fk)(hv:FP X v fv)(va:VA X i x:=by walk_at "va")(hs:swapsWith v (some (.Subscript (.Name x p1) k pos')) pos.line X.env=pure false:=by rfl):
  fG X (.Assign [.Subscript (.Name x p1) k pos'] v pos) (ly i fk fv):=by
 let#[tk,pk,sk]:=hk;let#[tv,kU,sv]:=hv;exists 25,Ie hu va.pe pk kU hs;unfold ly at e
 split at e
 .rename_i d td es kd YU h1 h2 h3;exists h4,iU kd,key,e;dsimp only at e;let#[hc,e]:=ci e;ext e;let#[Hu,Hy]:=(aav _ _).mp hc;let#[Hu,K8]:=(aav _ _).mp Hu;have hz:=aau Hy;refine sv ok h1 λH1 v fv' s1 rv _=>?_
  let#[xv,fp,c9,r,zz]:=(ok.same s1).sl i _ _ h2;refine#[xv,c9,?_];refine sk (ok.same s1) h3 λH2 y fk' s2 rk _=>?_
  have ek:=rk.key h4;subst ek;have r':=r.same s2;cases r' with
  | @b_ a ao _ f h gU rs=>
   have hn:=rs.aE K8;subst hn;have Ij:=rv.aE Hu;subst Ij;have hl:ao.length=es.length:=by have:=congrArg List.length gU;simpa using this.symm
   refine#[a,_,rfl,wX.k h (by rw[hl];apply hz),?_];have im:bf H2 (upd H2 a (.dK (putK ao key v))):=bf.upd h rfl;refine q z U _ (Ok.HC ((ok.same s1).same s2) h2 c9 zz aah h rfl (.b_ cg (DF gU) ?_)) (.refl _ _);apply ED gU (rs.frame (λa m=>nomatch m) im) ((rv.same s2).frame (λa m=>nomatch m) im)
 .cases e
def w_(x:Int):List Int->List Int
 |[]=>[x]
 |y::r=>if x<=y then x::y::r else y::w_ x r
def eK:List Int->List Int
 |[]=>[]
 |x::r=>w_ x (eK r)
theorem Ka(x:Int):∀l:List Int,(w_ x l).Perm (x::l)
 |[]=>.refl _
 |y::r=>by
  unfold w_
  split
  .exact .refl _
  .exact((Ka x r).cons y).trans (.swap x y r)
theorem qN:∀l:List Int,(eK l).Perm l
 |[]=>.refl _
 |x::r=>(Ka x (eK r)).trans ((qN r).cons x)
theorem S_(x:Int):∀{l},l.Pairwise (·<=·)->(w_ x l).Pairwise (·<=·)
 |[],_=>ajk _ _
 |y::r,h=>by
  let#[h1,h2]:=aee.mp h;unfold w_
  split
  .rename_i hx;apply aee.mpr #[λz m=>(aaA.mp m).elim (λe=>e ▸ hx) λm=>Int.le_trans hx (h1 z m),h]
  .rename_i hx;refine aee.mpr #[λz m=>?_,S_ x h2];rcases aaA.mp ((Ka x r).mem_iff.mp m) with e|m
   .rw[e];lia
   .exact h1 z m
theorem Cw:∀l:List Int,(eK l).Pairwise (·<=·)
 |[]=>.nil
 |x::r=>S_ x (Cw r)
def Ws(p:a.Perm b)(s:a.Pairwise (·<=·)):a=eK b:=by
 have q:=p.trans (qN b).symm;apply q.eq_of_pairwise (λx y _ _ h1 h2=>Int.le_antisymm h1 h2) s (Cw b)
def A3(l:List Int):(eK l).length=l.length:=(qN l).length_eq
def fN:List D->Option (List Int)
 |[]=>some []
 |.int i::r=>(fN r).map (i::·)
 |_=>none
def jB{α:Type}:List (Key×α)->Option (List Int)
 |[]=>some []
 |(.inl i,_)::r=>(jB r).map (i::·)
 |_=>none
theorem uQ{K:Fr}:∀{ds} {xs} {fp} {ns},aH K H ds xs fp->fN ds=some ns->xs=ns.map V.int
 |_,_,_,ns,.nil,e=>by ext e;rfl
 |_,_,_,ns,.cons (d:=d) h t,e=>by
  cases d with
  |int i=>
   unfold fN at e;exists q,fN _,r,e;ext e;ext h;rw[uQ t q];rfl
  |_=>ext e
def uJ(ns:List Int):fN (ns.map D.int)=some ns:=by
 induction ns with
 |nil=>rfl
 |cons n r ih=>rw[aar];unfold fN;rw[ih];rfl
theorem OQ:∀{es:List (Key×α)} {ks},jB es=some ks->es.map (·.1)=ks.map Sum.inl
 |[],ks,e=>by ext e;rfl
 |(.inl i,_)::r,ks,e=>by
  unfold jB at e;exists q,jB r,l,e;ext e;rw[aar,OQ q];rfl
 |(.inr _,_)::_,_,e=>by ext e
def mH:D->Option D
 |.lst ds=>match fN ds with
  |some ns=>if ns.length<64 then some (.lst ((eK ns).map D.int)) else none
  |none=>none
 |.b_ es=>match jB es with
  |some ns=>if ns.length<64 then some (.lst ((eK ns).map D.int)) else none
  |none=>none
 |_=>none
theorem yh{K:Fr}:∀ns:List Int,aH K H (ns.map D.int) (ns.map V.int) []
 |[]=>.nil
 |n::r=>aH.cons (.int n) (yh r)
def af5{K:Fr}:qZ K (Ue K) mH:=by
 intro H x d1 f1 d Q r e k;have fin:∀(ns:List Int),(if ns.length<64 then some (D.lst ((eK ns).map D.int)) else none)=some d->ns.length<64/\∀l (o7:List Int),H l=none->o7.Perm ns->o7.Pairwise (·<=·)->Q (.ref l) (upd H l (.lst (o7.map V.int))):=λns e=>by
  by_cases h:ns.length<64
  .rw[if_pos h] at e;ext e;refine#[h,λl o7 hl p s=>?_];have eq:=Ws p s;subst eq;have s2:aN H (upd H l (.lst ((eK ns).map V.int))):=λb o e=>by rw[aP (dh e hl)];apply e
   apply k _ _ [l] s2 (.lst cg (yh _)) (abo.mpr #[(λm=>by ext m),acm]) λa m=>by cases aaD.mp m;apply hl
  .rw[aa0 h] at e;ext e
 cases d1 with
 |lst ds=>
  let#[a,xs,f,rfl,hq,rs,_]:=r.fq;have e:(match fN ds with|some ns=>if ns.length<64 then some (D.lst ((eK ns).map D.int)) else none|none=>none)=some d:=e;cases h:fN ds with
  |none=>rw[h] at e;ext e
  |some ns=>
   rw[h] at e;let#[h1,h2]:=fin ns e;have ex:=uQ rs h;subst ex;apply#[a,ns,rfl,h1,.inr hq,h2]
 |b_ es=>
  cases r with
  | @b_ a ao _ fp h hk rs=>
   have e:(match jB es with|some ns=>if ns.length<64 then some (D.lst ((eK ns).map D.int)) else none|none=>none)=some d:=e;cases h':jB es with
   |none=>rw[h'] at e;ext e
   |some ns=>
    rw[h'] at e;let#[h1,h2]:=fin ns e;apply#[a,ns,rfl,h1,.inl #[ao,h,by rw[<- hk];apply OQ h'],h2]
 |_=>ext e
def jw:List D->Option (List (Key×D))
 |[]=>some []
 |.tup [kd,d]::r=>match iU kd,jw r with
  |some k,some ps=>if aE d=true then some ((k,d)::ps) else none
  |_,_=>none
 |_=>none
def xK:D->Option D
 |.lst ds=>(jw ds).map λps=>.b_ (ps.foldl (λm p=>putD m p.1 p.2) [])
 |.tup ds=>(jw ds).map λps=>.b_ (ps.foldl (λm p=>putD m p.1 p.2) [])
 |.b_ es=>if aQ (es.map (·.2))=true then some (.b_ es) else none
 |_=>none
def afd:bootBuiltins "min"=some (.builtin "min"):=by decide +kernel
def abA:bootBuiltins "sorted"=some (.builtin "sorted"):=by decide +kernel
def C5(hc:X.calm=true)(hm:X.mg "sorted"=none)(ha:FP X a fa)(hg:Gl X "sorted":=by rfl)(hs:starEach [a] X.env=[(false,eval a X.env)]:=by rfl):FP X (.Call (.Name "sorted" p) [a] [] pos) (e1 mH fa):=
 fp_1 af5 ha λta pa=>sD (aba hc) hg hm abA (dX pa fT hs) (he:=hs)
def CZ:D->D->Option D:=vP λi j=>if j<i then j else i
def kM:List Int->Int
 |[]=>0
 |[x]=>x
 |x::r=>if x<=kM r then x else kM r
theorem LH:∀{l},l≠[]->kM l∈l/\∀x∈l,kM l<=x
 |[x],_=>#[aah,λy m=>by rw[aaD.mp m];apply Int.le_refl _]
 |x::y::r,_=>by
  let#[h1,h2]:=LH (l:=y::r) (by simp);show(if x<=kM (y::r) then x else kM (y::r))∈_/\∀z∈_,(if x<=kM (y::r) then x else kM (y::r))<=z
  by_cases h:x<=kM (y::r)
  .rw[if_pos h];apply#[aah,λz m=>(aaA.mp m).elim (λe=>by rw[e];apply Int.le_refl _) λm=>Int.le_trans h (h2 z m)]
  .rw[aa0 h];apply#[aaf _ h1,λz m=>(aaA.mp m).elim (λe=>by rw[e];lia) λm=>h2 z m]
def Zd:D->D->Option D
 |.lst ds,z=>match fN ds with
  |some []=>if aE z=true then some z else none
  |some (n::r)=>some (.int (kM (n::r)))
  |none=>none
 |_,_=>none
def SJ(hc:X.calm=true)(hm:X.mg "min"=none)(ha:FP X a fa)(hb:FP X b fb)(hg:Gl X "min":=by rfl)(hs:starEach [a,b] X.env=[(false,eval a X.env),(false,eval b X.env)]:=by rfl)(cV:starEach [b] X.env=[(false,eval b X.env)]:=by rfl)(hpl:(backTo pos (starEach [b] X.env)).any (·.1)=false:=by rfl):
  FP X (.Call (.Name "min" p) [a,b] [] pos) (e2 CZ fa fb):=by
 let#[ta,pa,sa]:=ha;let#[tb,pb,sb]:=hb;exists 21,sD (XT hc) hg hm afd (dX pa (dX pb fT cV) (by rw[hs,cV])) (he:=by rw[hs,cV]) (hpl:=hpl);let#[d1,t1,d2,t2,h1,h2,h3,rfl]:=pH e;refine sa ok h1 λH1 x f1 s1 r1 _=>?_
 refine sb (ok.same s1) h2 λH2 y f2 s2 r2 _=>?_
 unfold CZ vP at h3
 split at h3
 .cases h3;apply#[_,_,by rw[r1.i_.1,r2.i_.1],k H2 _ [] (s1.trans s2) (.int _) .nil]
 .cases h3
def aiF(hc:X.calm=true)(hm:X.mg "min"=none)(ha:FP X a fa)(hb:FP X b fb)(hg:Gl X "min":=by rfl)(hs:starEach [a] X.env=[(false,eval a X.env)]:=by rfl)
  (h1:backTo pos (starEach [a] X.env)=(false,eval a X.env)::backTo pos (starEach [] X.env):=by rfl) (h2:(backTo pos (starEach [a] X.env)).any (·.1)=false:=by rfl)
  (h3:(backToKw pos (keywordEach [#[some "default",b,kp]] X.env)).all (·.1.isSome)=true:=by rfl) (h4:(backToKw pos (keywordEach [#[some "default",b,kp]] X.env)).any (·.1.isNone)=false:=by rfl)
  (h5:(backToKw pos (keywordEach [#[some "default",b,kp]] X.env)).filterMap (·.1)=[("default":Str)]:=by rfl) :
  FP X (.Call (.Name "min" p) [a] [#[some "default",b,kp]] pos) (e2 Zd fa fb):=by
 let#[ta,pa,sa]:=ha;let#[tb,pb,sb]:=hb;exists 21,ahn hc hm pa pb hg hs h1 h2 h3 h4 h5;let#[d1,t1,d2,t2,g1,g2,g3,rfl]:=pH e;refine sa ok g1 λH1 x f1 s1 r1 _=>?_
 refine sb (ok.same s1) g2 λH2 y f2 s2 r2 _=>?_
 cases d1 with
 |lst ds=>
  let#[l,xs,f,rfl,hq,rs,_]:=(r1.same s2).fq;have g3:(match fN ds with|some []=>if aE d2=true then some d2 else none|some (n::r)=>some (.int (kM (n::r)))|none=>none)=some d:=g3;cases h:fN ds with
  |none=>rw[h] at g3;ext g3
  |some ns=>
   rw[h] at g3;have ex:=uQ rs h;subst ex;refine#[l,ns,rfl,hq,?_];cases ns with
   |nil=>
    have g3:=g3
    by_cases hi:aE d2=true
    .rw[if_pos hi] at g3;ext g3;have hn:=r2.aE hi;subst hn;apply .inl #[rfl,k H2 y [] (s1.trans s2) r2 .nil]
    .rw[aa0 hi] at g3;ext g3
   |cons n r=>
    ext g3;refine .inr #[by simp,λm oV oG=>?_];let#[q1,q2]:=LH (l:=n::r) (by simp);have em:=Int.le_antisymm (oG _ q1) (q2 m oV);rw[em];apply k H2 _ [] (s1.trans s2) (.int _) .nil
 |_=>ext g3
theorem S1{K:Fr}:∀{ds} {xs} {fp} {ps},aH K H ds xs fp->jw ds=some ps->
  ∃qs:List (Key×V),Paired (λy (q:Key×V)=>∃a,y=.ref a/\cO K H a [L2.kV q.1,q.2]) xs qs/\ps.map (·.1)=qs.map (·.1)/\aH K H (ps.map (·.2)) (qs.map (·.2)) []
 |_,_,_,ps,.nil,e=>by ext e;apply#[[],.nil,rfl,.nil]
 |_,_,_,ps,.cons (d:=d) (ds:=dr) h t,e=>by
  unfold jw at e
  split at e
  .rename_i heq;ext heq
  .rename_i kd d' r heq;ext heq;exists h1,iU kd,k,e,0;cases h2:jw dr with
   |none=>rw[h1,h2] at e;ext e
   |some pr=>
    rw[h1,h2] at e;dsimp only at e;let#[hi,e]:=ci e;ext e;let#[qs,a1,a2,a3]:=S1 t h2;let#[a,ys,rfl,hq,rs]:=h.jf;cases rs with
    |cons rk rs=>
     cases rs with
     |cons rv rs=>
      cases rs with
      |nil=>
       have ek:=rk.key h1;subst ek;have hn:=rv.aE hi;subst hn;apply#[(k,_)::qs,.cons #[a,rfl,hq] a1,by rw[aar,aar,a2],aH.cons rv a3]
  .cases e
theorem N4{K:Fr}:∀{ps:List (Key×D)}{qs:List (Key×V)} {es} {ao},ps.map (·.1)=qs.map (·.1)->aH K H (ps.map (·.2)) (qs.map (·.2)) []->es.map (·.1)=ao.map (·.1)->aH K H (es.map (·.2)) (ao.map (·.2)) []->
  (ps.foldl (λm p=>putD m p.1 p.2) es).map (·.1)=(qs.foldl (λm q=>putK m q.1 q.2) ao).map (·.1)/\aH K H ((ps.foldl (λm p=>putD m p.1 p.2) es).map (·.2)) ((qs.foldl (λm q=>putK m q.1 q.2) ao).map (·.2)) []
 |[],[],_,_,_,_,h1,h2=>#[h1,h2]
 |[],_::_,_,_,e,_,_,_=>by simp at e
 |_::_,[],_,_,e,_,_,_=>by simp at e
 |(k,d)::ps,(k',v)::qs,es,ao,e,r,h1,h2=>by
  simp only[aar,ahr] at e;let#[rfl,e]:=e;simp only[aar] at r;generalize hf:([]:List Addr)=fp at r;cases r with
  | @cons _ _ _ _ f1 f2 r1 r2=>
   let#[z1,z2]:=agS.mp hf.symm;subst z1 z2;rw[afz,afz];apply N4 e r2 (DF h1) (ED h1 h2 r1)
def adV{K:Fr}:qZ K (λxs H Q=>E4 K xs H Q\/∃a ao,xs=[V.ref a]/\H a=some (.dK ao)/\∀l,H l=none->Q (.ref l) (upd H l (.dK ao))) xK:=by
 intro H x d1 f1 d Q r e k;have fresh:∀{o:HO} {l},H l=none->aN H (upd H l o):=λhl b o e=>by rw[aP (dh e hl)];apply e
 have Rq:∀l:Addr,([l]:List Addr).Nodup:=λl=>abo.mpr #[(λm=>by ext m),acm]
 have seq:∀{ds} {xs} {f} {p},aH K H ds xs f->(cH K H p xs\/cO K H p xs)->((jw ds).map λps=>D.b_ (ps.foldl (λm p=>putD m p.1 p.2) []))=some d->E4 K [.ref p] H Q:=λ{ds xs f p} rs hq e=>by
  exists h,jw ds,ps,e;ext e;let#[qs,a1,a2,a3]:=S1 rs h;refine#[p,xs,qs,rfl,hq,a1,λl hl=>?_];let#[b1,b2]:=N4 (es:=[]) (ao:=[]) a2 a3 rfl .nil;apply k _ _ [l] (fresh hl) (.b_ cg b1 (b2.same (fresh hl))) (Rq l) λa m=>by cases aaD.mp m;apply hl
 cases d1 with
 |lst ds=>
  let#[a,xs,f,rfl,hq,rs,_]:=r.fq;apply .inl (seq rs (.inl hq) e)
 |tup ds=>
  let#[a,xs,rfl,hq,rs]:=r.jf;apply .inl (seq rs (.inr hq) e)
 |b_ es=>
  cases r with
  | @b_ a ao _ fp h hk rs=>
   have e:(if aQ (es.map (·.2))=true then some (D.b_ es) else none)=some d:=e;let#[hi,e]:=ci e;ext e;have hn:=rs.aE hi;subst hn;apply .inr #[a,ao,rfl,h,λl hl=>k _ _ [l] (fresh hl) (.b_ cg hk (rs.same (fresh hl))) (Rq l) λa m=>by cases aaD.mp m;apply hl]
 |_=>ext e
section
variable{X:Cx}
def VY:ic X (.type "dict") (λxs H Q=>∃a ao,xs=[V.ref a]/\H a=some (.dK ao)/\∀l,H l=none->Q (.ref l) (upd H l (.dK ao))):=by
 intro af s U H xs us Q I r h;let#[a,ao,rfl,ha,q]:=h;let#[u,rfl,ru]:=vals1 r;ext ru;apply aiC I (.inl ha) λp s' hp I'=>#[.ref p,_,I',rfl,q p hp]
def xW{p:Pos}(hc:X.calm=true)(hm:X.mg "dict"=none)(ha:FP X a fa)(hg:Gl X "dict":=by rfl)(hs:starEach [a] X.env=[(false,eval a X.env)]:=by rfl):FP X (.Call (.Name "dict" p) [a] [] pos) (e1 xK fa):=
 fp_1 adV ha λta pa=>yX (ic.or' (acX hc) VY) hg hm (show bootBuiltins "dict"=some (.type "dict") by decide +kernel) (dX pa fT hs) (he:=hs)
def B3:D->Option D
 |.lst ds=>if aQ ds=true then some (.tup ds) else none
 |.tup ds=>if aQ ds=true then some (.tup ds) else none
 |_=>none
def ah9:qZ X.K (λxs H Q=>∃p ys,xs=[V.ref p]/\((cH X.K H p ys/\∀l,H l=none->Q (.ref l) (upd H l (.tup ys)))\/(cO X.K H p ys/\Q (.ref p) H))) B3:=by
 intro H x d1 f1 d Q r e k;cases d1 with
 |lst ds=>
  let#[a,xs,f,rfl,hq,rs,_]:=r.fq;have e:(if aQ ds=true then some (D.tup ds) else none)=some d:=e;let#[hi,e]:=ci e;ext e;have hn:=rs.aE hi;subst hn;refine#[a,xs,rfl,.inl #[hq,λl hl=>?_]];have s2:aN H (upd H l (.tup xs)):=λb o e=>by rw[aP (dh e hl)];apply e
  apply k _ _ [] s2 (.tup (cO.of cg) (rs.same s2)) acm λa m=>nomatch m
 |tup ds=>
  let#[a,xs,rfl,hq,rs]:=r.jf;have e:(if aQ ds=true then some (D.tup ds) else none)=some d:=e;let#[hi,e]:=ci e;ext e;have hn:=rs.aE hi;subst hn;apply#[a,xs,rfl,.inr #[hq,k H _ [] (aN.refl H) (.tup hq rs) acm λa m=>nomatch m]]
 |_=>ext e
def x_{p:Pos}(hm:X.mg "tuple"=none)(ha:FP X a fa)(hg:Gl X "tuple":=by rfl)(hs:starEach [a] X.env=[(false,eval a X.env)]:=by rfl):FP X (.Call (.Name "tuple" p) [a] [] pos) (e1 B3 fa):=
 fp_1 ah9 ha λta pa=>yX afw hg hm (show bootBuiltins "tuple"=some (.type "tuple") by decide +kernel) (dX pa fT hs) (he:=hs)
end
def AG(N:List Str)(vD sc:Scope)(M:List Str)(js:List (Option Nat)):Bool:=
 (sc.kind == .function)&&sc.names.all (λy=>y.2 != .cell)&&sc.names.all (λy=>if y.2 == .local then sc.names.lookup y.1==some .local else true)&&o6 N sc M js&&(frees sc).all (λx=>vD.names.lookup x==some .cell||vD.names.lookup x==some .free)&&decide M.Nodup
def YQ(h1:X.N=N)(h2:X.env.scope=vD)(h3:X.env.kindOf=λx=>vD.names.lookup x)(h:AG N vD sc M js=true):mK X M js sc:=by
 unfold AG at h;let#[h,a6]:=(aav _ _).mp h;let#[h,a5]:=(aav _ _).mp h;let#[h,a4]:=(aav _ _).mp h;let#[h,a3]:=(aav _ _).mp h;let#[a1,a2]:=(aav _ _).mp h;refine#[?_,λy hy=>?_,λy hy hl=>?_,?_,λx hx=>?_,aau a6]
 .cases hk:sc.kind<;>rw[hk] at a1<;>first|rfl|exact absurd a1 (by decide)
 .have:=adR.mp a2 y hy;intro z;rw[z] at this;apply absurd this (by decide)
 .have:=adR.mp a3 y hy;rw[hl] at this;have this:=this;cases q:sc.names.lookup y.1 with
  |none=>rw[q] at this;apply absurd this (by decide)
  |some k=>rw[q] at this;ext k<;>first|rfl|exact absurd this (by decide)
 .rw[h1];apply a4
 .have:=adR.mp a5 x hx;rw[h3];dsimp only;cases q:vD.names.lookup x with
  |none=>rw[q] at this;apply absurd this (by decide)
  |some k=>rw[q] at this;ext k<;>first|exact .inl rfl|exact .inr rfl|exact absurd this (by decide)
def dQ.back(g:dQ z H1 t fp)(s:aN H H1):dQ z H t fp:=by
 cases t with
 |sh o=>apply g
 |own=>apply#[g.1,λa m=>s.free (g.2 a m)]
 |lk=>apply#[g.1,λa m=>s.free (g.2 a m)]
def qV(fa fb:EF):EF:=λY=>match fa Y with
 |some (.bl true,_)=>fb Y
 |some (.bl false,_)=>some (.bl false,.own)
 |_=>none
def UB:D->Option D
 |.bl b=>some (.bl (!b))
 |_=>none
def rm{op}(h:FP X a fa):FP X (.BoolOp op [a] pos) fa:=let#[t,p,q]:=h;#[t,MP p,q]
def n9{rest:List Expr}(ha:FP X a fa)(hb:FP X (.BoolOp .And (b::rest) pos) fb):FP X (.BoolOp .And (a::b::rest) pos) (qV fa fb):=by
 let#[t,p,q]:=ha;let#[t',p',q']:=hb;exists 21,Yt p p';unfold qV at e
 split at e
 .rename_i tt h;refine q ok h λH1 v fp s1 r1 _=>?_
  ext r1;refine#[true,rfl,?_];rw[if_pos rfl];apply q' (ok.same s1) e λH2 v fp s2 r2 g2=>k H2 v fp (s1.trans s2) r2 (g2.back s1)
 .rename_i tt h;ext e;refine q ok h λH1 v fp s1 r1 _=>?_
  ext r1;refine#[false,rfl,?_];rw[aa0 aaH];apply k H1 _ [] s1 (.bl _) .nil
 .cases e
def Pp(ha:FP X a fa):FP X (.UnaryOp .Not a pos) (e1 UB fa):=by
 let#[t,p,q]:=ha;exists 21,agh p;let#[d1,t1,h1,h2,rfl]:=pO e;refine q ok h1 λH1 v fp s1 r1 _=>?_
 ext r1<;>ext h2
 apply#[_,rfl,k H1 _ [] s1 (.bl _) .nil]
def gx:D->D->Option D
 |.lst ds,.lst es=>if(aQ ds&&aQ es&&decide (ds.length+es.length<=sizeLine))=true then some (.lst (ds++es)) else none
 |_,_=>none
def qM(ha:FP X a fa)(hb:FP X b fb):FP X (.BinOp a .Add b pos) (e2 gx fa fb):=by
 let#[ta,pa,sa]:=ha;let#[tb,pb,sb]:=hb;exists 20,Se Xg pa pb;let#[d1,t1,d2,t2,e1,iS,e3,rfl]:=pH e;refine sa ok e1 λH1 x f1 s1 r1 _=>?_
 refine sb (ok.same s1) iS λH2 y f2 s2 r2 _=>?_
 unfold gx at e3
 split at e3
 .rename_i ds es;let#[hc,e3]:=ci e3;ext e3;let#[c1,c3]:=(aav _ _).mp hc;let#[c1,c2]:=(aav _ _).mp c1;have r1:=r1.same s2;cases r1 with
  | @lst p xs _ f h rs=>
   cases r2 with
   | @lst p' ys _ f' h' KZ=>
    have n1:=rs.aE c1;have n2:=KZ.aE c2;subst n1 n2;refine#[p,p',xs,ys,rfl,rfl,h,h',by rw[<- rs.length,<- KZ.length];apply aau c3,λl hl=>?_];have s3:aN H2 (upd H2 l (.lst (xs++ys))):=λb o e=>by rw[aP (dh e hl)];apply e
    have rr:=aH.append rs KZ;refine q _ _ [l] ((s1.trans s2).trans s3) (.lst cg (rr.same s3)) #[abo.mpr #[(λm=>by ext m),acm],λa m=>?_];cases aaD.mp m;apply(s1.trans s2).free hl
 .cases e3
def Eb:D->Option String
 |.int _=>some "int"
 |.bl _=>some "bool"
 |.str _=>some "str"
 |.aJ=>some "NoneType"
 |.lst _=>some "list"
 |.b_ _=>some "dict"
 |_=>none
def AZ(T:String)(d:D):Option D:=match Eb d with
 |some t=>some (.bl (t==T||(t == "bool"&&T == "int")))
 |none=>none
def Ab(T:String):Prop:=∀(K) (t),t∈["int","bool","str","NoneType","list","dict"]->PySem.W.kitOne K (.type t) (.type T)=some (t==T||(t == "bool"&&T == "int"))
def VU:Ab "int":=by
 intro K t m;simp only[aaA,ac6,ahz] at m;rcases m with rfl|rfl|rfl|rfl|rfl|rfl<;>rfl
def Nr:Ab "bool":=by
 intro K t m;simp only[aaA,ac6,ahz] at m;rcases m with rfl|rfl|rfl|rfl|rfl|rfl<;>rfl
def QW(T:String):ic X (.builtin "isinstance") (λxs H Q=>∃x t b,xs=[x,V.ty T]/\jX X.K H x t/\PySem.W.kitOne X.K t (.type T)=some b/\Q (.bl b) H):=by
 intro af s U H xs us Q I r h;let#[x,t,bb,rfl,ty,e,q]:=h;let#[u,w',rfl,ru,fH]:=vals2 r;ext fH;apply acu I ru ty e λtk=>#[.bl bb,H,I.tok tk,rfl,q]
def Rep.ty{K:Fr}(r:Rep K H d v fp)(e:Eb d=some t):jX K H v (.type t)/\t∈["int","bool","str","NoneType","list","dict"]:=by
 cases r with
 |aJ=>ext e;apply#[.aJ,by decide]
 |bl b=>ext e;apply#[.bl b,by decide]
 |int i=>ext e;apply#[.int i,by decide]
 |str x=>ext e;apply#[.str x,by decide]
 |lst h _=>ext e;apply#[.lst h,by decide]
 |b_ h _ _=>ext e;apply#[.dK h,by decide]
 |tup _ _=>ext e
 |yW _ _=>ext e
 |fY _ _ _=>ext e
 |ins _ _ _ _=>ext e
 |exc _ _ _=>ext e
def GC{T:String}(hT:Ab T)(hm:X.mg "isinstance"=none)(Kh:X.mg x=none)(ha:FP X a fa)(yi:bootBuiltins x=some (.type T):=by decide +kernel)(hg:Gl X "isinstance":=by rfl)(Gc:Gl X x:=by rfl)(hn:x≠"__name__":=by decide)(gX:(x==("__debug__":Str))=false:=by decide)
  (hs:starEach [a,.Name x p2] X.env=[(false,eval a X.env),(false,eval (.Name x p2) X.env)]:=by rfl) (hpl:(backTo pos (starEach [.Name x p2] X.env)).any (·.1)=false:=by rfl):FP X (.Call (.Name "isinstance" p) [a,.Name x p2] [] pos) (e1 (AZ T) fa):=by
 let#[ta,pa,sa]:=ha;have cV:starEach [.Name x p2] X.env=[(false,eval (.Name x p2) X.env)]:=rfl;exists 21,sD (QW T) hg hm (show bootBuiltins "isinstance"=some (.builtin "isinstance") by decide +kernel) (dX pa (dX (Bl (v:=.ty T) Gc Kh yi rfl hn gX) fT) (by rw[hs,cV])) (he:=by rw[hs,cV]);let#[d1,t1,h1,h2,rfl]:=pO e;refine sa ok h1 λH1 v fp s1 r1 _=>?_
 unfold AZ at h2;exists ht,Eb d1,t,h2;ext h2;let#[ty,mem]:=r1.ty ht;apply#[v,_,_,rfl,ty,hT X.K t mem,k H1 _ [] s1 (.bl _) .nil]
end L2.Ev
namespace L2.Ev
open PySem
def k3(op:D->D->D->Option D):Option (D×Tag)->Option (D×Tag)->Option (D×Tag)->Option (D×Tag)
 |some (d1,_),some (d2,_),some (d3,_)=>(op d1 d2 d3).map λd=>(d,.own)
 |_,_,_=>none
def PY:e3 XQ fa fb fc Y=k3 XQ (fa Y) (fb Y) (fc Y):=by unfold e3 k3;cases fa Y<;>cases fb Y<;>cases fc Y<;>rfl
def NF(fb:EF)(Y:aR):Option (D×Tag)->Option (D×Tag)
 |some (.bl true,_)=>fb Y
 |some (.bl false,_)=>some (.bl false,.own)
 |_=>none
def afH:qV fa fb Y=NF fb Y (fa Y):=by
 unfold qV NF;cases fa Y with
 |none=>rfl
 |some w=>let#[d,t]:=w;ext d<;>first|rfl|(rename_i b;ext b<;>rfl)
def aif:iV d .aJ=some (.bl (pL d)):=rfl
theorem Mu(P:Nat->aR->Prop):∀{ds} {Y} {n},P n Y->(∀j Y d,ds[j]? = some d->P (n+j) Y->∃aT aY,g d t Y=some aT/\(f aT=some (.nx aY)\/f aT=some (.ct aY))/\P (n+j+1) aY)->
  ∃Y',cU g t f ds Y=some (.nx Y')/\P (n+ds.length) Y'
 |[],Y,n,h,_=>#[Y,rfl,h]
 |d::ds,Y,n,h,hs=>by
  let#[aT,aY,h1,h2,h3]:=hs 0 Y d rfl h;let#[Y',h4,h5]:=Mu P h3 λj Y d hd hp=>by
   have:=hs (j+1) Y d hd (by rw[show n+(j+1)=n+1+j by lia];apply hp);rw[show n+(j+1)+1=n+1+j+1 by lia] at this;apply this
  refine#[Y',?_,by rw[abZ,show n+(ds.length+1)=n+1+ds.length by lia];apply h5];unfold cU;rw[h1];rcases h2 with h2|h2<;>(dsimp only;rw[h2];apply h4)
theorem Mi(P:Nat->aR->Prop)(R:Nat->D->Prop):∀{ds} {Y} {n},P n Y->(∀j Y d,ds[j]? = some d->P (n+j) Y->∃aT,g d t Y=some aT/\((∃aY,(f aT=some (.nx aY)\/f aT=some (.ct aY))/\P (n+j+1) aY)\/∃r,f aT=some (.rt r)/\R (n+j) r))->
  (∃Y',cU g t f ds Y=some (.nx Y')/\P (n+ds.length) Y')\/∃j r,cU g t f ds Y=some (.rt r)/\R (n+j) r/\j<ds.length
 |[],Y,n,h,_=>.inl #[Y,rfl,h]
 |d::ds,Y,n,h,hs=>by
  obtain⟨aT,h1,⟨aY,h2,h3⟩|⟨r,h2,h3⟩⟩:=hs 0 Y d rfl h
  .have e:cU g t f (d::ds) Y=cU g t f ds aY:=by
    rw[cU,h1];rcases h2 with h2|h2<;>(dsimp only;rw[h2])
   rw[e];rcases Mi P R h3 (λj Y d hd hp=>by
    have:=hs (j+1) Y d hd (by rw[show n+(j+1)=n+1+j by omega];apply hp);rw[show n+(j+1)+1=n+1+j+1 by omega,show n+(j+1)=n+1+j by omega] at this;apply this) with⟨Y',h4,h5⟩|⟨j,r,h4,h5,h6⟩
   .exact .inl #[Y',h4,by rw[abZ,show n+(ds.length+1)=n+1+ds.length by omega];apply h5]
   .exact .inr #[j+1,r,h4,by rw[show n+(j+1)=n+1+j by omega];apply h5,by rw[abZ];omega]
  .refine .inr #[0,r,?_,h3,by rw[abZ];omega];rw[cU,h1];dsimp only;rw[h2]
def xm(hi:it Y=some (ds,t))(h:cU g (lM t) f ds (qA (oz (m_ t) Y) Y)=some (.nx Y')):jl it g f Y=some (.nx (uO (oz (m_ t) Y) Y')):=by unfold jl;rw[hi];dsimp only;rw[h]
def Bh(hi:it Y=some (ds,t))(h:cU g (lM t) f ds (qA (oz (m_ t) Y) Y)=some (.rt r)):jl it g f Y=some (.rt r):=by unfold jl;rw[hi];dsimp only;rw[h]
def wJ(hi:it Y=some (ds,.own))(h:cU g (.sh []) f ds Y=some (.nx Y')):jl it g f Y=some (.nx Y'):=xm hi h
def OW(hi:it Y=some (ds,.own))(h:cU g (.sh []) f ds Y=some (.rt r)):jl it g f Y=some (.rt r):=Bh hi h
def ir1(h:e Y=some (.int n,t))(hs:small n=true):ze e Y=some ((List.range n.toNat).map λi:Nat=>D.int (0+(i:Int)),.own):=by unfold ze;rw[h];dsimp only;rw[if_pos hs]
def iO(h:e Y=some (.lst ds,t)):fV e Y=some (ds,t):=by unfold fV;rw[h]
def kG(hi:it Y=some (ds,t))(hl:ds.length<sizeLine)(h:∀d∈ds,jQ g tt te (jK js Y) d=some (k d)):
  gK js it g tt te Y=some (.lst (ds.filterMap k),.own):=by unfold gK;rw[hi];dsimp only;rw[if_pos hl,R3 h];rfl
def BE(h1:g d (.sh []) Y=some aT)(h2:tt aT=some false):jQ g tt te Y d=some none:=by unfold jQ;rw[h1];dsimp only;rw[h2]
def sF(h1:g d (.sh []) Y=some aT)(h2:tt aT=some true)(h3:te aT=some (e,.own)):jQ g tt te Y d=some (some e):=by unfold jQ;rw[h1];dsimp only;rw[h2];dsimp only;rw[h3];rfl
def tO(h1:g d (.sh []) Y=some aT)(h2:tt aT=some true)(h3:te aT=some (e,tg))(hi:aE e=true):jQ g tt te Y d=some (some e):=by
 unfold jQ;rw[h1];dsimp only;rw[h2];dsimp only;rw[h3];dsimp only
 by_cases ho:kq tg=true
 .rw[if_pos ho]
 .rw[aa0 ho,if_pos hi]
def kI(p:Int×Int):Key×D:=(Sum.inl p.1,.int p.2)
def cZ(es:List (Int×Int)):D:=.b_ (es.map kI)
def cM(es:List (Int×Int))(k:Int):Option Int:=(es.find? λp=>decide (p.1=k)).map (·.2)
def gY(es:List (Int×Int))(k v:Int):List (Int×Int):=if(es.any λp=>decide (p.1=k))=true then es.map (λp=>if p.1=k then(p.1,v) else p) else es++[(k,v)]
def wQ:((Sum.inl a:Key)=Sum.inl k)↔a=k:=#[λh=>ajH h,λh=>by rw[h]]
def Qy(es:List (Int×Int))(k:Int):bB (es.map kI) (Sum.inl k:Key)=(cM es k).map D.int:=by
 unfold bB cM
 induction es with
 |nil=>rfl
 |cons p r ih=>
  rw[aar,adQ,adQ]
  by_cases h:p.1=k
  .rw[aas (show(kI p).1=Sum.inl k from wQ.mpr h),aas h];rfl
  .rw[aaR (show ¬(kI p).1=Sum.inl k from λe=>h (wQ.mp e)),aaR h];apply ih
def QG(es:List (Int×Int))(k v:Int):putD (es.map kI) (Sum.inl k:Key) (.int v)=(gY es k v).map kI:=by
 unfold putD gY;have e:((es.map kI).any λkv=>decide (kv.1=(Sum.inl k:Key)))=es.any λp=>decide (p.1=k):=by
  rw[aji]
  congr 1
  funext p
  apply ajF.mpr wQ
 rw[e]
 by_cases h:(es.any λp=>decide (p.1=k))=true
 .rw[if_pos h,if_pos h,adz,adz]
  congr 1
  funext p
  show(if(kI p).1=Sum.inl k then((kI p).1,D.int v) else kI p)=kI (if p.1=k then(p.1,v) else p)
  by_cases hp:p.1=k
  .rw[if_pos hp,if_pos (show(kI p).1=Sum.inl k from wQ.mpr hp)];rfl
  .rw[aa0 hp,aa0 (show ¬(kI p).1=Sum.inl k from λe=>hp (wQ.mp e))]
 .rw[aa0 h,aa0 h,adS];rfl
def P7:mZ (cZ es) (.int k) (.int z)=some (.int ((cM es k).getD z)):=by
 show(match bB (es.map kI) (Sum.inl k:Key) with|some d=>if aE d=true then some d else none|none=>if aE (.int z)=true then some (.int z) else none)=_;rw[Qy];cases cM es k<;>rfl
def afx(h:cM es k=some v):kc (cZ es) (.int k)=some (.int v):=by
 show((bB (es.map kI) (Sum.inl k:Key)).bind λd=>if aE d=true then some d else none)=_;rw[Qy,h];rfl
theorem Sf:∀es:List (Int×Int),jB (es.map kI)=some (es.map (·.1))
 |[]=>rfl
 |p::r=>by rw[aar];show(jB (r.map kI)).map (p.1::·)=_;rw[Sf r];rfl
def Ye(h:es.length<64):mH (cZ es)=some (.lst ((eK (es.map (·.1))).map D.int)):=by
 show(match jB (es.map kI) with|some ns=>if ns.length<64 then some (D.lst ((eK ns).map D.int)) else none|none=>none)=_;rw[Sf];dsimp only;rw[if_pos (by rw[List.length_map];apply h)]
theorem Pk:∀es:List (Int×Int),aQ ((es.map kI).map (·.2))=true
 |[]=>rfl
 |p::r=>by rw[aar,aar];unfold aQ;rw[Pk r];rfl
def Ky(h1:fv Y=some (.int v,t1))(h2:Y[i]? = some (some (cZ es,.own)))(h3:fk Y=some (.int k,t2))(hl:es.length<sizeLine):
  ly i fk fv Y=some (.nx (cz Y i (cZ (gY es k v)))):=by
 unfold ly;rw[h1,h2,h3];unfold cZ;dsimp only[iU];rw[if_pos (by rw[Pk,List.length_map,aas hl];rfl),QG]
def BO(es:List (Int×Int))(k v j:Int):cM (gY es k v) j=if j=k then some v else cM es j:=by
 unfold gY
 by_cases h:(es.any λp=>decide (p.1=k))=true
 .rw[if_pos h];unfold cM
  induction es with
  |nil=>ext h
  |cons p r ih=>
   rw[aar,adQ,adQ]
   by_cases hp:p.1=k
   .rw[if_pos hp];dsimp only
    by_cases hj:j=k
    .rw[aas (hp.trans hj.symm),if_pos hj];rfl
    .have k_:¬p.1=j:=λe=>hj (e.symm.trans hp)
     rw[aaR k_,aa0 hj];dsimp only
     by_cases hr:(r.any λp=>decide (p.1=k))=true
     .rw[ih hr,aa0 hj]
     .congr 1
      have:r.map (λp=>if p.1=k then(p.1,v) else p)=r:=by
       conv=>rhs;rw[<- List.map_id r]
       refine ahx λq m=>?_
       rw[aa0 λe=>hr (aeJ.mpr #[q,m,aas e])];rfl
      rw[this]
   .rw[aa0 hp];have hr:(r.any λp=>decide (p.1=k))=true:=by
     rw[ajj,aaR hp] at h;apply h
    by_cases hj:p.1=j
    .rw[aas hj,aa0 λe=>hp (hj.trans e)]
    .rw[aaR hj];apply ih hr
 .rw[aa0 h];unfold cM;rw[List.find?_append]
  by_cases hj:j=k
  .have:(es.find? λp=>decide (p.1=j))=none:=ahR.mpr λq m hq=>h (aeJ.mpr #[q,m,by rw[<- hj];apply hq])
   rw[this,if_pos hj,hj];simp
  .rw[aa0 hj];have:([(k,v)].find? λp=>decide (p.1=j))=none:=ahR.mpr λq m hq=>hj (by cases aaD.mp m;apply(aau hq).symm)
   rw[this,Option.or_none]
def QM(es:List (Int×Int))(k v:Int):(gY es k v).map (·.1)=if k∈es.map (·.1) then es.map (·.1) else es.map (·.1)++[k]:=by
 unfold gY
 by_cases h:(es.any λp=>decide (p.1=k))=true
 .have hm:k∈es.map (·.1):=by
   let#[p,m,hp]:=aeJ.mp h;apply abn.mpr #[p,m,aau hp]
  rw[if_pos h,if_pos hm,adz];refine ahx λp m=>?_
  show(if p.1=k then(p.1,v) else p).1=p.1
  split<;>rfl
 .have hm:k∉es.map (·.1):=λm=>by
   let#[p,m,hp]:=abn.mp m;apply h (aeJ.mpr #[p,m,aas hp])
  rw[aa0 h,aa0 hm,adS];rfl
def Ni(h:(es.map (·.1)).Nodup):((gY es k v).map (·.1)).Nodup:=by
 rw[QM]
 by_cases hm:k∈es.map (·.1)
 .rw[if_pos hm];apply h
 .rw[aa0 hm];apply adv.mpr #[h,abo.mpr #[(λm=>by ext m),acm],λa ha b hb e=>hm (by cases aaD.mp hb;apply e ▸ ha)]
def T6:(gY es k v).length<=es.length+1:=by
 have:=congrArg List.length (QM es k v);rw[List.length_map] at this;rw[this]
 split
 .rw[List.length_map];lia
 .rw[aaY,List.length_map];apply abi _
def uS:(∃v,cM es k=some v)↔k∈es.map (·.1):=by
 unfold cM;constructor
 .rintro⟨v,h⟩
  cases e:es.find? λp=>decide (p.1=k) with
  |none=>rw[e] at h;ext h
  |some p=>apply abn.mpr #[p,afY e,aau (ajg e :)]
 .intro h;let#[p,m,hp]:=abn.mp h;cases e:es.find? λp=>decide (p.1=k) with
  |none=>apply absurd (aas hp) (ahR.mp e p m)
  |some q=>apply#[q.2,rfl]
def i8(ps:List (Int×Int)):List (Int×Int):=ps.foldl (λm p=>gY m p.1 p.2) []
theorem foldI:∀(ps m:List (Int×Int)),(ps.map kI).foldl (λm p=>putD m p.1 p.2) (m.map kI)=(ps.foldl (λm p=>gY m p.1 p.2) m).map kI
 |[],_=>rfl
 |p::r,m=>by rw[aar,afz,afz];show(r.map kI).foldl _ (putD (m.map kI) (Sum.inl p.1) (.int p.2))=_;rw[QG];apply foldI r _
def dP(p:Int×Int):D:=.tup [.int p.1,.int p.2]
theorem Nf:∀ps:List (Int×Int),jw (ps.map dP)=some (ps.map kI)
 |[]=>rfl
 |p::r=>by
  rw[aar];show(match iU (.int p.1),jw (r.map dP) with|some k,some ps=>if aE (.int p.2)=true then some ((k,D.int p.2)::ps) else none|_,_=>none)=_;rw[Nf r];rfl
def ME:xK (.lst (ps.map dP))=some (cZ (i8 ps)):=by
 show(jw (ps.map dP)).map _=_;rw[Nf];show some (D.b_ ((ps.map kI).foldl (λm p=>putD m p.1 p.2) []))=_;rw[show([]:List (Key×D))=([]:List (Int×Int)).map kI from rfl,foldI];rfl
def Ti(hn:(ps.map (·.1)).Nodup)(k:Int):cM (i8 ps) k=cM ps k:=by
 have go:∀(ps m),(ps.map (·.1)).Nodup->cM (ps.foldl (λm p=>gY m p.1 p.2) m) k=(cM ps k).or (cM m k):=by
  intro ps
  induction ps with
  |nil=>intro m _;rfl
  |cons p r ih=>
   intro m h;rw[aar] at h;let#[h1,h2]:=abo.mp h;rw[afz,ih _ h2,BO]
   by_cases hk:k=p.1
   .have hr:cM r k=none:=by
     cases e:cM r k with
     |none=>rfl
     |some v=>apply absurd (uS.mp #[v,e]) (hk ▸ h1)
    rw[hr,if_pos hk];unfold cM;rw[adQ,aas hk.symm];rfl
   .rw[aa0 hk];have:cM (p::r) k=cM r k:=by unfold cM;rw[adQ,aaR λe=>hk e.symm]
    rw[this]
 unfold i8;rw[go ps [] hn];cases cM ps k<;>rfl
open PySem PySem.Spec PyProof.Rows
mutual
def py:D->PyData
 |.bl b=>.bool b
 |.int i=>.int i
 |.str x=>.str x
 |.tup ds=>.tuple (f9 ds)
 |.lst ds=>.list (f9 ds)
 |.c_ ds=>.list (f9 ds)
 |_=>.none
def f9:List D->List PyData
 |[]=>[]
 |d::ds=>py d::f9 ds
end
mutual
def g8:D->Bool
 |.aJ|.bl _|.int _|.str _=>true
 |.tup ds|.lst ds|.c_ ds=>mJ ds
 |_=>false
def mJ:List D->Bool
 |[]=>true
 |d::ds=>g8 d&&mJ ds
end
mutual
theorem pM(I:Inv X af U H s):∀{d} {v} {f} {u},Rep X.K H d v f->RelV v u->g8 d=true->∃as,Reads s.heap u (py d) as
 |.aJ,_,_,_,r,q,_=>by ext r;ext q;apply#[_,by unfold py;apply .none]
 |.bl b,_,_,_,r,q,_=>by ext r;ext q;apply#[_,by unfold py;apply .bool b]
 |.int i,_,_,_,r,q,_=>by ext r;let#[t,rfl]:=q;apply#[_,by unfold py;apply .int i t]
 |.str x,_,_,_,r,q,_=>by ext r;let#[t,rfl]:=q;apply#[_,by unfold py;apply .str x t]
 |.tup ds,_,_,_,r,q,e=>by
  let#[a,xs,rfl,hq,rs]:=r.jf;ext q;let#[us,v1,#[o,h1,h2,n,h3],_]:=I.tuple hq;let#[as,ra]:=DT I rs v1 (by unfold g8 at e;apply e);apply#[_,by unfold py;apply .tuple h1 h2 h3 (by simpa using ra)]
 |.lst ds,_,_,_,r,q,e=>by
  let#[a,xs,f,rfl,hq,rs,_]:=r.fq;ext q;let#[us,v1,#[o,n,h1,h2,_,h3],_]:=I.list hq;let#[as,ra]:=DT I rs v1 (by unfold g8 at e;apply e);apply#[_,by unfold py;apply .list h1 h2 h3 (by simpa using ra)]
 |.c_ ds,_,_,_,r,q,e=>by
  let#[a,xs,rfl,hq,rs]:=r.qp;ext q;let#[us,v1,#[o,n,h1,h2,_,h3],_]:=I.list hq;let#[as,ra]:=DT I rs v1 (by unfold g8 at e;apply e);apply#[_,by unfold py;apply .list h1 h2 h3 (by simpa using ra)]
 |.b_ _,_,_,_,_,_,e=>by unfold g8 at e;ext e
 |.fY _,_,_,_,_,_,e=>by unfold g8 at e;ext e
 |.ins _ _,_,_,_,_,_,e=>by unfold g8 at e;ext e
 |.exc _,_,_,_,_,_,e=>by unfold g8 at e;ext e
theorem DT(I:Inv X af U H s):∀{ds} {xs} {f} {us},aH X.K H ds xs f->aW xs us->mJ ds=true->∃as,ReadsAll s.heap us (f9 ds) as
 |[],_,_,_,r,q,_=>by ext r;ext q;apply#[_,by unfold f9;apply .nil]
 |d::ds,_,_,_,r,q,e=>by
  cases r with
  |cons r1 r2=>
   cases q with
   |cons q1 q2=>
    unfold mJ at e;let#[e1,e2]:=(aav _ _).mp e;let#[as,h1]:=pM I r1 q1 e1;let#[bs,h2]:=DT I r2 q2 e2;apply#[_,by unfold f9;apply .cons h1 h2]
end
def xF(r:List Int):D:=.tup (r.map D.int)
def dO(rs:List (List Int)):List D:=rs.map xF
theorem zA:∀r:List Int,f9 (r.map D.int)=r.map PyData.int
 |[]=>rfl
 |i::r=>by rw[aar,aar];unfold f9;rw[zA r];unfold py;rfl
theorem Bw:∀r:List Int,mJ (r.map D.int)=true
 |[]=>rfl
 |i::r=>by rw[aar];unfold mJ;rw[Bw r];rfl
theorem depthAll_ints:∀r:List Int,PyData.depthAll (r.map PyData.int)=0
 |[]=>rfl
 |i::r=>by rw[aar];simp only[PyData.depthAll,PyData.depth,depthAll_ints r];rfl
def j7(r:List Int):PyData:=.tuple (r.map PyData.int)
def agt(r:List Int):py (xF r)=j7 r:=by unfold xF j7;unfold py;rw[zA]
theorem LN:∀rs:List (List Int),f9 (dO rs)=rs.map j7
 |[]=>rfl
 |r::rs=>by
  show f9 (xF r::dO rs)=j7 r::rs.map j7;unfold f9;rw[agt,LN rs]
theorem RV:∀rs:List (List Int),mJ (dO rs)=true
 |[]=>rfl
 |r::rs=>by
  show mJ (xF r::dO rs)=true;unfold mJ;rw[RV rs,Bool.and_true];unfold xF g8;apply Bw r
def dz(d:D):Bool:=g8 d&&(py d).canLay0&&decide ((py d).depth<=40)
def mR(d1 d2:D):Option D:=if(dz d1&&dz d2)=true then some (.bl (PyData.eqv (py d1) (py d2))) else none
def jP(d1 d2:D):Option D:=if(dz d1&&dz d2)=true then some (.bl (!PyData.eqv (py d1) (py d2))) else none
def Br(K:Fr)(neg:Bool):R2:=λx y H Q=>∃d1 d2 f1 f2,Rep K H d1 x f1/\Rep K H d2 y f2/\dz d1=true/\dz d2=true/\Q (.bl (if neg=true then !PyData.eqv (py d1) (py d2) else PyData.eqv (py d1) (py d2))) H
def lay_of(h:dz d=true):g8 d=true/\(py d).canLay0=true/\(py d).depth<=40:=by
 unfold dz at h;let#[h,h3]:=(aav _ _).mp h;let#[h1,h2]:=(aav _ _).mp h;apply#[h1,h2,aau h3]
def Mg(hu:X.A.units+64<cLine):eB X (compareOp .NotEq) (Br X.K true):=by
 intro af s U H x y v u Q I rx ry h;let#[d1,d2,f1,f2,r1,r2,l1,l2,q]:=h;let#[a1,a2,a3]:=lay_of l1;let#[b1,b2,b3]:=lay_of l2;let#[as,ra]:=pM I r1 rx a1;let#[bs,rb]:=pM I r2 ry b1;apply SeqAt.compareNe_reads ra rb a2 b2 (by omega) #[.bl _,H,I,rfl,q]
def aij(hu:X.A.units+64<cLine):eB X (compareOp .Eq) (Br X.K false):=by
 intro af s U H x y v u Q I rx ry h;let#[d1,d2,f1,f2,r1,r2,l1,l2,q]:=h;let#[a1,a2,a3]:=lay_of l1;let#[b1,b2,b3]:=lay_of l2;let#[as,ra]:=pM I r1 rx a1;let#[bs,rb]:=pM I r2 ry b1;apply SeqAt.compareEq_reads ra rb a2 b2 (by omega) #[.bl _,H,I,rfl,q]
def UR{K:Fr}:g9 K (Br K true) jP:=by
 intro H x y d1 d2 f1 f2 d Q r1 r2 e k;unfold jP at e
 by_cases hc:(dz d1&&dz d2)=true
 .rw[if_pos hc] at e;ext e;let#[c1,c2]:=(aav _ _).mp hc;apply#[d1,d2,f1,f2,r1,r2,c1,c2,k H _ (aN.refl H) (.bl _)]
 .rw[aa0 hc] at e;ext e
def WE{K:Fr}:g9 K (Br K false) mR:=by
 intro H x y d1 d2 f1 f2 d Q r1 r2 e k;unfold mR at e;let#[hc,e]:=ci e;ext e;let#[c1,c2]:=(aav _ _).mp hc;apply#[d1,d2,f1,f2,r1,r2,c1,c2,k H _ (aN.refl H) (.bl _)]
def Ei(hu:X.A.units+64<cLine)(ha:FP X a fa)(hb:FP X b fb):FT X (.Compare a [.NotEq] [b] pos) (tV (e2 jP fa fb)):=kD (Mg hu) UR ha hb (jV _)
def abt(hu:X.A.units+64<cLine)(ha:FP X a fa)(hb:FP X b fb):FP X (.Compare a [.NotEq] [b] pos) (e2 jP fa fb):=qT (Mg hu) UR ha hb (jV _)
def IA(hu:X.A.units+64<cLine)(ha:FP X a fa)(hb:FP X b fb):FP X (.Compare a [.Eq] [b] pos) (e2 mR fa fb):=qT (aij hu) WE ha hb (jV _)
def Rh{d:D}(h:dz d=true):mR d d=some (.bl true):=by unfold mR;rw[h,ag3,if_pos rfl,SeqAt.eqv_refl _ (lay_of h).2.1]
def agA{d:D}(h:dz d=true):jP d d=some (.bl false):=by unfold jP;rw[h,ag3,if_pos rfl,SeqAt.eqv_refl _ (lay_of h).2.1];rfl
theorem Cu:∀r:List Int,PyData.canLayAll0 (r.map PyData.int)=true
 |[]=>rfl
 |i::r=>by rw[aar];simp only[PyData.canLayAll0,PyData.canLay0,Cu r,ag3]
theorem RU:∀rs:List (List Int),PyData.canLayAll0 (rs.map j7)=true/\PyData.depthAll (rs.map j7)<=1
 |[]=>#[rfl,by simp[PyData.depthAll]]
 |r::rs=>by
  let#[h1,h2]:=RU rs;rw[aar];refine#[by simp only[PyData.canLayAll0,j7,PyData.canLay0,h1,Bool.and_true];apply Cu r,?_];simp only[PyData.depthAll,j7,PyData.depth,depthAll_ints r];omega
def W_(rs:List (List Int)):dz (.lst (dO rs))=true:=by
 let#[h1,h2]:=RU rs;have e:py (.lst (dO rs))=.list (rs.map j7):=by unfold py;rw[LN]
 unfold dz;rw[e];have a1:g8 (.lst (dO rs))=true:=by unfold g8;apply RV rs
 have a2:(PyData.list (rs.map j7)).canLay0=true:=by simp only[PyData.canLay0];apply h1
 have a3:(PyData.list (rs.map j7)).depth<=40:=by simp only[PyData.depth];omega
 rw[a1,a2,aas a3];rfl
end L2.Ev
namespace L2.Ev
open PySem PySem.Spec PyProof.Rows
def acL:Ab "tuple":=by
 intro K t m;simp only[aaA,ac6,ahz] at m;rcases m with rfl|rfl|rfl|rfl|rfl|rfl<;>rfl
def p_(t:TF)(fa fb:EF):EF:=λY=>match t Y with
 |some true=>fa Y
 |some false=>fb Y
 |none=>none
def O4(hc:FT X c tc)(ha:FP X a fa)(hb:FP X b fb):FP X (.IfExp c a b pos) (p_ tc fa fb):=by
 let#[t,p,q]:=hc;let#[t1,p1,q1]:=ha;let#[t2,p2,q2]:=hb;exists 21,afg p p1 p2;unfold p_ at e;cases h:tc Y with
 |none=>rw[h] at e;ext e
 |some y=>
  rw[h] at e;refine q ok h λH1 s1=>?_
  cases y with
  |true=>rw[if_pos rfl];apply q1 (ok.same s1) e λH2 v fp s2 r2 g2=>k H2 v fp (s1.trans s2) r2 (g2.back s1)
  |false=>rw[aa0 aaH];apply q2 (ok.same s1) e λH2 v fp s2 r2 g2=>k H2 v fp (s1.trans s2) r2 (g2.back s1)
def Te(h:tc Y=some true):p_ tc fa fb Y=fa Y:=by unfold p_;rw[h]
def O7(h:tc Y=some false):p_ tc fa fb Y=fb Y:=by unfold p_;rw[h]
def Jp(_ j:Int):Bool:=decide (0<j)&&decide (j<1073741824)
def cPw(i j:Int):Bool:=decide (0<=j)&&decide (j<=1000000)&&decide (i.natAbs<2 ^ 64)
def oDiv:=vE Jp λi j=>i / j
def P0:=vE cPw λi j=>i ^ j.toNat
def R_(ha:FP X a fa)(hb:FP X b fb):FP X (.BinOp a .FloorDiv b pos) (e2 oDiv fa fb):=xZ afe (Bd λi j h=>by
 let#[h1,h2]:=(aav _ _).mp h;apply#[aau h1,aau h2]) ha hb
def Sa(ha:FP X a fa)(hb:FP X b fb):FP X (.BinOp a .Pow b pos) (e2 P0 fa fb):=xZ Xa (Bd λi j h=>by
 let#[h,h3]:=(aav _ _).mp h;let#[h1,h2]:=(aav _ _).mp h;apply#[aau h1,aau h2,aau h3]) ha hb
def Qd(h:0<n)(h2:n<1073741824):oDiv (.int m) (.int n)=some (.int (m / n)):=by
 show(if Jp m n=true then some (D.int (m / n)) else none)=_;rw[if_pos (by unfold Jp;rw[aas h,aas h2];rfl)]
def fW(neg:Bool):D->D->Option D
 |.int i,.lst ds=>(fN ds).map λns=>.bl (if neg=true then !(ns.any (· == i)) else ns.any (· == i))
 |_,_=>none
def aag(i:Int)(ns:List Int):vO (.int i) (ns.map V.int)=ns.any (· == i):=by
 unfold vO;rw[aji];rfl
def ahT(ns:List Int):(ns.map V.int).all oE=true:=by
 rw[ajt];apply adR.mpr λ_ _=>rfl
def GW{K:Fr}:g9 K (Dk K neg) (fW neg):=by
 intro H x y d1 d2 f1 f2 d Q r1 r2 e k;cases d1 with
 |int i=>
  cases d2 with
  |lst ds=>
   have e:((fN ds).map λns=>D.bl (if neg=true then !(ns.any (· == i)) else ns.any (· == i)))=some d:=e;exists h,fN ds,ns,e;ext e;let#[p,xs,f,rfl,hq,rs,_]:=r2.fq;ext r1;have ex:=uQ rs h;subst ex;refine#[p,_,rfl,.inl hq,rfl,ahT ns,?_];rw[aag];apply k H _ (aN.refl H) (.bl _)
  |_=>ext e
 |_=>ext e
def uI(ha:FP X a fa)(hb:FP X b fb)(hm:behindInMarks .In b=false:=by rfl):FT X (.Compare a [.In] [b] pos) (tV (e2 (fW false) fa fb)):=kD Uu GW ha hb hm
def yO(ha:FP X a fa)(hb:FP X b fb)(hm:behindInMarks .NotIn b=false:=by rfl):FT X (.Compare a [.NotIn] [b] pos) (tV (e2 (fW true) fa fb)):=kD JC GW ha hb hm
def Tf(ha:FP X a fa)(hb:FP X b fb)(hm:behindInMarks .NotIn b=false:=by rfl):FP X (.Compare a [.NotIn] [b] pos) (e2 (fW true) fa fb):=qT JC GW ha hb hm
def xG{ns:List Int}:fW neg (.int i) (.lst (ns.map D.int))=some (.bl (if neg=true then !(ns.any (· == i)) else ns.any (· == i))):=by
 show((fN (ns.map D.int)).map _)=_;rw[uJ];rfl
def k9(i:Nat)(fv:EF):SF:=λY=>match fv Y,Y[i]? with
 |some (d,_),some (some (.lst ds,.own))=>if(aE d&&aQ ds&&decide (ds.length<sizeLine))=true then some (.nx (cz Y i (.lst (ds++[d])))) else none
 |_,_=>none
def Ea(i:Nat)(hv:FP X a fv)(va:VA X i x:=by walk_at "va")(hs:starEach [a] X.env=[(false,eval a X.env)]:=by rfl)
  (jN:attributeBase (.Name x p1) "append" X.env (eval (.Name x p1) X.env)=eval (.Name x p1) X.env:=by rfl)
  (jM:((backTo p3 (starEach [a] X.env)).all (λx=>!x.1)&&(backToKw p3 (keywordEach [] X.env)).all (λx=>x.1.isSome)&&decide ([a].length+([]:List Keyword).length+(if([]:List Keyword).isEmpty then 0 else 1)<30))=true:=by rfl)
  (jR:(p2.endLine==p3.line)=true:=by rfl) (jo:swapsWith (.Call (.Attribute (.Name x p1) "append" p2) [a] [] p3) none pos.line X.env=pure false:=by rfl) :
  fG X (.Expr (.Call (.Attribute (.Name x p1) "append" p2) [a] [] p3) pos) (k9 i fv):=by
 let#[tv,kU,sv]:=hv;exists 25,xQ (um PySem.F.plainAttrs_list PySem.F.slot_list_append PySem.F.type_list_append BR va.pe (dX kU fT hs) jN jM jR hs rfl) jo;unfold k9 at e
 split at e
 .rename_i d td ds g1 g2;let#[hc,e]:=ci e;ext e;let#[c1,c3]:=(aav _ _).mp hc;let#[c1,c2]:=(aav _ _).mp c1;let#[xv,fp,c9,r,zz]:=ok.sl i _ _ g2;refine#[xv,c9,?_];let#[l,xs,f,rfl,hq,_,_]:=r.fq;refine#[.inl #[rfl,_,hq],?_];refine sv ok g1 λH1 v fv' s1 rv _=>?_
  have r':=r.same s1;have cG:=ok.same s1;generalize hw:(V.ref l)=w at r' c9;cases r' with
  | @lst a' ys _ f' h rs=>
   ext hw;have hn:=rs.aE c2;subst hn;have Ij:=rv.aE c1;subst Ij;refine#[_,ys,v,rfl,rfl,h,by rw[<- rs.length];apply aau c3,?_];have im:bf H1 (upd H1 l (.lst (ys++[v]))):=bf.upd h rfl;refine q z U _ (Ok.HC cG g2 c9 zz aah h rfl (.lst cg ?_)) (.refl _ _);apply aH.append (rs.frame (λa m=>nomatch m) im) (aH.cons (rv.frame (λa m=>nomatch m) im) .nil)
 .cases e
def Ju(h1:fv Y=some (.int n,t1))(h2:Y[i]? = some (some (.lst (ns.map D.int),.own)))(hl:ns.length<sizeLine):
  k9 i fv Y=some (.nx (cz Y i (.lst ((ns++[n]).map D.int)))):=by
 unfold k9;rw[h1,h2];dsimp only;have Yr:∀ns:List Int,aQ (ns.map D.int)=true:=λns=>by
  induction ns with
  |nil=>rfl
  |cons n r ih=>rw[aar];unfold aQ;rw[ih];rfl
 rw[if_pos (by rw[Yr,List.length_map,aas hl];rfl),adS];rfl
def cutD(ds:List D)(lo hi:Option Int):List D:=(ds.drop (HT.gA ds.length 0 lo)).take (HT.gA ds.length ds.length hi-HT.gA ds.length 0 lo)
def nG(lo hi:Option Int):D->Option D
 |.lst ds=>if aQ ds=true then some (.lst (cutD ds lo hi)) else none
 |.c_ ds=>if aQ ds=true then some (.lst (cutD ds lo hi)) else none
 |_=>none
def aH.Dp{K:Fr}:∀{ds} {xs} (n),aH K H ds xs []->aH K H (ds.drop n) (xs.drop n) []
 |ds,xs,0,r=>r
 |[],_,n+1,r=>by ext r;apply .nil
 |d::ds,xs,n+1,r=>by
  generalize hf:([]:List Addr)=fp at r;cases r with
  | @cons _ _ _ _ f1 f2 r1 r2=>
   let#[z1,z2]:=agS.mp hf.symm;subst z1 z2;apply aH.Dp n r2
def aH.Bt{K:Fr}:∀{ds} {xs} (n),aH K H ds xs []->aH K H (ds.take n) (xs.take n) []
 |ds,xs,0,r=>.nil
 |[],_,n+1,r=>by ext r;apply .nil
 |d::ds,xs,n+1,r=>by
  generalize hf:([]:List Addr)=fp at r;cases r with
  | @cons _ _ _ _ f1 f2 r1 r2=>
   let#[z1,z2]:=agS.mp hf.symm;subst z1 z2;apply aH.cons r1 (aH.Bt n r2)
def BP(X:Cx)(e:Option Expr)(v:Option Int):Prop:=∃t,PO X e t/\∀U H Q,Q v H->t U H Q
def KR:BP X none none:=#[_,E8,λ_ _ _ q=>q]
def Kc{j p}:BP X (some (.Constant (.int i) j p)) (some i):=#[_,Kv CH,λ_ _ _ q=>#[i,rfl,q]]
def HQ{lo hi:Option Expr}(hl:BP X lo l)(hh:BP X hi h)(ha:FP X a fa):FP X (.Subscript a (.Slice lo hi none p2) pos) (e1 (nG l h) fa):=by
 let#[t,p,q]:=ha;let#[tl,pl,ql]:=hl;let#[th,ph,qh]:=hh;exists 21,Jj Mc p pl ph;let#[d1,t1,g1,g2,rfl]:=pO e;refine q ok g1 λH1 x f1 s1 r1 _=>?_
 refine ql U H1 _ (qh U H1 _ ?_);have fin:∀{ds} {xs} {f} {w},aH X.K H1 ds xs f->cH X.K H1 w xs->(if aQ ds=true then some (D.lst (cutD ds l h)) else none)=some d->Uy X.K (.ref w) l h H1 Q:=λ{ds xs f w} rs hq e=>by
  let#[hi,e]:=ci e;ext e;have hn:=rs.aE hi;subst hn;refine#[w,xs,rfl,hq,λp hp=>?_];have s2:aN H1 (upd H1 p (.lst (lF xs l h))):=λb o e=>by rw[aP (dh e hp)];apply e
  have rr:aH X.K H1 (cutD ds l h) (lF xs l h) []:=by
   unfold cutD lF;rw[rs.length];apply aH.Bt _ (aH.Dp _ rs)
  refine k _ _ [p] (s1.trans s2) (.lst cg (rr.same s2)) #[abo.mpr #[(λm=>by ext m),acm],λa m=>?_];cases aaD.mp m;apply s1.free hp
 cases d1 with
 |lst ds=>
  let#[w,xs,f,rfl,hq,rs,_]:=r1.fq;apply fin rs hq g2
 |c_ ds=>
  let#[w,xs,rfl,hq,rs]:=r1.qp;apply fin rs hq g2
 |_=>ext g2
end L2.Ev
namespace L2
open PySem PySem.Spec PyProof.Rows
def Inv.YI{ch:List Addr}{o:HO}(I:Inv X af U H s)(hf:∀b∈ch,ju X af H b)(k:∀b o,b∉ch->s.heap.get? b=some o->h'.get? b=some o)
  (hT:s.heap.objs.size<=T) (new:dZ X.prog X.w (upd H T o) h' T o):Inv X af U (upd H T o) { s with heap:=h',toks:=t' }:=by
 have nT:=I.aM.fresh hT;have lT:∀b u,H b=some u->b∉ch:=λb u e m=>by rw[(hf b m).1] at e;ext e
 refine I.step (λb m=>#[(hf b m).2.2.2.1,(hf b m).2.1,(hf b m).2.2.2.2.1,(hf b m).2.2.2.2.2]) (λb o _ _ m e _=>k b o m e) (λb o _ _ m e _=>#[o.slots,k b o m e])
  (λb o _ e n=>by rw[aP (aco (acH (abb e) hT))];apply n) (λb o m e=>#[o,k b o m e]) (λb xs e=>by rw[aP (dh e nT)];apply e) (λb o u e=>by rw[aP (dh e nT)];apply e)
  (λb ps e=>#[([].toArray),by rw[aP (dh e nT),e];simp]) (λm hm=>?_) (λb u e=>?_) I.bare
 .let#[o,es,ep,ho,r]:=hm;apply#[o,es,ep,k _ o (λm=>(hf _ m).2.1 rfl) ho,r]
 .by_cases hb:b=T
  .subst hb;rw[cg] at e;ext e;apply new
  .rw[aP hb] at e;refine(I.aM b u e).gP (λc v hc q=>k c v ?_ q) (λc q=>by rw[aP (dh q nT)];apply q) λc xs q=>by rw[aP (dh q nT)];apply q
   rcases hc with z|z
   .rw[z];apply lT b u e
   .exact lT c _ z
def Inv.SN{ch:List Addr}(I:Inv X af U H s)(hf:∀b∈ch,ju X af H b)(k:∀b o,b∉ch->s.heap.get? b=some o->h'.get? b=some o):Inv X af U H { s with heap:=h',toks:=t' }:=by
 have lT:∀b u,H b=some u->b∉ch:=λb u e m=>by rw[(hf b m).1] at e;ext e
 refine I.step (λb m=>#[(hf b m).2.2.2.1,(hf b m).2.1,(hf b m).2.2.2.2.1,(hf b m).2.2.2.2.2]) (λb o _ _ m e _=>k b o m e) (λb o _ _ m e _=>#[o.slots,k b o m e])
  (λb o _ e n=>n) (λb o m e=>#[o,k b o m e]) (λb xs e=>e) (λb o u e=>e) (λb ps e=>#[([].toArray),by rw[e];simp]) (λm hm=>?_) (λb u e=>?_) I.bare
 .let#[o,es,ep,ho,r]:=hm;apply#[o,es,ep,k _ o (λm=>(hf _ m).2.1 rfl) ho,r]
 .refine(I.aM b u e).gP (λc v hc q=>k c v ?_ q) (λc q=>q) λc xs q=>q
  rcases hc with z|z
  .rw[z];apply lT b u e
  .exact lT c _ z
def Hh(K:Fr)(l1 l2:Addr):It:=
  #[λi H=>∃xs ys x y,cH K H l1 xs/\cH K H l2 ys/\xs[i]? = some x/\ys[i]? = some y,
   λi H v H'=>∃T a b,H T=none/\v=.ref T/\H'=upd H T (.tup [a,b])/\(∀xs,cH K H l1 xs->xs[i]? = some a)/\∀ys,cH K H l2 ys->ys[i]? = some b,
   λi H=>∃xs ys,cH K H l1 xs/\cH K H l2 ys/\(xs.length<=i\/ys.length<=i),false]
def aat(z TI TO i1 i2 l1 l2:Addr)(i:Nat)(h:Heap):Prop:=IsZip h z TI TO .none/\IsPair h TI (.ref i1) (.ref i2)/\(∃a b,IsPair h TO a b)/\h.IsListIter i1 l1 i/\h.IsListIter i2 l2 i
def agu{K:Fr}{x1}{z TI TO i1 i2 l1 l2:Addr}(D:ZipApart z TI TO i1 i2 l1 l2):
  Turn P w K (.Tuple elts x1 pos) (Hh K l1 l2) [z,TI,TO,i1,i2] z (aat z TI TO i1 i2 l1 l2) where
 mem:=by simp
 obj:=λi h st b hb=>by
  let#[s1,s2,#[a,b',s3],#[o4,e4,c4,d4],#[o5,e5,c5,d5]]:=st;simp only[aaA,ac6,ahz] at hb;rcases hb with rfl|rfl|rfl|rfl|rfl
  .exact#[_,s1,λv q=>by ext q]
  .exact#[_,s2,λv q=>by ext q]
  .exact#[_,s3,λv q=>by ext q]
  .exact#[o4,e4,λv q=>by rw[d4] at q;ext q]
  .exact#[o5,e5,λv q=>by rw[d5] at q;ext q]
 keep:=λi h h' st k=>by
  let#[s1,s2,#[a,b',s3],s4,s5]:=st;apply#[k _ (by simp) _ s1,k _ (by simp) _ s2,#[a,b',k _ (by simp) _ s3],s4.at λo e=>k _ (by simp) o e,s5.at λo e=>k _ (by simp) o e]
 item:=by
  intro X hP hw hK hc i af s U H E I hf st hg;subst hP hw hK;let#[s1,s2,#[a,b',s3],s4,s5]:=st;let#[xs,ys,x,y,q1,q2,e1,e2]:=hg;let#[us,v1,p1,z1]:=I.list q1;let#[ws,v2,p2,z2]:=I.list q2;let#[u,hu,ru]:=v1.get e1;let#[t,ht,rt]:=v2.get e2;refine wpAny_pyNext_zip_item D s1 s2 s3 s4 s5 p1.isList p2.isList (by simpa using hu) (by simpa using ht) λh' a1 a2 a3 a4 a5 a6 a7=>#[_,rfl,?_]
  refine wpAny_letOwnedTupleGo_zip a1 λAh b1 b2=>?_
  have lz:=abb s1;have nz:=ah7 lz;have T2:=b2.extBut _ _ nz a5;have nT:=I.aM.fresh (abi _);have I1:Inv X af U (upd H s.heap.objs.size (.tup [x,y])) { s with heap:=Ah }:=I.YI (ch:=[z,TO,i1,i2]) (λb m=>hf b (by
    simp only[aaA,ac6,ahz] at m ⊢;rcases m with rfl|rfl|rfl|rfl<;>simp)) (λb o m e=>by
    simp only[aaA,ac6,ahz,not_or] at m;apply b2.extBut _ _ m.1 (a7 b o m.1 m.2.1 m.2.2.1 m.2.2.2 e)) (abi _) (show dZ X.prog X.w _ Ah _ (.tup [x,y]) from#[show 2<=sizeLine by unfold sizeLine;lia,[u,t],.cons ru (.cons rt .nil),#[_,T2,rfl,rfl,_,rfl]])
  refine#[.ref s.heap.objs.size,_,I1,rfl,#[_,x,y,nT,rfl,rfl,λxs' h=>by rw[I.Fd h q1];apply e1,λys' h=>by rw[I.Fd h q2];apply e2],?_,λb m=>?_]
  .have up:∀c o,c≠z->h'.get? c=some o->Ah.get? c=some o:=λc o n e=>b2.extBut _ _ n e
   apply#[b1,up _ _ D.TIz (a7 TI _ D.TIz D.TITO D.TIi1 D.TIi2 s2),#[u,t,up _ _ D.TOz a2],a3.at λo e=>up _ o D.i1z e,a4.at λo e=>up _ o D.i2z e]
  .rw[aP]
   .exact(hf b m).1
   .rintro rfl
    let#[o4,e4,_]:=id s4;let#[o5,e5,_]:=id s5;simp only[aaA,ac6,ahz] at m;rcases m with m|m|m|m|m
    .exact nz m
    .exact absurd (abb s2) (by rw[<- m];apply agg _)
    .exact absurd (abb s3) (by rw[<- m];apply agg _)
    .exact absurd (abb e4) (by rw[<- m];apply agg _)
    .exact absurd (abb e5) (by rw[<- m];apply agg _)
 done:=by
  intro X hP hw hK hc i af s U H E I hf st hg;subst hP hw hK;let#[s1,s2,#[a,b',s3],s4,s5]:=st;let#[xs,ys,q1,q2,e]:=hg;let#[us,v1,p1,z1]:=I.list q1;let#[ws,v2,p2,z2]:=I.list q2;have l1:=v1.length;have l2:=v2.length;refine wpAny_pyNext_zip_end (I.ok.hd (hc.resolve_right λz=>aaH z)) D s1 s2 s3 s4 s5 p1.isList p2.isList (e.imp (λe=>by simp;lia) λe=>by simp;lia) λh' k=>#[rfl,I.SN (ch:=[z,TO,i1,i2]) (λb m=>hf b (by
    simp only[aaA,ac6,ahz] at m ⊢;rcases m with rfl|rfl|rfl|rfl<;>simp)) λb o m e=>?_]
  simp only[aaA,ac6,ahz,not_or] at m;apply k b o m.1 m.2.1 m.2.2.1 m.2.2.2 e
 self:=λ_ _ _ _ _ st h=>wpAny_pyIter_zip st.1 h
def aed(K:Fr)(ta:TA):TI:=λU H R=>ta U H λvs H1=>∃l1 l2 xs ys,vs=[.ref l1,.ref l2]/\cH K H1 l1 xs/\cH K H1 l2 ys/\R (Hh K l1 l2) H1
def ad7{x1}(hg:Gl X "zip")(hm:X.mg "zip"=none)(ha:PA X [a,b] ta)(hs:starEach [a,b] X.env=[(false,eval a X.env),(false,eval b X.env)]:=by rfl)(cV:starEach [b] X.env=[(false,eval b X.env)]:=by rfl):
  PI X (.Tuple elts x1 tp) (.Call (.Name "zip" p) [a,b] [] pos) (aed X.K ta):=by
 intro af s U H R I h;refine agO (qw I hg hm boot_zip (ahp (ha.n I h λus s1 vs H1 I1 r1 q1=>?_) (by rw[hs,cV]) (by rw[cV];rfl)));let#[l1,l2,xs,ys,rfl,h1,h2,q]:=q1;let#[u,v,rfl,ru,rv]:=vals2 r1;ext ru;ext rv;let#[us,v1,p1,z1]:=I1.list h1;let#[ws,v2,p2,z2]:=I1.list h2;have b1:l1<s1.heap.objs.size:=let#[o,n,e,_]:=p1;abb e
 have b2:=let#[o,n,e,_]:=p2;abb e
 refine call_zip_2 p1.isList p2.isList λh' g1 g2 g3 g4 g5 g6 k=>?_
 refine wpAny_pyIter_zip g1 ?_;refine#[_,_,_,_,H1,rfl,I1.kept k,agu (zipApart_new b1 b2),#[g1,g2,#[_,_,g3],g4,g5],λc hc=>?_,q];have up:∀j,ju X af H1 (s1.heap.objs.size+j):=λj=>I1.rZ (Nat.le_add_right _ _) (I1.aM.fresh (Nat.le_add_right _ _))
 simp only[aaA,ac6,ahz] at hc;rcases hc with rfl|rfl|rfl|rfl|rfl
 .exact up 4
 .exact up 2
 .exact up 3
 .exact up 0
 .exact up 1
end L2
namespace L2.Ev
open PySem PySem.Spec PyProof.Rows
def rY(fa fb:EF):IF:=λY=>match fa Y,fb Y with
 |some (.lst ds,t1),some (.lst es,t2)=>if(aQ ds&&aQ es)=true then some ((ds.zip es).map λp=>.tup [p.1,p.2],jL [(.lst ds,t1),(.lst es,t2)]) else none
 |_,_=>none
def aH.Pc{K:Fr}{i:Nat}(r:aH K H ds vs [])(e:ds[i]? = some d):∃v,vs[i]? = some v/\Rep K H d v []:=by
 let#[v,f,e1,r1,s]:=r.get e;have:f=[]:=List.eq_nil_iff_forall_not_mem.mpr λa m=>by have:=s a m;ext this
 subst this;apply#[v,e1,r1]
def afy{K:Fr}{f1 f2:List Addr}(c1:aQ ds=true)(c2:aQ es=true):
  tR K (Hh K l1 l2) ((ds.zip es).map λp=>.tup [p.1,p.2]) [#[.lst ds,.ref l1,f1],#[.lst es,.ref l2,f2]]:=by
 intro H i hh;let#[p1,xs,g1,e1,q1,r1,_]:=(hh _ aah).fq;let#[p2,ys,g2,e2,q2,r2,_]:=(hh _ (aaf _ aah)).fq;ext e1;ext e2;have n1:=r1.aE c1;have n2:=r2.aE c2;subst n1 n2;refine#[λd hd=>?_,λhl=>?_]
 .rw[abV] at hd;cases hz:(ds.zip es)[i]? with
  |none=>rw[hz] at hd;ext hd
  |some pr=>
   rw[hz] at hd;ext hd;let#[k1,k2]:=List.getElem?_zip_eq_some.mp hz;let#[x,hx,rx]:=r1.Pc k1;let#[y,hy,ry]:=r2.Pc k2;refine#[#[xs,ys,x,y,q1,q2,hx,hy],λv H1 hv=>?_];let#[T,a,b,hT,rfl,rfl,ha,hb]:=hv;have ea:=ha xs q1;have eb:=hb ys q2;rw[hx] at ea;rw[hy] at eb;ext ea;ext eb;have s2:aN H (upd H T (.tup [x,y])):=λb o e=>by rw[aP (dh e hT)];apply e
   apply#[s2,[],.tup (cO.of cg) (aH.cons (rx.same s2) (aH.cons (ry.same s2) .nil)),λa m=>nomatch m]
 .rw[List.length_map,List.length_zip,r1.length,r2.length] at hl;apply#[xs,ys,q1,q2,by lia]
def Ua{x1}(hm:X.mg "zip"=none)(ha:FP X a fa)(hb:FP X b fb)(hg:Gl X "zip":=by rfl)(hs:starEach [a,b] X.env=[(false,eval a X.env),(false,eval b X.env)]:=by rfl)(cV:starEach [b] X.env=[(false,eval b X.env)]:=by rfl):
  FI X (.Tuple elts x1 tp) (.Call (.Name "zip" p) [a,b] [] pos) (rY fa fb):=by
 let#[t,pa,hlen,q]:=ak ha (ak hb aA cV) (by rw[hs,cV]);exists 24,ad7 hg hm pa hs cV;unfold rY at e
 split at e
 .rename_i d1 t1 d2 t2 h1 h2;let#[hc,e]:=ci e;ext e;let#[c1,c2]:=(aav _ _).mp hc;refine q ok (by unfold au aB;rw[h1,h2]) λH1 vs fp s1 r g=>?_
  cases r with
  | @cons _ v1 _ _ f1 _ r1 r=>
   cases r with
   | @cons _ v2 _ _ f2 _ r2 r=>
    ext r;let#[l1,xs,g1,rfl,q1,_,_]:=r1.fq;let#[l2,ys,g2,rfl,q2,_,_]:=r2.fq;refine#[l1,l2,xs,ys,rfl,q1,q2,k H1 _ [#[.lst d1,.ref l1,f1],#[.lst d2,.ref l2,f2]] s1 (λh m=>?_) (afy c1 c2)];have go:=g.over ok;rcases aaA.mp m with rfl|m
    .exact#[r1,λa ma=>go a (aaL _ ma)]
    .cases aaD.mp m;apply#[r2,λa ma=>go a (aaJ _ (aaL _ ma))]
 .cases e
end L2.Ev
namespace L2
open PySem PySem.Spec PyProof.Rows
theorem Ph:∀{bs:List Bool} {us},aW (bs.map V.bl) us->us=bs.map Value.bool
 |[],_,r=>by rw[ajS] at r;ext r;rfl
 |b::bs,_,r=>by
  rw[aar] at r;cases r with
  |cons r1 r2=>ext r1;rw[Ph r2];rfl
def range_all(bs:List Bool):(List.range bs.length).all (λj=>bs.getD j true)=bs.all id:=by
 induction bs with
 |nil=>rfl
 |cons b r ih=>
  rw[abZ,List.range_succ_eq_map,ajN,ajt,ajN,<- ih];rfl
def ab4(hc:X.calm=true):ic X (.builtin "all") (λxs H Q=>∃(p:Addr) (bs:List Bool),xs=[V.ref p]/\cH X.K H p (bs.map V.bl)/\Q (.bl (bs.all id)) H):=by
 intro af s U H xs us Q I r h;let#[p,bs,rfl,hq,q]:=h;let#[u,rfl,ru]:=vals1 r;ext ru;let#[ay,v1,pl,hz]:=I.list hq;have ei:=Ph v1;subst ei;have lp:=let#[o,n,e,_]:=pl;abb e
 have hh:X.A.in1.handled=none:=I.ok.hd hc;refine call_all_walk (wpAny_pyIter_list pl.isList ?_);refine#[s.heap.objs.size,_,_,_,_,_,λj=>bs.getD j true,rfl,Walks.list hh s.heap.objs.size p (aco lp) (bs.map Value.bool).toArray,#[#[_,abp _ rfl,rfl,rfl],pl.isList.at λo e=>aaq _ e],?_,λh' tk hk=>?_]
 .intro i v s' Q' E' hv hQ;rw[List.getElem?_toArray,abV] at hv;exists e,bs[i]?,b,hv;ext hv;dsimp only at hQ;rw[adM,e] at hQ;apply agz hQ
 .have f:=I.rZ (abi s.heap.objs.size) (I.aM.fresh (abi _));have I1:Inv X af U H { s with heap:=s.heap.push { cls:=.type "list_iterator",data:=.fields ([.ref p,.int 0 0].toArray) } }:=I.kept λb o e=>aaq _ e
  rw[abF,List.length_map,range_all];apply#[.bl _,H,I1.SN (λb m=>by rw[aaD.mp m];apply f) λb o m e=>hk b o m e,rfl,q]
end L2
namespace L2.Ev
open PySem PySem.Spec PyProof.Rows
def nF:List D->Option (List Bool)
 |[]=>some []
 |.bl b::r=>(nF r).map (b::·)
 |_=>none
theorem RT{K:Fr}:∀{ds} {xs} {fp} {bs},aH K H ds xs fp->nF ds=some bs->xs=bs.map V.bl
 |[],_,_,bs,r,e=>by ext r;ext e;rfl
 |d::ds,_,_,bs,r,e=>by
  cases r with
  |cons h t=>
   ext d<;>try (ext e;done)
   ext h;unfold nF at e;exists q,nF ds,r,e;ext e;rw[RT t q];rfl
def tG:D->Option D
 |.lst ds=>(nF ds).map λbs=>.bl (bs.all id)
 |_=>none
def afo{K:Fr}:qZ K (λxs H Q=>∃(p:Addr) (bs:List Bool),xs=[V.ref p]/\cH K H p (bs.map V.bl)/\Q (.bl (bs.all id)) H) tG:=by
 intro H x d1 f1 d Q r e k;cases d1 with
 |lst ds=>
  let#[p,xs,f,rfl,hq,rs,_]:=r.fq;have e:(nF ds).map (λbs=>D.bl (bs.all id))=some d:=e;exists h,nF ds,bs,e;ext e;have ex:=RT rs h;subst ex;apply#[p,bs,rfl,hq,k H _ [] (aN.refl H) (.bl _) acm λa m=>nomatch m]
 |_=>ext e
def Ec(hc:X.calm=true)(hm:X.mg "all"=none)(ha:FP X a fa)(hg:Gl X "all":=by rfl)(hs:starEach [a] X.env=[(false,eval a X.env)]:=by rfl):FP X (.Call (.Name "all" p) [a] [] pos) (e1 tG fa):=
 fp_1 afo ha λta pa=>sD (ab4 hc) hg hm boot_all (dX pa fT hs) (he:=hs)
abbrev XF:=aR->Option (D×aR)
def ZY{P:Program}{w:World}{K:Fr}{mg:Str->Option Value}{base:Heap}{x qual:Str}{st:Stmt}{f:Addr}{fd:FuncData}{N ps:List Str}{k:Nat}(F:jj K x qual st f fd)(S:nC N ps (di st)):
  bS P w K mg base dR (k+1) f fd ps (a_ K λ_=>none):=F.ok S (λvs H Q E #[_,_,_,_,e,_]=>nomatch e) λaZ A outer s H vs Q E hr #[_,_,_,_,e,_]=>nomatch e
def aaN(ha:FP X a fa)(hb:FP X b fb):FP X (.Compare a [.Lt] [b] pos) (e2 oLt fa fb):=qT Mj tM ha hb (jV _)
def aiu(ha:FP X a fa)(hb:FP X b fb):FP X (.Compare a [.LtE] [b] pos) (e2 oLe fa fb):=qT GQ tM ha hb (jV _)
def Pa(ha:FP X a fa)(hb:FP X b fb):FP X (.Compare a [.Is] [b] pos) (e2 iV fa fb):=qT Qc RP ha hb (jV _)
end L2.Ev
namespace L2.Ev
open PySem
theorem dY:∀ns:List Int,aQ (ns.map D.int)=true
 |[]=>rfl
 |n::r=>by rw[aar];unfold aQ;rw[dY r];rfl
def xP{as bs:List Int}(h:as.length+bs.length<=PySem.sizeLine):gx (.lst (as.map D.int)) (.lst (bs.map D.int))=some (.lst ((as++bs).map D.int)):=by
 show(if(aQ (as.map D.int)&&aQ (bs.map D.int)&&decide ((as.map D.int).length+(bs.map D.int).length<=PySem.sizeLine))=true then some (D.lst (as.map D.int++bs.map D.int)) else none)=_;rw[dY,dY,List.length_map,List.length_map,aas h,adS];rfl
def YJ(h:ns.length<64):mH (.lst (ns.map D.int))=some (.lst ((eK ns).map D.int)):=by
 show(match fN (ns.map D.int) with|some ns=>if ns.length<64 then some (D.lst ((eK ns).map D.int)) else none|none=>none)=_;rw[uJ];dsimp only;rw[if_pos h]
def u9{ns:List Int}:vp (.lst (ns.map D.int))=some (.lst (ns.map D.int)):=by show(if aQ (ns.map D.int)=true then some (D.lst (ns.map D.int)) else none)=_;rw[if_pos (dY ns)]
def MG{ns:List Int}:vp (.tup (ns.map D.int))=some (.lst (ns.map D.int)):=by show(if aQ (ns.map D.int)=true then some (D.lst (ns.map D.int)) else none)=_;rw[if_pos (dY ns)]
def K3{ns:List Int}:B3 (.lst (ns.map D.int))=some (.tup (ns.map D.int)):=by show(if aQ (ns.map D.int)=true then some (D.tup (ns.map D.int)) else none)=_;rw[if_pos (dY ns)]
open PySem PySem.Spec PyProof.Rows
def aH.look{K:Fr}:∀{es:List (Str×D)}{fs:List (Str×V)} {fp} {f} {d},es.map (·.1)=fs.map (·.1)->aH K H (es.map (·.2)) (fs.map (·.2)) fp->es.lookup f=some d->∃v g,fs.lookup f=some v/\Rep K H d v g/\∀a∈g,a∈fp
 |[],[],_,_,_,_,_,e=>by ext e
 |[],_::_,_,_,_,k,_,_=>by simp at k
 |_::_,[],_,_,_,k,_,_=>by simp at k
 |(x,d0)::es,(y,v0)::fs,fp,f,d,k,r,e=>by
  simp only[aar,ahr] at k;let#[rfl,k]:=k;cases r with
  |cons r1 r2=>
   by_cases hx:(f==x)=true
   .simp only[List.lookup,hx] at e ⊢;ext e;apply#[v0,_,rfl,r1,λa m=>aaL _ m]
   .have hx:(f==x)=false:=by simpa using hx
    simp only[List.lookup,hx] at e ⊢;let#[v,g,h1,h2,h3]:=aH.look k r2 e;apply#[v,g,h1,h2,λa m=>aaJ _ (h3 a m)]
theorem qI:∀{es:List (Str×D)}{fs:List (Str×V)} {f},es.map (·.1)=fs.map (·.1)->es.lookup f=none->fs.lookup f=none
 |[],[],_,_,_=>rfl
 |[],_::_,_,k,_=>by simp at k
 |_::_,[],_,k,_=>by simp at k
 |(x,d0)::es,(y,v0)::fs,f,k,e=>by
  simp only[aar,ahr] at k;let#[rfl,k]:=k
  by_cases hx:(f==x)=true
  .simp only[List.lookup,hx] at e;ext e
  .have hx:(f==x)=false:=by simpa using hx
   simp only[List.lookup,hx] at e ⊢;apply qI k e
structure ClsAt(K:Fr)(cn:Str)(C:Addr):Prop where
 ns:PySem.W.nsIn K mainGlobals cn=some (some (.ref C))
 cl:kg K C
def Rep.kP{K:Fr}(r:Rep K H (.ins cn es) v fp)(hn:PySem.W.nsIn K mainGlobals cn=some (some (.ref C))):
  ∃a dx fs g,v=.ref a/\fp=a::dx::g/\H a=some (.ins C dx fs)/\H dx=some (.own a)/\es.map (·.1)=fs.map (·.1)/\aH K H (es.map (·.2)) (fs.map (·.2)) g:=by
 cases r with
 | @ins _ a C' dx fs _ g h0 h1 h2 h3 h4=>
  rw[hn] at h0;ext h0;apply#[a,dx,fs,g,rfl,rfl,h1,h2,h3,h4]
def bQ(cn f:Str)(fa:EF):EF:=λY=>match fa Y with
 |some (.ins c es,t)=>if c=cn then(es.lookup f).map λd=>(d,lM t) else none
 |_=>none
def dQ.sub(hz:∀a j,z a=some j->∃o,H a=some o)(h:dQ z H t f)(s:∀a∈g,a∈f):dQ z H (lM t) g:=by
 cases t with
 |sh o=>apply λa m j q=>h a (s a m) j q
 |own=>apply λa m j q=>by let#[o,w]:=hz a j q;rw[h.2 a (s a m)] at w;ext w
 |lk=>apply λa m j q=>by let#[o,w]:=hz a j q;rw[h.2 a (s a m)] at w;ext w
def bO{cn f:Str}{C:Addr}(hC:ClsAt X.K cn C)(na:jb X.K C f)(ha:FP X a fa)(hb:attributeBase a f X.env (eval a X.env)=eval a X.env:=by rfl):FP X (.Attribute a f pos) (bQ cn f fa):=by
 let#[t,p,q]:=ha;exists 21,oY p hb;unfold bQ at e;exists h,fa Y,w,e,0;let#[d0,t0]:=w;rw[h] at e;ext d0<;>try (ext e;done)
 rename_i c es;dsimp only at e
 by_cases hc:c=cn
 .subst hc;rw[if_pos rfl] at e;exists hl,es.lookup f,d1,e;ext e;refine q ok h λH1 v fp s1 r1 g1=>?_
  let#[b,dx,fs,g,rfl,rfl,h1,h2,h3,h4]:=r1.kP hC.ns;let#[u,gf,h5,h6,h7]:=aH.look h3 h4 hl;apply#[b,C,dx,fs,u,rfl,h1,hC.cl,na,h5,k H1 u gf s1 h6 (dQ.sub (λa j e=>(ok.zd a j e).1) g1 λa m=>aaf _ (aaf _ (h7 a m)))]
 .rw[aa0 hc] at e;ext e
def bT(cn m:Str)(F:List D->Option D)(fo:EF)(g:AF):EF:=λY=>match fo Y with
 |some (.ins c es,_)=>if c=cn/\es.lookup m=none then(g Y).bind λps=>(F (.ins c es::ps.map (·.1))).map λd=>(d,.own) else none
 |_=>none
section
variable{X:Cx}
def Tw(hC:ClsAt X.K cn C)(q:∀{H0} {S} {z} {aq} {Y} {U} {H} {Q} {d} {tg},Ok X.K H0 S z aq Y U H->fo Y=some (d,tg)->(∀H' v fp,aN H H'->Rep X.K H' d v fp->dQ z H tg fp->Q v H')->t U H Q)
  (qa:∀{H0} {S} {z} {aq} {Y} {U} {H} {Q} {ps},Ok X.K H0 S z aq Y U H->g Y=some ps->(∀H' vs fp,aN H H'->aH X.K H' (ps.map (·.1)) vs fp->dQ z H (jL ps) fp->Q vs H')->ta U H Q)
  (ok:Ok X.K H0 S z aq Y U H) (e0:bT cn m F fo g Y=some (d,tg)) (kk:∀H' v fp,aN H H'->Rep X.K H' d v fp->dQ z H tg fp->Q v H') :
  Bb C m (a_ X.K F) [] E0 t ta U H Q:=by
 unfold bT at e0;cases h:fo Y with
 |none=>rw[h] at e0;ext e0
 |some w=>
  let#[d0,t0]:=w;rw[h] at e0;ext d0<;>try (ext e0;done)
  rename_i c nv;dsimp only at e0
  by_cases hc:c=cn/\nv.lookup m=none
  .rw[if_pos hc] at e0;let#[rfl,hm]:=hc;cases h2:g Y with
   |none=>rw[h2] at e0;ext e0
   |some qs=>
    rw[h2,abR] at e0;cases h3:F (.ins c nv::qs.map (·.1)) with
    |none=>rw[h3] at e0;ext e0
    |some d1=>
     rw[h3] at e0;ext e0;refine q ok h λH1 v fp s1 r1 g1=>?_
     let#[b,dx,fs,gf,rfl,rfl,h4,h5,h6,h7]:=r1.kP hC.ns;refine#[b,dx,fs,rfl,h4,qI h6 hm,?_];refine qa (ok.same s1) h2 λH2 vs jF s2 r2 _=>?_
     rw[ack];apply#[_,_,d,.cons (r1.same s2) r2,h3,λH3 u gS s3 r3 nd fr=>kk H3 u gS ((s1.trans s2).trans s3) r3 #[nd,λa m=>s1.free (s2.free (fr a m))]]
  .rw[aa0 hc] at e0;ext e0
def fX(hC:ClsAt X.K cn C)(hm:j_ X.K C m f)(G:bS X.prog X.w X.K X.mg X.base dR k f fd ps (a_ X.K F))(hr:bR k X.A)(hb:Binds X.K fd ps [])(ho:FP X o fo)(ha:FA X (e::es) g)
  (dM:SE X e es pos:=by apply#[rfl,rfl])
  (ht:sR X o m apos (e::es) pos pl:=by apply rfl):FP X (.Call (.Attribute o m apos) (e::es) [] pos) (bT cn m F fo g):=by
 let#[t,p,q]:=ho;let#[ta,pa,_,qa]:=ha;apply#[_,Dz p hC.cl hm G hr hb .nil oK pa dM.1 dM.2 ht,@λH0 S z aq Y U H Q d tg ok e0 kk=>Tw hC q qa ok e0 kk]
def cQ(hC:ClsAt X.K cn C)(hm:j_ X.K C m f)(G:bS X.prog X.w X.K X.mg X.base dR k f fd ps (a_ X.K F))(hr:bR k X.A)(hb:Binds X.K fd ps [])(ho:FP X o fo)
  (ht:sR X o m apos [] pos pl:=by apply rfl):FP X (.Call (.Attribute o m apos) [] [] pos) (bT cn m F fo aB):=by
 let#[t,p,q]:=ho;let#[ta,pa,_,qa]:=aA (X:=X);refine#[_,NT p hC.cl hm G hr hb .nil oK ht,@λH0 S z aq Y U H Q d tg ok e0 kk=>Tw hC q (@λ_ _ _ _ _ _ H _ _ _ e q=>by ext e;apply q H _ _ (aN.refl H) .nil .nil) ok e0 kk]
end
abbrev MF:=D->List D->Option (D×D)
def eU(K:Fr)(G:MF):Sp:=λvs H Q _=>∃a ws d0 aS ds dw r d1,vs=V.ref a::ws/\Rep K H d0 (.ref a) aS/\aS.Nodup/\aH K H ds ws dw/\(∀b∈dw,b∉aS)/\G d0 ds=some (r,d1)/\
 ∀H' v bC,bf H H'->(∀b o,b∉aS->H b=some o->H' b=some o)->Rep K H' d1 (.ref a) bC->bC.Nodup->(∀b∈bC,b∈aS\/H b=none)->Rep K H' r v []->Q v H'
def apart(i:Nat)(ps:List (D×Tag)):Bool:=match jL ps with
 |.sh o=>!o.contains i
 |_=>true
def x6{K:Fr}(ok:Ok K H0 S z aq Y U H)(h:apart i ps=true)(g:dQ z H (jL ps) fp)(zz:xD z i .own aS):∀b∈fp,b∉aS:=by
 intro b m n;unfold apart at h;have zb:=zz.2 b n;cases ht:jL ps with
 |sh o=>
  rw[ht] at h g;have:=g b m i zb;simp at h;apply h this
 |own=>
  rw[ht] at g;let#[#[o,w],_]:=ok.zd b i zb;rw[g.2 b m] at w;ext w
 |lk=>
  rw[ht] at g;let#[#[o,w],_]:=ok.zd b i zb;rw[g.2 b m] at w;ext w
def xO(i:Nat)(cn m:Str)(G:MF)(g:AF):XF:=λY=>match Y[i]?,g Y with
 |some (some (.ins c es,.own)),some ps=>if c=cn/\es.lookup m=none/\apart i ps=true then(G (.ins c es) (ps.map (·.1))).map λw=>(w.1,cz Y i w.2) else none
 |_,_=>none
def S8(e:xO i cn m G g Y=some (r,Y')):∃es ps d1,Y[i]? = some (some (.ins cn es,.own))/\g Y=some ps/\es.lookup m=none/\apart i ps=true/\G (.ins cn es) (ps.map (·.1))=some (r,d1)/\Y'=cz Y i d1:=by
 unfold xO at e
 split at e
 .rename_i c es ps h1 h2
  by_cases hc:c=cn/\es.lookup m=none/\apart i ps=true
  .rw[if_pos hc] at e;let#[rfl,hm,ha]:=hc;exists h3,G (.ins c es) (ps.map (·.1)),w,e;ext e;apply#[es,ps,w.2,h1,h2,hm,ha,h3,rfl]
  .rw[aa0 hc] at e;ext e
 .cases e
def FZ(X:Cx)(e:Expr)(f:XF):Prop:=∃t,PE X e t/\∀{H0} {S} {z} {aq} {Y} {U} {H} {Q} {d} {Y'},
 Ok X.K H0 S z aq Y U H->f Y=some (d,Y')->(∀z' H' v,Ok X.K H0 S z' aq Y' U H'->Rep X.K H' d v []->Q v H')->t U H Q
section
variable{X:Cx}
def aeM(hC:ClsAt X.K cn C)(hN:X.N[i]? = some x)
  (qa:∀{H0:Hp} {S} {z} {aq} {Y} {U} {H} {Q} {ps},Ok X.K H0 S z aq Y U H->g Y=some ps->(∀H' vs fp,aN H H'->aH X.K H' (ps.map (·.1)) vs fp->dQ z H (jL ps) fp->Q vs H')->ta U H Q)
  (ok:Ok X.K H0 S z aq Y U H) (e0:xO i cn m G g Y=some (d,Y')) (kk:∀z' H' v,Ok X.K H0 S z' aq Y' U H'->Rep X.K H' d v []->Q v H') :
  Bb C m (eU X.K G) [] E0 (qC i) ta U H Q:=by
 let#[nv,qs,d1,h1,h2,hm,lH,hG,rfl]:=S8 e0;let#[v,aS,hs,r0,zz]:=ok.sl i _ _ h1;refine#[v,hs,?_];let#[b,dx,fs,gf,rfl,CA,h4,h5,h6,h7]:=r0.kP hC.ns;refine#[b,dx,fs,rfl,h4,qI h6 hm,?_];refine qa ok h2 λH2 vs jF s2 r2 g2=>?_
 rw[ack];have ou:=ok.same s2;refine#[b,vs,_,aS,_,jF,d,d1,rfl,r0.same s2,zz.1,r2,x6 ok lH g2 zz,hG,λH3 u bC im kp r1 nd fr rr=>?_];let#[z',iG]:=ou.put h1 hs zz im kp r1 nd fr;apply kk z' H3 u iG rr
def lN(i:Nat)(hC:ClsAt X.K cn C)(hm:j_ X.K C m f)(GG:bS X.prog X.w X.K X.mg X.base dR k f fd ps (eU X.K G))(hr:bR k X.A)(hb:Binds X.K fd ps [])(va:VA X i x:=by walk_at "va")
  (ht:sR X (.Name x p1) m apos [] pos pl:=by apply rfl):FZ X (.Call (.Attribute (.Name x p1) m apos) [] [] pos) (xO i cn m G aB):=
 #[_,NT va.pe hC.cl hm GG hr hb .nil oK ht,@λH0 S z aq Y U H Q d Y' ok e0 kk=>aeM hC va.N (@λ_ _ _ _ _ _ H _ _ _ e q=>by ext e;apply q H _ _ (aN.refl H) .nil .nil) ok e0 kk]
def sZ(f:XF):SF:=λY=>(f Y).map λw=>.nx w.2
def l8(he:FZ X e fx)(jo:swapsWith e none pos.line X.env=pure false:=by rfl):fG X (.Expr e pos) (sZ fx):=by
 let#[t,p,q]:=he;exists 23,xQ p jo;unfold sZ at e;exists h,fx Y,w,e,0;let#[d,aT]:=w;rw[h] at e;ext e;apply q ok h λz' H1 v cG r1=>k z' U H1 cG (.refl _ _)
def RO(i:Nat)(f:XF):SF:=λY=>match f Y with
 |some (d,Y')=>some (.nx (g_ Y' i d .own))
 |none=>none
def ado(i:Nat)(he:FZ X e fx)(hN:X.N.Nodup)(hi:X.N[i]? = some x:=by rfl)(hx:Loc X.env.scope x:=by first|exact Or.inl rfl|exact Or.inr rfl)
  (hs:swapsWith e (some (.Name x pos')) pos.line X.env=pure false:=by rfl) (hf:X.fn x=true\/X.env.scope.names.lookup x=some .local:=by first|exact .inl rfl|exact .inr rfl) (oS:lG X x=false:=by rfl):fG X (.Assign [.Name x pos'] e pos) (RO i fx):=by
 let#[t,p,q]:=he;exists 23,DS hN hi hx p hs hf;unfold RO at e;cases h:fx Y with
 |none=>rw[h] at e;ext e
 |some w=>
  let#[d,aT]:=w;rw[h] at e;ext e;refine q ok h λz1 H1 v cG r1=>?_
  apply cG.stored (aN.refl H1) r1 .nil λz' bu=>k z' _ H1 bu (.set hi oS)
end
def n8(cn:Str)(G:MF)(g:AF):EF:=λY=>(g Y).bind λps=>match G (.ins cn []) (ps.map (·.1)) with
 |some (.aJ,d)=>some (d,.own)
 |_=>none
section
variable{X:Cx}
def make_core{Q:VK}(hn:PySem.W.nsIn X.K mainGlobals cn=some (some (.ref C)))(r1:aH X.K H1 ds vs fp)(h3:G (.ins cn []) ds=some (.aJ,d))(kk:∀H' v fp,aN H1 H'->Rep X.K H' d v fp->fp.Nodup->(∀a∈fp,H1 a=none)->Q v H'):
  ∀x dx,H1 x=none->H1 dx=none->dx≠x->eU X.K G (.ref x::(vs++[])) (upd (upd H1 dx (.own x)) x (.ins C dx [])) (λv H2=>v=.aJ/\Q (.ref x) H2) E0:=by
 intro b dx nb Dy ne;rw[ack];have s2:aN H1 (upd (upd H1 dx (.own b)) b (.ins C dx [])):=λc o e=>by rw[aP (dh e nb),aP (dh e Dy)];apply e
 refine#[b,vs,.ins cn [],[b,dx],_,fp,.aJ,d,rfl,.ins hn cg (by rw[aP ne];apply cg) rfl .nil,?_,r1.same s2,λc m n=>?_,h3,λH3 u bC im kp r3 nd fr rr=>?_]
 .exact abo.mpr #[λm=>ne (aaD.mp m).symm,abo.mpr #[(λm=>nomatch m),acm]]
 .let#[o,w,_]:=r1.fu c m;rcases aaA.mp n with e|n
  .rw[e,nb] at w;ext w
  .rw[aaD.mp n,Dy] at w;ext w
 .cases rr;refine#[rfl,kk H3 _ bC (λc o e=>?_) r3 nd λc m=>?_]
  .refine kp c o (λn=>?_) (s2 c o e);rcases aaA.mp n with q|n
   .rw[q,nb] at e;ext e
   .rw[aaD.mp n,Dy] at e;ext e
  .rcases fr c m with q|q
   .rcases aaA.mp q with q|q
    .rw[q];apply nb
    .rw[aaD.mp q];apply Dy
   .exact s2.free q
def OL(hn:PySem.W.nsIn X.K mainGlobals cn=some (some (.ref C)))
  (qa:∀{H0} {S} {z} {aq} {Y} {U} {H} {Q} {ps},Ok X.K H0 S z aq Y U H->g Y=some ps->(∀H' vs fp,aN H H'->aH X.K H' (ps.map (·.1)) vs fp->dQ z H (jL ps) fp->Q vs H')->ta U H Q)
  (ok:Ok X.K H0 S z aq Y U H) (e0:n8 cn G g Y=some (d,tg)) (kk:∀H' v fp,aN H H'->Rep X.K H' d v fp->dQ z H tg fp->Q v H') :
  Jd C (eU X.K G) [] E0 ta U H Q:=by
 unfold n8 at e0;exists h2,g Y,qs,e0,0;rw[h2,abR] at e0;exists h3,G (.ins cn []) (qs.map (·.1)),w,e0,0;let#[r,d1]:=w;rw[h3] at e0;ext r<;>try (ext e0;done)
 ext e0;refine qa ok h2 λH1 vs fp s1 r1 _=>?_
 apply make_core hn r1 h3 λH' v fp s2 r3 nd fr=>kk H' v fp (s1.trans s2) r3 #[nd,λa m=>s1.free (fr a m)]
def Od(hn:PySem.W.nsIn X.K mainGlobals cn=some (some (.ref C)))(M:Mk X.K C f)(GG:bS X.prog X.w X.K X.mg X.base dR k f fd ps (eU X.K G))(hr:bR (k+1) X.A)(hm:X.mg x=some (.ref C))(hb:Binds X.K fd ps [])(hg:GD X x:=by apply#[rfl,by decide]):
  FP X (.Call (.Name x p) [] [] pos) (n8 cn G aB):=
 #[_,aa9 M GG hr hg.1 hm hb .nil oK hg.2,@λH0 S z aq Y U H Q d tg ok e0 kk=>OL hn (@λ_ _ _ _ _ _ H _ _ _ e q=>by ext e;apply q H _ _ (aN.refl H) .nil .nil) ok e0 kk]
def KL(hn:PySem.W.nsIn X.K mainGlobals cn=some (some (.ref C)))(M:Mk X.K C f)(GG:bS X.prog X.w X.K X.mg X.base dR k f fd ps (eU X.K G))(hr:bR (k+1) X.A)(hm:X.mg x=some (.ref C))(hb:Binds X.K fd ps [])(ha:FA X (e::es) g)(hg:GD X x:=by apply#[rfl,by decide])
  (he:SE X e es pos:=by apply#[rfl,rfl]):FP X (.Call (.Name x p) (e::es) [] pos) (n8 cn G g):=by
 let#[ta,pa,_,qa]:=ha;apply#[_,WH M GG hr hg.1 hm hb .nil oK pa hg.2 he.1 he.2,@λH0 S z aq Y U H Q d tg ok e0 kk=>OL hn qa ok e0 kk]
end
end L2.Ev
namespace L2
open PySem PySem.Spec PyProof.Rows
abbrev Cx.nH(X:Cx)(xs:List Str):Cx:={ X with fn:=λy=>!(xs.contains y) }
def iX.nH{st:List Stmt}(hX:X.fn=λ_=>true)(h:iX (X.nH xs) st t):iX X st t:=λaf s U H W I hw=>by
 have I':Inv (X.nH xs) af U H s:=#[#[I.ok.mod,I.ok.kind,I.ok.glob,I.ok.blt,I.ok.above,I.ok.inj,I.ok.has,λx c _ e=>I.ok.qe x c (by rw[hX]) e,I.ok.hd,I.ok.frames,I.ok.rL,I.ok.uf,I.ok.bs,I.ok.jI,I.ok.pR,I.ok.qm,I.ok.jG,I.ok.l_],I.os,I.bare,I.base,I.loc,I.cell,I.free,I.iC,I.pin,I.aM,I.len,I.hq]
 have back:∀{aG} {H'} {s'},Inv (X.nH xs) af aG H' s'->Inv X af aG H' s':=λJ=>#[I.ok,J.os,J.bare,J.base,J.loc,J.cell,J.free,J.iC,J.pin,J.aM,J.len,J.hq]
 refine aeG (h af s U H W I' hw) (λf s' q=>?_) λ_ _ z=>z
 cases f with
 |next=>let#[a,b,J,q]:=q;apply#[a,b,back J,q]
 |brk=>let#[a,b,J,q]:=q;apply#[a,b,back J,q]
 |cont=>let#[a,b,J,q]:=q;apply#[a,b,back J,q]
 |ret u=>let#[v,a,b,J,r,q]:=q;apply#[v,a,b,back J,r,q]
end L2
namespace L2.Ev
open PySem PySem.Spec PyProof.Rows
def uE:List Nat->aR->Option (List D)
 |[],_=>some []
 |i::J,Y=>match Y[i]? with
  |some (some (d,Tag.own))=>(uE J Y).map (d::·)
  |_=>none
def ya(J:List Nat)(im:Bool)(X:Cx)(H0:Hp)(S:List Addr)(aq:List sE)(pY:St)(E:Ends):Out->Prop
 |.rt p=>∃r es,p=.tup (r::es)/\∀z Y U H v f6,Ok X.K H0 S z aq Y U H->uE J Y=some es->Kp X pY U->Rep X.K H r v f6->f6.Nodup->(∀b∈f6,(H0 b=none\/b∈S)/\∀i∈J,z b≠some i)->(im=true->f6=[])->E.rt v H
 |o=>nU X H0 S aq pY E o
def FJ(J:List Nat)(im:Bool)(X:Cx)(st:List Stmt)(f:SF):Prop:=∃t,iX X st t/\∀{H0} {S} {z} {aq} {Y} {U} {H} {E} {o},
 Ok X.K H0 S z aq Y U H->f Y=some o->ya J im X H0 S aq U E o->t E U H
def qW(J:List Nat)(im:Bool)(X:Cx)(st:Stmt)(f:SF):Prop:=∃t,PS X st t/\∀{H0} {S} {z} {aq} {Y} {U} {H} {E} {o},
 Ok X.K H0 S z aq Y U H->f Y=some o->ya J im X H0 S aq U E o->t E U H
abbrev Bg:=FJ [0]
abbrev FM:=FJ [0] true
def ya.of(k:ya J im X H0 S aq U E o)(a:Kp X U aG):ya J im X H0 S aq aG E o:=by
 cases o with
 |nx Y=>apply nU.of (o:=.nx Y) k a
 |bk Y=>apply nU.of (o:=.bk Y) k a
 |ct Y=>apply nU.of (o:=.ct Y) k a
 |er raw cn Y=>apply w6.of k a
 |rt d=>let#[r,d0,e,k]:=k;apply#[r,d0,e,λz Y s H v f6 ok h b=>k z Y s H v f6 ok h (a.trans b)]
def lI(f:SF):SF:=λY=>match f Y with
 |some (.nx Y')=>some (.nx Y')
 |some (.bk Y')=>some (.bk Y')
 |some (.ct Y')=>some (.ct Y')
 |some (.er raw cn Y')=>some (.er raw cn Y')
 |_=>none
section
variable{st:Stmt}{rest:List Stmt}
def cK(h:fG X st f):qW J im X st (lI f):=by
 let#[t,p,q]:=h;refine#[t,p,@λH0 S z aq Y U H E o ok e k=>?_];unfold lI at e;cases h:f Y with
 |none=>rw[h] at e;ext e
 |some w=>
  rw[h] at e;refine q ok h ?_;ext w<;>first|(ext e;done)|(ext e;apply k)
def jW:FJ J im X [] eS:=#[_,Sx,@λ_ _ z _ _ U H _ _ ok e k=>by ext e;apply k z U H ok (.refl _ _)]
def fm(h:qW J im X st f):FJ J im X [st] f:=let#[t,p,q]:=h;#[t,Qt p,q]
def cC(h1:qW J im X st f)(h2:FJ J im X rest g):FJ J im X (st::rest) (bN f g):=by
 let#[t,p,q]:=h1;let#[t',p',q']:=h2;exists 23,Ac p p';unfold bN at e;cases h:f Y with
 |none=>rw[h] at e;ext e
 |some w=>
  refine q ok h ?_;rw[h] at e;cases w with
  |nx Y'=>apply λz' aG H' bu a=>q' bu e (k.of a)
  |rt d=>ext e;apply k
  |bk Y'=>ext e;apply k
  |ct Y'=>ext e;apply k
  |er _ _ _=>ext e;apply k
def iW(hc:FT X c tc)(ha:FJ J im X a f)(hb:FJ J im X b g):qW J im X (.If c a b pos) (dg tc f g):=by
 let#[t,p,q]:=hc;let#[t1,p1,q1]:=ha;let#[t2,p2,q2]:=hb;exists 23,IZ p p1 p2;unfold dg at e;cases h:tc Y with
 |none=>rw[h] at e;ext e
 |some y=>
  rw[h] at e;refine q ok h λH1 s1=>?_
  cases y with
  |true=>rw[if_pos rfl];apply q1 (ok.same s1) e k
  |false=>rw[aa0 aaH];apply q2 (ok.same s1) e k
def pA:qW J im X st Kr:=#[_,Tn,@λ_ _ _ _ _ _ _ _ _ _ e _=>by ext e]
def v8(f:EF)(J:List Nat:=[0]):SF:=λY=>match f Y,uE J Y with
 |some (r,_),some es=>if aE r=true then some (.rt (.tup (r::es))) else none
 |_,_=>none
def qU(he:FP X e f):qW J im X (.Return (some e) pos) (v8 f J):=by
 let#[t,p,q]:=he;exists 23,za p;unfold v8 at e
 split at e
 .rename_i r tg es h1 h2
  by_cases hi:aE r=true
  .rw[if_pos hi] at e;ext e;let#[r',vd,ee,k]:=k;ext ee;refine q ok h1 λH1 v fp s1 r1 _=>?_
   have hn:=r1.aE hi;subst hn;apply k z Y U H1 v [] (ok.same s1) h2 (.refl _ _) r1 acm (λb m=>nomatch m) λ_=>rfl
  .rw[aa0 hi] at e;ext e
 .cases e
def DQ(f:XF)(J:List Nat:=[0]):SF:=λY=>match f Y with
 |some (r,Y')=>(uE J Y').map λes=>.rt (.tup (r::es))
 |none=>none
def Y_(he:FZ X e f):qW J im X (.Return (some e) pos) (DQ f J):=by
 let#[t,p,q]:=he;exists 23,za p;unfold DQ at e;cases h1:f Y with
 |none=>rw[h1] at e;ext e
 |some w=>
  rw[h1] at e;let#[es,h2,rfl]:=abW.mp e;let#[r',vd,ee,k]:=k;ext ee;apply q ok h1 λz' H1 v cG r1=>k z' w.2 U H1 v [] cG h2 (.refl _ _) r1 acm (λb m=>nomatch m) λ_=>rfl
def N6(i:Nat)(J:List Nat:=[0]):SF:=λY=>match Y[i]?,uE J Y with
 |some (some (r,Tag.own)),some es=>if J.contains i=true then none else some (.rt (.tup (r::es)))
 |_,_=>none
def aaE(i:Nat)(va:VA X i x:=by walk_at "va"):qW J false X (.Return (some (.Name x p1)) pos) (N6 i J):=by
 exists 23,za va.pe;unfold N6 at e
 split at e
 .rename_i r es h1 h0
  by_cases hj:J.contains i=true
  .rw[if_pos hj] at e;ext e
  .rw[aa0 hj] at e;ext e;let#[r',vd,ee,k]:=k;ext ee;let#[v,fp,hs,rr,zz]:=ok.sl i _ _ h1;refine#[v,hs,k z Y U H v fp ok h0 (.refl _ _) rr zz.1 (λb m=>#[(ok.zd b i (zz.2 b m)).2,λj mj q=>?_]) λq=>nomatch q];rw[zz.2 b m] at q;ext q;apply hj (ae3.mpr mj)
 .cases e
end
def yS(n:Nat)(d0:D)(ds:List D):aR:=some (d0,.own)::(ds.map (λd=>some (d,.sh []))++List.replicate (n-(ds.length+1)) none)
def runM(n N:Nat)(b:SF):MF:=λd0 ds=>if ds.length + 1=n then(match b (yS N d0 ds) with
 |some (.rt (.tup [r,d1]))=>some (r,d1)
 |some (.nx Y)=>match Y[0]? with
  |some (some (d1,Tag.own))=>some (.aJ,d1)
  |_=>none
 |_=>none) else none
def afh(h:uE [0] Y=some [d]):Y[0]? = some (some (d,.own)):=by
 unfold uE at h
 split at h
 .rename_i d' e;ext h;apply e
 .cases h
def Bj(im:Bool)(K:Fr)(G:MF):Sp:=λvs H Q _=>∃v0 ws d0 aS ds dw r d1,vs=v0::ws/\Rep K H d0 v0 aS/\aS.Nodup/\aH K H ds ws dw/\(∀b∈dw,b∉aS)/\G d0 ds=some (r,d1)/\
 ∀H' v bC f6,bf H H'->(∀b o,b∉aS->H b=some o->H' b=some o)->Rep K H' d1 v0 bC->bC.Nodup->(∀b∈bC,b∈aS\/H b=none)->Rep K H' r v f6->f6.Nodup->(∀b∈f6,(b∈aS\/H b=none)/\b∉bC)->(im=true->f6=[])->Q v H'
def rJ(K:Fr)(G:MF):Sp:=λvs H Q _=>∃v0 ws d0 aS ds dw r d1,vs=v0::ws/\Rep K H d0 v0 aS/\aS.Nodup/\aH K H ds ws dw/\(∀b∈dw,b∉aS)/\G d0 ds=some (r,d1)/\
 ∀H' v bC f6,bf H H'->(∀b o,b∉aS->H b=some o->H' b=some o)->Rep K H' d1 v0 bC->bC.Nodup->(∀b∈bC,b∈aS\/H b=none)->Rep K H' r v f6->f6.Nodup->(∀b∈f6,(b∈aS\/H b=none)/\b∉bC)->Q v H'
section
variable{K:Fr}
def ad9:∀vs H Q E,eU K G vs H Q E->Bj true K G vs H Q E:=by
 rintro _ _ _ _ ⟨a,ws,d0,aS,ds,dw,r,d1,h1,h2,h3,h4,h5,h6,q⟩
 apply#[.ref a,ws,d0,aS,ds,dw,r,d1,h1,h2,h3,h4,h5,h6,λH' v bC f6 a1 a2 a3 a4 a5 a6 _ _ e=>q H' v bC a1 a2 a3 a4 a5 (by rw[<- e rfl];apply a6)]
def adq:∀vs H Q E,rJ K G vs H Q E->Bj false K G vs H Q E:=by
 rintro _ _ _ _ ⟨v0,ws,d0,aS,ds,dw,r,d1,h1,h2,h3,h4,h5,h6,q⟩
 apply#[v0,ws,d0,aS,ds,dw,r,d1,h1,h2,h3,h4,h5,h6,λH' v bC f6 a1 a2 a3 a4 a5 a6 a7 a8 _=>q H' v bC f6 a1 a2 a3 a4 a5 a6 a7 a8]
def aey{st:Stmt}(F:jj K x qual st f fd)(S:nC N ps (di st))(h0:N[0]? = some x0)
  (hb:∀(aZ) (A) (outer) (s) (H) (E),bR k (A.deeper (envOfC qual (di st) s.heap.objs.size f aZ))->Bg im ((ir dR P w K mg base N qual (di st) f aZ A outer s H E).gJ.nH [x0]) (iH st) b) :
  bS P w K mg base dR (k+1) f fd ps (Bj im K (runM ps.length N.length b)):=by
 have uM:∀{d0} {ds} {r},runM ps.length N.length b d0 ds=some r->ds.length+1=ps.length:=λ{d0 ds r} e=>by
  unfold runM at e
  split at e
  .assumption
  .cases e
 refine F.ok S (λvs H Q E h=>?_) λaZ A outer s H vs Q E hr h=>?_<;>let#[v0,ws,d0,aS,ds,dw,r,d1,e0,r0,nd0,rs,dj,e,q]:=h
 .rw[e0,abZ,<- rs.length,uM e]
 .let#[t,pt,sd]:=hb aZ A outer s H E hr;refine#[t,pt.nH rfl,?_];have Xq:aH K H [d0] [v0] aS:=by have:=aH.cons r0 .nil;rwa [ack] at this
  let#[z,ok]:=Ok.mY Xq nd0 rs dj;rw[e0];have fin:∀{z} {Y} {U} {H'} {v} {f6},Ok K H aS z [] Y U H'->Y[0]? = some (some (d1,.own))->Kp ((ir dR P w K mg base N qual (di st) f aZ A outer s H E).gJ.nH [x0]) (start N (v0::ws)) U->Rep K H' r v f6->f6.Nodup->(∀b∈f6,(H b=none\/b∈aS)/\z b≠some 0)->(im=true->f6=[])->Q v H':=by
   intro z Y U H' v f6 bu h1 kp rr O_ Ih hi;let#[u,bC,hs,r1,zz]:=bu.sl 0 d1 .own h1;have hk:=kp 0 _ h0 (by
    show(x0==("self":Str)||(!([x0].contains ("self":Str))&&!(!([x0].contains x0))))=true
    by_cases h:x0=("self":Str)
    .rw[h];rfl
    .simp[ahc h])
   rw[hk] at hs;ext hs;have st:∀{c} {o},H c=some o->lR o=false->H' c=some o:=λ{c o} e' mo=>bu.en c _ e' λm=>by
    let#[o',w,zO]:=r0.fu c m;rw[e'] at w;ext w;rw[mo] at zO;ext zO
   apply q H' v bC f6 #[λc xs e'=>st e' rfl,λc o u e'=>st e' rfl,λc φ e'=>st e' rfl] (λc o n e'=>bu.en c o e' n) r1 zz.1 (λc m=>((bu.zd c 0 (zz.2 c m)).2).symm.imp id id) rr O_ (λc m=>#[(Ih c m).1.symm.imp id id,λm'=>(Ih c m).2 (zz.2 c m')]) hi
  have hl:=uM e;unfold runM at e;rw[if_pos hl] at e;cases ho:b (yS N.length d0 ds) with
  |none=>rw[ho] at e;ext e
  |some o=>
   rw[ho] at e;refine sd ok ho ?_;cases o with
   |rt p=>
    have hp:p=.tup [r,d1]:=by
     split at e<;>rename_i hh
     .cases e;ext hh;rfl
     .cases hh
     .cases e
    apply#[r,[d1],hp,λz Y U H' v f6 bu h1 kp rr nd fr=>fin bu (afh h1) kp rr nd λb m=>#[(fr b m).1,(fr b m).2 0 aah]]
   |nx Y'=>
    dsimp only at e
    split at e
    .rename_i dd h1;ext e;apply λz U H' bu kp=>fin bu h1 kp .aJ acm (λb m=>nomatch m) λ_=>rfl
    .cases e
   |bk _=>ext e
   |ct _=>ext e
   |er _ _ _=>ext e
end
def e_(f:Str)(d:D):List (Str×D)->List (Str×D)
 |[]=>[(f,d)]
 |(g,x)::r=>if g=f then(g,d)::r else(g,x)::e_ f d r
theorem N2:∀{es} {fs},es.map (·.1)=fs.map (·.1)->(e_ f d es).map (·.1)=(gj f v fs).map (·.1)
 |[],[],_=>rfl
 |[],_::_,k=>by simp at k
 |_::_,[],k=>by simp at k
 |(x,d0)::es,(y,v0)::fs,k=>by
  simp only[aar,ahr] at k;let#[rfl,k]:=k;unfold e_ gj
  by_cases hx:x=f
  .rw[if_pos hx,if_pos hx,aar,aar,k]
  .rw[aa0 hx,aa0 hx,aar,aar,N2 k]
theorem Vp:∀{es},es.lookup f=some d0->(e_ f d es).map (·.1)=es.map (·.1)
 |[],e=>by ext e
 |(x,d1)::es,e=>by
  unfold e_
  by_cases hx:x=f
  .rw[if_pos hx];rfl
  .have hb:=ae0.mpr λq=>hx q.symm
   simp only[List.lookup,hb] at e;rw[aa0 hx,aar,Vp e];rfl
section
variable{K:Fr}
def aH.gj(rd:Rep K H d v fd):∀{es} {fs} {g},es.map (·.1)=fs.map (·.1)->aH K H (es.map (·.2)) (fs.map (·.2)) g->
  ∃g',aH K H ((e_ f d es).map (·.2)) ((L2.gj f v fs).map (·.2)) g'/\(∀a∈g',a∈g\/a∈fd)/\(g.Nodup->fd.Nodup->(∀a∈fd,a∉g)->g'.Nodup)
 |[],[],_,_,r=>by
  ext r;apply#[fd++[],.cons rd .nil,λa m=>.inr (by simpa using m),λ_ n _=>by simpa using n]
 |[],_::_,_,k,_=>by simp at k
 |_::_,[],_,k,_=>by simp at k
 |(x,d0)::es,(y,v0)::fs,_,k,r=>by
  simp only[aar,ahr] at k;let#[rfl,k]:=k;cases r with
  | @cons _ _ _ _ f1 f2 r1 r2=>
   unfold e_ L2.gj
   by_cases hx:x=f
   .rw[if_pos hx,if_pos hx];refine#[fd++f2,.cons rd r2,λa m=>(abc.mp m).elim .inr λm=>.inl (aaJ _ m),λn1 n2 n3=>?_];apply adv.mpr #[n2,(adv.mp n1).2.1,λa ma b mb e=>n3 a ma (aaJ _ (e ▸ mb))]
   .rw[aa0 hx,aa0 hx];let#[g',h1,h2,h3]:=aH.gj rd k r2;refine#[f1++g',.cons r1 h1,λa m=>?_,λn1 n2 n3=>?_]
    .rcases abc.mp m with m|m
     .exact .inl (aaL _ m)
     .exact(h2 a m).imp (aaJ _) id
    .let#[a1,a2,a3]:=adv.mp n1;refine adv.mpr #[a1,h3 a2 n2 (λa m q=>n3 a m (aaJ _ q)),λa ma b mb e=>?_];rcases h2 b mb with q|q
     .exact a3 a ma b q e
     .exact n3 b q (aaL _ (e ▸ ma))
def aH.place:∀{es}{fs:List (Str×V)} {g},es.map (·.1)=fs.map (·.1)->aH K H (es.map (·.2)) (fs.map (·.2)) g->g.Nodup->es.lookup f=some d0->
  ∃v gf,fs.lookup f=some v/\Rep K H d0 v gf/\gf.Nodup/\(∀a∈gf,a∈g)/\∀(H') (d1) (g1),bf H H'->(∀b o,b∉gf->H b=some o->H' b=some o)->Rep K H' d1 v g1->g1.Nodup->(∀b∈g1,b∈gf\/H b=none)->
   ∃g',aH K H' ((e_ f d1 es).map (·.2)) (fs.map (·.2)) g'/\g'.Nodup/\∀b∈g',b∈g\/H b=none
 |[],_,_,_,_,_,e=>by ext e
 |_::_,[],_,k,_,_,_=>by simp at k
 |(x,d)::es,(y,v0)::fs,_,k,r,nd,e=>by
  simp only[aar,ahr] at k;let#[rfl,k]:=k;cases r with
  | @cons _ _ _ _ f1 f2 r1 r2=>
   let#[a1,a2,a3]:=adv.mp nd
   by_cases hx:x=f
   .subst hx;have hb:=aiZ x;simp only[List.lookup,hb] at e ⊢;ext e;refine#[v0,f1,rfl,r1,a1,λa m=>aaL _ m,λH' d1 g1 im kp rr n1 fr=>?_];refine#[g1++f2,?_,adv.mpr #[n1,a2,λa ma b mb e=>?_],λb m=>?_]
    .unfold e_;rw[if_pos rfl];refine .cons rr (r2.frame (λa m=>?_) im);let#[o,w,_]:=r2.fu a m;rw[kp a o (λq=>a3 a q a m rfl) w,w]
    .subst e;let#[o,w,_]:=r2.fu a mb;rcases fr a ma with q|q
     .exact a3 a q a mb rfl
     .rw[q] at w;ext w
    .rcases abc.mp m with m|m
     .exact(fr b m).imp (aaL _) id
     .exact .inl (aaJ _ m)
   .have hb:=ae0.mpr λq=>hx q.symm
    simp only[List.lookup,hb] at e ⊢;let#[v,gf,h1,h2,h3,h4,h5]:=aH.place k r2 a2 e;refine#[v,gf,h1,h2,h3,λa m=>aaJ _ (h4 a m),λH' d1 g1 im kp rr n1 fr=>?_];let#[g',c1,c2,c3]:=h5 H' d1 g1 im kp rr n1 fr;refine#[f1++g',?_,adv.mpr #[a1,c2,λa ma b mb e=>?_],λb m=>?_]
    .unfold e_;rw[aa0 hx];refine .cons (r1.frame (λa m=>?_) im) c1;let#[o,w,_]:=r1.fu a m;rw[kp a o (λq=>a3 a m a (h4 a q) rfl) w,w]
    .subst e;let#[o,w,_]:=r1.fu a ma;rcases c3 a mb with q|q
     .exact a3 a ma a q rfl
     .rw[q] at w;ext w
    .rcases abc.mp m with m|m
     .exact .inl (aaL _ m)
     .exact(c3 b m).imp (aaJ _) id
def Rep.UQ(r:Rep K H (.ins cn es) v fp)(hn:PySem.W.nsIn K mainGlobals cn=some (some (.ref C)))(nd:fp.Nodup)(e:es.lookup f=some d0):
  ∃a dx fs u gf,(a∉gf/\dx∉gf)/\v=.ref a/\H a=some (.ins C dx fs)/\fs.lookup f=some u/\Rep K H d0 u gf/\gf.Nodup/\(∀b∈gf,b∈fp)/\∀(H':Hp) (d1) (g1),bf H H'->(∀b o,b∉gf->H b=some o->H' b=some o)->Rep K H' d1 u g1->g1.Nodup->(∀b∈g1,b∈gf\/H b=none)->
   ∃bC,Rep K H' (.ins cn (e_ f d1 es)) v bC/\bC.Nodup/\∀b∈bC,b∈fp\/H b=none:=by
 let#[a,dx,fs,g,rfl,rfl,h1,h2,h3,h4]:=r.kP hn;let#[n1,n2]:=abo.mp nd;let#[n3,n4]:=abo.mp n2;let#[u,gf,c1,c2,c3,c4,c5]:=aH.place h3 h4 n4 e;refine#[a,dx,fs,u,gf,#[λm=>n1 (aaf _ (c4 _ m)),λm=>n3 (c4 _ m)],rfl,h1,c1,c2,c3,λb m=>aaf _ (aaf _ (c4 b m)),λH' d1 g1 im kp rr m1 fr=>?_];let#[g',e1,e2,e3]:=c5 H' d1 g1 im kp rr m1 fr;have ka:=kp a _ (λq=>n1 (aaf _ (c4 a q))) h1;have kd:=kp dx _ (λq=>n3 (c4 dx q)) h2;refine#[a::dx::g',.ins hn ka kd (by rw[Vp e];apply h3) e1,?_,λb m=>?_]
 .refine abo.mpr #[λm=>?_,abo.mpr #[λm=>?_,e2]]
  .rcases aaA.mp m with q|m
   .exact n1 (by rw[q];apply aah)
   .rcases e3 a m with q|q
    .exact n1 (aaf _ q)
    .rw[h1] at q;ext q
  .rcases e3 dx m with q|q
   .exact n3 q
   .rw[h2] at q;ext q
 .rcases aaA.mp m with q|m
  .exact .inl (by rw[q];apply aah)
  .rcases aaA.mp m with q|m
   .exact .inl (by rw[q];apply aaf _ aah)
   .exact(e3 b m).imp (λq=>aaf _ (aaf _ q)) id
def Rep.place(r:Rep K H (.ins cn es) v fp)(hn:PySem.W.nsIn K mainGlobals cn=some (some (.ref C)))(nd:fp.Nodup)(e:es.lookup f=some d0):
  ∃a dx fs u gf,v=.ref a/\H a=some (.ins C dx fs)/\fs.lookup f=some u/\Rep K H d0 u gf/\gf.Nodup/\(∀b∈gf,b∈fp)/\∀(H') (d1) (g1),bf H H'->(∀b o,b∉gf->H b=some o->H' b=some o)->Rep K H' d1 u g1->g1.Nodup->(∀b∈g1,b∈gf\/H b=none)->
   ∃bC,Rep K H' (.ins cn (e_ f d1 es)) v bC/\bC.Nodup/\∀b∈bC,b∈fp\/H b=none:=
 let#[a,dx,fs,u,gf,_,h]:=r.UQ hn nd e;#[a,dx,fs,u,gf,h]
end
def Ok.fld{K:Fr}(hC:ClsAt K cn C)(ok:Ok K H0 S z aq Y U H)(h:Y[i]? = some (some (.ins cn es,.own)))
  (hs:U[i]? = some (some (.ref b))) (hb:H b=some (.ins C dx fs)) (s1:aN H H1) (r1:Rep K H1 d y fd) (nd:fd.Nodup) (fr:∀c∈fd,H c=none):∃z',Ok K H0 S z' aq (cz Y i (.ins cn (e_ f d es))) U (upd H1 b (.ins C dx (L2.gj f y fs))):=by
 let#[v,aS,c9,r0,zz]:=ok.sl i _ _ h;rw[hs] at c9;ext c9;let#[b',Ak,wB,g,e,rfl,h3,h4,h5,h6]:=(r0.same s1).kP hC.ns;ext e;rw[s1 _ _ hb] at h3;ext h3;have h3:=s1 _ _ hb;have BY:∀c∈fd,c∉b::dx::g:=λc m n=>by
  let#[#[o,w],_]:=ok.zd c i (zz.2 c n);rw[fr c m] at w;ext w
 have me:b∈b::dx::g:=aah;have md:dx∈b::dx::g:=aaf _ aah;have mg:∀{c},c∈g->c∈b::dx::g:=λm=>aaf _ (aaf _ m)
 let#[n1,n2]:=abo.mp zz.1;let#[n3,n4]:=abo.mp n2;have ne:∀{c},c∈g->c≠b:=λm q=>n1 (q ▸ aaf _ m)
 have im:bf H1 (upd H1 b (.ins C dx (L2.gj f y fs))):=bf.upd h3 rfl;let#[g',c1,c2,c3]:=aH.gj (r1.frame (λc m=>aP λq:c=b=>BY c m (q ▸ me)) im) h5 (h6.frame (λc m=>aP (ne m)) im);have out:∀{c},c∈g'->c∈g\/c∈fd:=λ{c} m=>c2 c m
 refine ok.put h hs zz ((bf.of s1).trans im) (λc o n e=>by rw[aP λq:c=b=>n (q ▸ me)];apply s1 c o e) (.ins hC.ns cg (by rw[aP λq:dx=b=>n1 (q ▸ aah)];apply h4) (N2 h5) c1) ?_ λc m=>?_
 .refine abo.mpr #[λm=>?_,abo.mpr #[λm=>(out m).elim n3 λq=>BY dx q md,c3 n4 nd λc m n=>BY c m (mg n)]];rcases aaA.mp m with q|m
  .exact n1 (q ▸ aah)
  .exact(out m).elim (λq=>n1 (aaf _ q)) λq=>BY b q me
 .rcases aaA.mp m with q|m
  .exact .inl (q ▸ me)
  .rcases aaA.mp m with q|m
   .exact .inl (q ▸ md)
   .exact(out m).imp mg (fr c)
def yZ(i:Nat)(cn f:Str)(fv:EF):SF:=λY=>match fv Y,Y[i]? with
 |some (d,t),some (some (.ins c es,.own))=>if c=cn/\es.length<1000/\(kq t||aE d)=true then some (.nx (cz Y i (.ins c (e_ f d es)))) else none
 |_,_=>none
def gu(i:Nat)(hC:ClsAt X.K cn C)(na:jb X.K C f)(hv:FP X a fv)(va:VA X i x:=by walk_at "va")(hs:swapsWith a (some (.Attribute (.Name x p1) f pos')) pos.line X.env=pure false:=by rfl):fG X (.Assign [.Attribute (.Name x p1) f pos'] a pos) (yZ i cn f fv):=by
 let#[t,p,q]:=hv;exists 23,Zc va.pe p hs;unfold yZ at e
 split at e
 .rename_i d tg c es h1 h2
  by_cases hc:c=cn/\es.length<1000/\(kq tg||aE d)=true
  .rw[if_pos hc] at e;ext e;let#[rfl,hl,ho]:=hc;let#[v,aS,c9,r0,zz]:=ok.sl i _ _ h2;refine q ok h1 λH1 y fd s1 r1 g1=>#[v,c9,?_]
   let#[b,dx,fs,g,rfl,rfl,h3,h4,h5,h6]:=r0.kP hC.ns;have lf:fs.length<1000:=by have:=congrArg List.length h5;rw[List.length_map,List.length_map] at this;lia
   refine#[b,C,dx,fs,rfl,s1 _ _ h3,hC.cl,na,lf,?_];have g:fd.Nodup/\∀a∈fd,H a=none:=by
    rcases(aje _ _).mp ho with h|h
    .cases tg<;>first|exact g1|ext h
    .rw[r1.aE h];apply#[acm,λc m=>nomatch m]
   let#[z',bu]:=ok.fld hC h2 c9 h3 s1 r1 g.1 g.2;apply k z' U _ bu (.refl _ _)
  .rw[aa0 hc] at e;ext e
 .cases e
def F5:D->D->Option D
 |.int i,.int j=>some (.int (if j > i then j else i))
 |_,_=>none
def Wr(hc:X.calm=true)(hm:X.mg "max"=none)(ha:FP X a fa)(hb:FP X b fb)(hg:Gl X "max":=by rfl)(hs:starEach [a,b] X.env=[(false,eval a X.env),(false,eval b X.env)]:=by rfl)(cV:starEach [b] X.env=[(false,eval b X.env)]:=by rfl)(hpl:(backTo pos (starEach [b] X.env)).any (·.1)=false:=by rfl):
  FP X (.Call (.Name "max" p) [a,b] [] pos) (e2 F5 fa fb):=by
 let#[ta,pa,sa]:=ha;let#[tb,pb,sb]:=hb;exists 21,sD (abS hc) hg hm boot_max (dX pa (dX pb fT cV) (by rw[hs,cV])) (he:=by rw[hs,cV]) (hpl:=hpl);let#[d1,t1,d2,t2,g1,g2,g3,rfl]:=pH e;refine sa ok g1 λH1 x f1 s1 r1 _=>?_
 refine sb (ok.same s1) g2 λH2 y f2 s2 r2 _=>?_
 unfold F5 at g3
 split at g3
 .cases g3;apply#[_,_,by rw[r1.i_.1,r2.i_.1],k H2 _ [] (s1.trans s2) (.int _) .nil]
 .cases g3
def CI:D->Option D
 |.int i=>some (.int (-i))
 |_=>none
def Nc(ha:FP X a fa):FP X (.UnaryOp .USub a pos) (e1 CI fa):=by
 let#[t,pa,q]:=ha;exists 21,agr Wh pa;let#[d1,t1,g1,g2,rfl]:=pO e;refine q ok g1 λH1 x f1 s1 r1 _=>?_
 ext r1<;>ext g2
 apply#[_,rfl,k H1 _ [] s1 (.int _) .nil]
def ac1(hm:X.mg x=some (.int n tk))(hg:GD X x:=by apply#[rfl,by decide]):FP X (.Name x pos) (eC (.int n)):=
 #[_,Nt hg.1 hm (v:=.int n) #[_,rfl] hg.2,@λ_ _ _ _ _ _ H _ _ _ _ e q=>by ext e;apply q H _ _ (aN.refl H) (.int n) .nil]
def Fz(o o':D->D->Option D)(fa fb fc:EF):EF:=λY=>match fa Y,fb Y with
 |some (d1,_),some (d2,_)=>match o d1 d2 with
  |some (.bl true)=>match fc Y with
   |some (d3,_)=>(o' d2 d3).map λd=>(d,.own)
   |none=>none
  |some (.bl false)=>some (.bl false,.own)
  |_=>none
 |_,_=>none
def ahP(ho:eB X (compareOp op) r)(mT:eB X (compareOp A0) r')(dd:g9 X.K r o)(pN:g9 X.K r' o')(ha:FP X a fa)(hb:FP X b fb)(hc:FP X c fc)(hm:lastMarks [op,A0] [b,c]=false:=by with_unfolding_all rfl):
  FP X (.Compare a [op,A0] [b,c] pos) (Fz o o' fa fb fc):=by
 let#[ta,pa,sa]:=ha;let#[tb,pb,sb]:=hb;let#[tc,pc,sc]:=hc;exists 21,Zj ho mT pa pb pc hm;unfold Fz at e
 split at e
 .rename_i d1 t1 d2 t2 e1 e2;refine sa ok e1 λH1 x f1 s1 r1 _=>?_
  refine sb (ok.same s1) e2 λH2 y f2 s2 r2 _=>?_
  exists h,o d1 d2,w,e,0;refine dd H2 x y d1 d2 f1 f2 w _ (r1.same s2) r2 h λH3 u s3 r3=>?_
  rw[h] at e;ext w<;>try (ext e;done)
  rename_i b';ext r3;refine#[b',rfl,?_];cases b' with
  |false=>
   ext e;rw[aa0 aaH];apply k H3 _ [] ((s1.trans s2).trans s3) (.bl false) .nil
  |true=>
   rw[if_pos rfl];dsimp only at e;exists h3,fc Y,w3,e,0;let#[d3,t3]:=w3;rw[h3] at e;dsimp only at e;cases h4:o' d2 d3 with
   |none=>rw[h4] at e;ext e
   |some d4=>
    rw[h4] at e;ext e;refine sc (((ok.same s1).same s2).same s3) h3 λH4 w' f4 s4 r4 _=>?_
    apply pN H4 y w' d2 d3 f2 f4 d Q ((r2.same s3).same s4) r4 h4 λH5 v5 s5 r5=>k H5 v5 [] ((((s1.trans s2).trans s3).trans s4).trans s5) r5 .nil
 .cases e
def aiq(ha:FP X a fa)(hb:FP X b fb)(hc:FP X c fc)(hm:lastMarks [.LtE,.LtE] [b,c]=false:=by with_unfolding_all rfl):FP X (.Compare a [.LtE,.LtE] [b,c] pos) (Fz oLe oLe fa fb fc):=ahP GQ GQ tM tM ha hb hc hm
def lO(neg:Bool):D->D->Option D:=λkd dd=>match dd with
 |.b_ es=>(iU kd).map λk=>.bl (if neg=true then !(bB es k).isSome else(bB es k).isSome)
 |_=>none
def Mp(neg:Bool):R2:=λy x H Q=>∃a o,x=.ref a/\jz H a y o/\Q (.bl (if neg=true then !o.isSome else o.isSome)) H
def LI{K:Fr}:g9 K (Mp neg) (lO neg):=by
 intro H y x d1 d2 f1 f2 d Q r1 r2 e k;cases r2 with
 | @b_ a ao es fp h hk rs=>
  have e:((iU d1).map λk=>D.bl (if neg=true then !(bB es k).isSome else(bB es k).isSome))=some d:=e;exists zu,iU d1,key,e;ext e;have ek:=r1.key zu;subst ek;have ev:(fM ao key).isSome=(bB es key).isSome:=by
   let#[h1,h2]:=qX hk rs;cases hv:bB es key with
   |none=>rw[h2 hv];rfl
   |some dv=>let#[v,f,lX,_]:=h1 dv hv;rw[lX];rfl
  refine#[a,fM ao key,rfl,jz.k h,?_];rw[ev];apply k H _ (aN.refl H) (.bl _)
 |_=>ext e
def aa6(hu:X.A.units+1<cLine)(ha:FP X a fa)(hb:FP X b fb)(hm:behindInMarks .In b=false:=by rfl):FP X (.Compare a [.In] [b] pos) (e2 (lO false) fa fb):=
 fp_2 LI ha hb λta tb pa pb=>NU (Q9 hu pa pb) hm
def zk(hu:X.A.units+1<cLine)(ha:FP X a fa)(hb:FP X b fb)(hm:behindInMarks .In b=false:=by rfl):FT X (.Compare a [.In] [b] pos) (tV (e2 (lO false) fa fb)):=by
 let#[ta,pa,sa]:=ha;let#[tb,pb,sb]:=hb;exists 22,ah2 (t:=r_ (Mp false) ta tb) (Q9 hu pa pb) hm;let#[tg,e0]:=F0 e;let#[d1,t1,d2,t2,e1,iS,e3,rfl]:=pH e0;refine sa ok e1 λH1 x f1 s1 r1 _=>?_
 refine sb (ok.same s1) iS λH2 y f2 s2 r2 _=>?_
 refine LI H2 x y d1 d2 f1 f2 _ _ (r1.same s2) r2 e3 λH3 v s3 r3=>?_
 ext r3;apply#[c,rfl,k H3 ((s1.trans s2).trans s3)]
def DP(i:Nat)(cn f:Str)(fv:EF):SF:=λY=>match fv Y,Y[i]? with
 | some (d,_),some (some (.ins c es,.own))=>if c=cn then(match es.lookup f with
  |some (.lst ds)=>if(aE d&&aQ ds&&decide (ds.length<sizeLine))=true then some (.nx (cz Y i (.ins c (e_ f (.lst (ds++[d])) es)))) else none
  |_=>none) else none
 |_,_=>none
def Cy(i:Nat)(hC:ClsAt X.K cn C)(na:jb X.K C f)(hv:FP X a fv)(va:VA X i x:=by walk_at "va")(hs:starEach [a] X.env=[(false,eval a X.env)]:=by rfl)
  (hb:attributeBase (.Name x p) f X.env (eval (.Name x p) X.env)=eval (.Name x p) X.env:=by rfl)
  (jN:attributeBase (.Attribute (.Name x p) f p1) "append" X.env (eval (.Attribute (.Name x p) f p1) X.env)=eval (.Attribute (.Name x p) f p1) X.env:=by rfl)
  (jM:((backTo p3 (starEach [a] X.env)).all (λx=>!x.1)&&(backToKw p3 (keywordEach [] X.env)).all (λx=>x.1.isSome)&&decide ([a].length+([]:List Keyword).length+(if([]:List Keyword).isEmpty then 0 else 1)<30))=true:=by rfl)
  (jR:(p2.endLine==p3.line)=true:=by rfl) (jo:swapsWith (.Call (.Attribute (.Attribute (.Name x p) f p1) "append" p2) [a] [] p3) none pos.line X.env=pure false:=by rfl) :
  fG X (.Expr (.Call (.Attribute (.Attribute (.Name x p) f p1) "append" p2) [a] [] p3) pos) (DP i cn f fv):=by
 let#[tv,kU,sv]:=hv;exists 25,xQ (um PySem.F.plainAttrs_list PySem.F.slot_list_append PySem.F.type_list_append BR (oY va.pe hb) (dX kU fT hs) jN jM jR hs rfl) jo;unfold DP at e
 split at e
 .rename_i d td c es g1 g2
  by_cases hc:c=cn
  .subst hc;rw[if_pos rfl] at e
   split at e
   .rename_i ds hl;let#[hc,e]:=ci e;ext e;let#[c1,c3]:=(aav _ _).mp hc;let#[c1,c2]:=(aav _ _).mp c1;let#[xv,fp,c9,r,zz]:=ok.sl i _ _ g2;refine#[xv,c9,?_];let#[b0,dx,fs,u,gf,rfl,h1,h2,h3,h4,h5,h6]:=r.place hC.ns zz.1 hl;refine#[b0,C,dx,fs,u,rfl,h1,hC.cl,na,h2,?_];let#[l,xs,f0,rfl,hq,_,_]:=h3.fq;refine#[.inl #[rfl,_,hq],?_];refine sv ok g1 λH1 v fd s1 rv gv=>?_
    have hn:=rv.aE c1;subst hn;generalize hw:(V.ref l)=w at h3 h6;cases h3 with
    | @lst a' ys _ f' h rs=>
     ext hw;have hn:=rs.aE c2;subst hn;have xV:=s1 _ _ h;refine#[_,ys,v,rfl,rfl,xV,by rw[<- rs.length];apply aau c3,?_];have im:bf H1 (upd H1 l (.lst (ys++[v]))):=bf.upd xV rfl;let#[bC,k1,k2,k3]:=h6 (upd H1 l (.lst (ys++[v]))) (.lst (ds++[d])) [l] ((bf.of s1).trans im) (λc o n e=>by rw[aP λq=>n (by rw[q];apply aah)];apply s1 c o e)
      (.lst cg (aH.append ((rs.same s1).frame (λa m=>nomatch m) im) (aH.cons (rv.frame (λa m=>nomatch m) im) .nil))) h4 (λc m=>.inl m)
     let#[z',bu]:=ok.put g2 c9 zz ((bf.of s1).trans im) (λc o n e=>by rw[aP λq=>n (by rw[q];apply h5 l aah)];apply s1 c o e) k1 k2 k3;apply q z' U _ bu (.refl _ _)
   .cases e
  .rw[aa0 hc] at e;ext e
 .cases e
end L2.Ev
namespace L2
open PySem PySem.Spec PyProof.Rows
def abk:V->List V->Hp->VK->Prop:=λx vs H Q=>∃(l:Addr) (ns:List Int) (n:Int),x=.ref l/\vs=[.int n]/\H l=some (.lst (ns.map V.int))/\n∈ns/\Q .aJ (upd H l (.lst ((ns.erase n).map V.int)))
def isI(n:Int):Value->Bool
 |.int a _=>a==n
 |_=>false
def Lp{ns:List Int}(r:aW (ns.map V.int) us)(h:m<us.length)(h2:m<ns.length):∃t,us[m]=.int ns[m] t:=by
 let#[u,hu,ru]:=r.get (by rw[abV,aa8 h2];rfl);rw[aa8 h] at hu;let#[t,rt]:=ru;apply#[t,by rw[<- rt];apply abH hu]
theorem Mm:∀{ns:List Int} {n} {m} (h:m<ns.idxOf n) (h2),ns[m]≠n
 |[],_,_,_,h2=>absurd h2 (Nat.not_lt_zero _)
 |a::ns,n,m,h,h2=>by
  rw[List.idxOf_cons] at h
  by_cases ha:(a==n)=true
  .rw[ha] at h;apply absurd h (Nat.not_lt_zero _)
  .have ha:(a==n)=false:=by simpa using ha
   rw[ha] at h;cases m with
   |zero=>apply ae0.mp ha
   |succ m=>apply Mm (Nat.lt_of_succ_lt_succ h) (Nat.lt_of_succ_lt_succ h2)
def ab1{l:List α}:(l.map f).eraseIdx k=(l.eraseIdx k).map f:=by
 rw[List.eraseIdx_eq_take_drop_succ,List.eraseIdx_eq_take_drop_succ,adS,List.map_take,List.map_drop]
def abU:LK X "list.remove" abk:=by
 intro af s U H x vs v us Q I rx rv h;let#[l,ns,n,rfl,rfl,hH,hn,q]:=h;ext rx;let#[u,rfl,ru]:=rv.one;let#[t,rfl]:=ru;let#[z,ay,nn,r,hl,e]:=I.wU hH;have hi:ns.idxOf n<ns.length:=List.idxOf_lt_length_of_mem hn;rw[List.length_map] at hl z;have hj:ns.idxOf n<ay.toArray.size:=by rw[abF];lia
 refine call_meets F.slot_list_remove #[_,e,rfl] F.entry_list_remove (F.args_list_remove_2 _ _)
  (MeetsSeq.list_remove l ay.toArray nn (.int n t) (isI n) (λy my=>?_) (ns.idxOf n) hj ?_ (λm hm h2=>?_) (by rw[abF];lia)) #[e,?_]
 .let#[m,hm,em]:=Array.mem_iff_getElem.mp my;rw[abF] at hm;rw[List.getElem_toArray] at em;let#[t',et]:=Lp r hm (by lia);rw[<- em,et];apply MeetsSeq.EqGives.int _ _ _ _
 .rw[List.getElem_toArray];let#[t',et]:=Lp r (by lia) hi;rw[et];rw[List.getElem_idxOf hi];apply aiZ n
 .rw[List.getElem_toArray];rw[abF] at hm;let#[t',et]:=Lp r hm (by lia);rw[et];apply ae0.mpr (Mm h2 (by lia))
 .refine#[.aJ,_,I.Ly (its':=ay.eraseIdx (ns.idxOf n)) hH e ?_ ?_ ?_,rfl,q]
  .show ay.toArray.eraseIdxIfInBounds _=(ay.eraseIdx _).toArray;rw[List.eraseIdxIfInBounds_toArray]
  .rw[List.erase_eq_eraseIdx_of_idxOf rfl,<- ab1];apply r.eraseIdx _
  .rw[List.length_map];have:=List.length_erase_le (a:=n) (l:=ns)
   lia
end L2
namespace L2.Ev
open PySem PySem.Spec PyProof.Rows
def Ct(env:Env):Str×NameKind->Str×NameKind:=λ(n,k)=>if(k==NameKind.free&&env.scope.kind == .function&&env.kindOf n==some .cell) then(n,NameKind.cell) else(n,k)
theorem UX:∀{names:List (Str×NameKind)} {x},(names.lookup x=some .cell\/names.lookup x=some .free)->(names.map (Ct env)).lookup x=some .cell\/(names.map (Ct env)).lookup x=some .free
 |[],_,h=>by simp at h
 |(n,k)::r,x,h=>by
  rw[aar];have e:Ct env (n,k)=(n,.cell)\/Ct env (n,k)=(n,k):=by
   show(if(k==NameKind.free&&env.scope.kind == .function&&env.kindOf n==some .cell)=true then(n,NameKind.cell) else(n,k))=_\/(if(k==NameKind.free&&env.scope.kind == .function&&env.kindOf n==some .cell)=true then(n,NameKind.cell) else(n,k))=_
   split
   .exact .inl rfl
   .exact .inr rfl
  cases hx:x==n with
  |true=>
   simp only[afj,hx] at h;rcases e with e|e<;>rw[e]<;>simp only[afj,hx]
   .exact .inl trivial
   .exact h
  |false=>
   simp only[afj,hx] at h;have ih:=UX (env:=env) h;rcases e with e|e<;>rw[e]<;>simp only[afj,hx]<;>apply ih
def X5(h:AG M0 Qf sc M js=true):mK (fB X M0 Qf s3 H3 fp) M js sc:=by
 unfold AG at h;let#[h,a6]:=(aav _ _).mp h;let#[h,a5]:=(aav _ _).mp h;let#[h,a4]:=(aav _ _).mp h;let#[h,a3]:=(aav _ _).mp h;let#[a1,a2]:=(aav _ _).mp h;refine#[?_,λy hy=>?_,λy hy hl=>?_,a4,λx hx=>?_,aau a6]
 .cases hk:sc.kind<;>rw[hk] at a1<;>first|rfl|exact absurd a1 (by decide)
 .have:=adR.mp a2 y hy;intro z;rw[z] at this;apply absurd this (by decide)
 .have:=adR.mp a3 y hy;rw[hl] at this;have this:=this;cases q:sc.names.lookup y.1 with
  |none=>rw[q] at this;apply absurd this (by decide)
  |some k=>rw[q] at this;ext k<;>first|rfl|exact absurd this (by decide)
 .have:=adR.mp a5 x hx;refine UX ?_;cases q:Qf.names.lookup x with
  |none=>rw[q] at this;apply absurd this (by decide)
  |some k=>rw[q] at this;ext k<;>first|exact .inl rfl|exact .inr rfl|exact absurd this (by decide)
def zS(i:Nat)(fv:EF):SF:=λY=>match fv Y,Y[i]? with
 |some (.int n,_),some (some (.lst ds,.own))=>match fN ds with
  |some ns=>if n∈ns then some (.nx (cz Y i (.lst ((ns.erase n).map D.int)))) else none
  |none=>none
 |_,_=>none
theorem Q3:∀{ds} {ns},fN ds=some ns->ds=ns.map D.int
 |[],_,e=>by ext e;rfl
 |d::ds,ns,e=>by
  ext d<;>try (ext e;done)
  rename_i i;unfold fN at e;exists h,fN ds,r,e;ext e;rw[Q3 h];rfl
def X3(i:Nat)(hv:FP X a fv)(va:VA X i x:=by walk_at "va")(hs:starEach [a] X.env=[(false,eval a X.env)]:=by rfl)
  (jN:attributeBase (.Name x p1) "remove" X.env (eval (.Name x p1) X.env)=eval (.Name x p1) X.env:=by rfl)
  (jM:((backTo p3 (starEach [a] X.env)).all (λx=>!x.1)&&(backToKw p3 (keywordEach [] X.env)).all (λx=>x.1.isSome)&&decide ([a].length+([]:List Keyword).length+(if([]:List Keyword).isEmpty then 0 else 1)<30))=true:=by rfl)
  (jR:(p2.endLine==p3.line)=true:=by rfl) (jo:swapsWith (.Call (.Attribute (.Name x p1) "remove" p2) [a] [] p3) none pos.line X.env=pure false:=by rfl) :
  fG X (.Expr (.Call (.Attribute (.Name x p1) "remove" p2) [a] [] p3) pos) (zS i fv):=by
 let#[tv,kU,sv]:=hv;exists 25,xQ (um PySem.F.plainAttrs_list PySem.F.slot_list_remove PySem.F.type_list_remove abU va.pe (dX kU fT hs) jN jM jR hs rfl) jo;unfold zS at e
 split at e
 .rename_i n td ds g1 g2;exists hI,fN ds,ns,e;dsimp only at e;let#[hc,e]:=ci e;ext e;have:=Q3 hI;subst this;let#[xv,fp,c9,r,zz]:=ok.sl i _ _ g2;refine#[xv,c9,?_];let#[l,xs,f,rfl,hq,_,_]:=r.fq;refine#[.inl #[rfl,_,hq],?_];refine sv ok g1 λH1 v fd s1 rv gv=>?_
  ext rv;have r':=r.same s1;have cG:=ok.same s1;generalize hw:(V.ref l)=w at r' c9;cases r' with
  | @lst a' ys _ f' h rs=>
   ext hw;have ey:=uQ rs hI;subst ey;have hn:=rs.aE (dY ns);subst hn;refine#[_,ns,n,rfl,rfl,h,hc,?_];have im:bf H1 (upd H1 l (.lst ((ns.erase n).map V.int))):=bf.upd h rfl;apply q z U _ (Ok.HC cG g2 c9 zz aah h rfl (.lst cg (yh _))) (.refl _ _)
 .cases e
def xg(fa fh:EF):EF:=λY=>match fa Y,fh Y with
 |some (.lst ds,_),some (.int i,_)=>if aQ ds=true then some (.lst (cutD ds none (some i)),.own) else none
 |_,_=>none
def Vh(ha:FP X a fa)(hh:FP X b fh):FP X (.Subscript a (.Slice none (some b) none p2) pos) (xg fa fh):=by
 let#[t,p,q]:=ha;let#[th,ph,qh]:=hh;exists 21,Jj Mc p E8 (Kv ph);unfold xg at e
 split at e
 .rename_i ds t1 i t2 e1 e2;let#[hi,e]:=ci e;ext e;refine q ok e1 λH1 x f1 s1 r1 _=>?_
  refine qh (ok.same s1) e2 λH2 y f2 s2 r2 _=>?_
  ext r2;refine#[i,rfl,?_];let#[w,xs,f,rfl,hq,rs,_]:=(r1.same s2).fq;have hn:=rs.aE hi;subst hn;refine#[w,xs,rfl,hq,λp hp=>?_];have s3:aN H2 (upd H2 p (.lst (lF xs none (some i)))):=λb o e=>by rw[aP (dh e hp)];apply e
  have rr:aH X.K H2 (cutD ds none (some i)) (lF xs none (some i)) []:=by
   unfold cutD lF;rw[rs.length];apply aH.Bt _ (aH.Dp _ rs)
  refine k _ _ [p] ((s1.trans s2).trans s3) (.lst cg (rr.same s3)) #[abo.mpr #[(λm=>by ext m),acm],λa m=>?_];cases aaD.mp m;apply s1.free (s2.free hp)
 .cases e
def Y5(h:l.Nodup):(eK l).Pairwise (· < ·):=by
 have n:=(qN l).nodup_iff.mpr h;apply(List.Pairwise.and (Cw l) n).imp λ⟨a,b⟩=>Int.lt_iff_le_and_ne.mpr #[a,b]
def aN.new{H:Hp}{l:Addr}{o:HO}(h:H l=none):aN H (upd H l o):=λb o' e=>by rw[aP (dh e h)];apply e
end L2.Ev
namespace L2
open PySem PySem.Spec PyProof.Rows
def yw(K:Fr)(C D:Addr):Prop:=∃N bm i N' uw i',t_ K C N bm i/\t_ K D N' uw i'/\uw.contains (.type "BaseException")=true/\(Value.ref C::bm).contains (.ref D)=true
def ZH(L:gR X af U H a (.ref C) aV s)(cat:yw X.K C D)(hg:Gl X x)(hm:X.mg x=some (.ref D))(k:R (.ok .brk) s)(gX:(x==("__debug__":Str))=false:=by decide):
  codeAny (model X.prog X.w) (X.A.mark (some (.ref a))) (.handlers (.ref a) [.ExceptHandler (some (.Name x px)) none [] pos] X.env) R s:=by
 let#[_,_,_,_,_,_,#[hC],#[hD],hb,hc]:=cat;have I:=L.known.choose_spec.2.qH a L.known.choose_spec.1.hq;have KI:=L.inv.dJ;let#[oe,vs,a0,T,oT,ts,h1,h2,_]:=L.ob;refine codeAny_handlers_test (sY I hg hm ?_ gX);let#[hh,g,d,t,os]:=s;refine Zu (KI _ _ hC) (KI _ _ hD) h1 h2 hb ?_;rw[hc];apply k
def ae1(L:gR X af U H a (.ref C) aV s)(hc:X.calm=true)(hx:X.ex=[])(dM:X.stack=X.env::X.outer)(hf:X.env.frame=some X.env.locals)(cat:yw X.K C D)(hg:Gl X x)(hm:X.mg x=some (.ref D))
  (h:∀s5 H5,xq H H5 a (.ref C) aV->Inv (X.qH a) af U H5 s5->wpAny (model X.prog X.w) (X.A.mark (some (.ref a))) (execs (b0::Mb) X.env) (SP (X.qH a) af W) (λ_ _=>False) s5)
  (gX:(x==("__debug__":Str))=false:=by decide) :
  wpAny (model X.prog X.w) X.A (noteFrame (.ref a) X.env) (λ_ s2=>wpAny (model X.prog X.w) X.A (setFlight (.ref a) none) (λ_ s3=>wpAny (model X.prog X.w) X.A (handleBy (.ref a) X.env [.ExceptHandler (some (.Name x px)) none (b0::Mb) pos]) (SP X af W) X.xe s3) X.xe s2) X.xe s:=by
 refine L.aeY hx dM hf λs3 L3=>wpAny_handleBy_cons (ZH L3 cat hg hm ?_ gX) (λz=>nomatch z)
 refine codeAny_handlers_suite (L3.again hx λs4 L4=>?_);let#[H5,kn,I4]:=L4.known;refine aeG (h s4 H5 kn (I4.qH a kn.hq)) (λf s6 q=>?_) λ_ _ z=>False.elim z
 cases f with
 |next=>let#[qK,H6,I6,q6]:=q;apply#[_,H6,L4.inv.BB hc I6,q6]
 |brk=>let#[qK,H6,I6,q6]:=q;apply#[_,H6,L4.inv.BB hc I6,q6]
 |cont=>let#[qK,H6,I6,q6]:=q;apply#[_,H6,L4.inv.BB hc I6,q6]
 |ret u=>let#[v,qK,H6,I6,r6,q6]:=q;apply#[v,_,H6,L4.inv.BB hc I6,r6,q6]
open PySem PySem.Spec PySem.W PySem.Calls PyProof.Rows Builtin Builtin.ObjectAttr Builtin.Getset_descriptor
structure Lv(K:Frag)(C:Addr):Prop where
 ga:findIn K (.ref C) "__getattribute__"=some (some (.builtin "BaseException.__getattribute__"))
 gh:findIn K (.ref C) "__getattr__"=some none
 at_:findIn K (.ref C) "__class__"=some (some (.builtin "object.__class__"))
 get:specialIn K (.builtin "object.__class__") "__get__"=some (some (.builtin "getset_descriptor.__get__"))
 tk:takesIn K (.builtin "object.__class__")=some true
 mo:mroIn K C (.type "object")=some true
 mb:mroIn K C (.type "BaseException")=some true
 cl:(clsIn K C).isSome=true
end L2
namespace L2.Ev
open PySem PySem.Spec PyProof.Rows
def wk(X:Cx)(st:Stmt):TS:=λW U H=>∀(af) (s),Inv X af U H s->wpAny (model X.prog X.w) X.A (exec st X.env) (SP X af W) X.xe s
def z5{st:Stmt}:PS X st (wk X st):=λaf s _ _ _ I h=>h af s I
def Bq(cn:Str)(g:AF):SF:=λY=>match g Y with
 |some _=>some (.er true (cn,none) Y)
 |none=>none
def vV(hc:X.calm=true)(cl:BG X.K C)(hn:PySem.W.nsIn X.K mainGlobals cn=some (some (.ref C)))(hm:X.mg x=some (.ref C))(ha:FA X (e::es) g)(hl:(e::es).length<=1000:=by decide)(hx:X.ex=[]:=by rfl)(hg:GD X x:=by apply#[rfl,by decide])
  (he:SE X e es gG:=by apply#[rfl,rfl]):fG X (.Raise (some (.Call (.Name x np) (e::es) [] gG)) none pos) (Bq cn g):=by
 let#[t,pa,hz,qa]:=ha;refine#[_,z5,@λH0 S z aq Y U H E o ok e0 k=>?_];unfold Bq at e0;cases h1:g Y with
 |none=>rw[h1] at e0;ext e0
 |some qs=>
  rw[h1] at e0;ext e0;let#[ES,th,kk]:=k;intro af s I;refine aaP hc hx th cl hg.1 hm pa hg.2 he.1 he.2 af s U H E I ?_;refine qa ok h1 λH1 vs fp s1 r1 _=>#[?_,kk z U H1 C (ok.same s1) (.refl _ _) hn]
  rw[<- r1.length,List.length_map,hz Y qs h1];apply agF (z8 hl)
inductive ER where
 |ok (d:D) (Y:aR)|er (cn:XN) (Y:aR)
def X6(X:Cx)(H0:Hp)(S:List Addr)(aq:List sE)(U:St)(Q:VK)(E:XK):ER->Prop
 |.ok d Y=>∀z H1 H' v fp,Ok X.K H0 S z aq Y U H1->aN H1 H'->Rep X.K H' d v fp->dQ z H1 .own fp->Q v H'
 |.er cn Y=>∀z H' C,Ok X.K H0 S z aq Y U H'->PySem.W.nsIn X.K mainGlobals cn.1=some (some (.ref C))->E (.ref C) cn.2 H'
abbrev XR:=aR->Option ER
def FE(X:Cx)(e:Expr)(f:XR):Prop:=∃t,PX X e t/\∀{H0} {S} {z} {aq} {Y} {U} {H} {Q} {E} {r},
 Ok X.K H0 S z aq Y U H->f Y=some r->X6 X H0 S aq U Q E r->t U H Q E
def FU:sN X (λ_ _ _ _=>False):=λ_ _ _ _ _ _ _ _ z=>z.elim
def So(i:Nat)(f:XR):SF:=λY=>match f Y with
 |some (.ok d Y')=>some (.nx (g_ Y' i d .own))
 |some (.er cn Y')=>some (.er false cn Y')
 |none=>none
def tu(f:XR):SF:=λY=>match f Y with
 |some (.ok d Y')=>some (.nx Y')
 |some (.er cn Y')=>some (.er false cn Y')
 |none=>none
def zP(f:XR):SF:=λY=>match f Y with
 |some (.ok d Y')=>some (.rt d)
 |some (.er cn Y')=>some (.er false cn Y')
 |none=>none
def aak(i:Nat)(he:FE X e f)(hN:X.N.Nodup)(hi:X.N[i]? = some x:=by rfl)(hx:Loc X.env.scope x:=by first|exact Or.inl rfl|exact Or.inr rfl)
  (hs:swapsWith e (some (.Name x pos')) pos.line X.env=pure false:=by rfl) (hf:X.fn x=true\/X.env.scope.names.lookup x=some .local:=by first|exact .inl rfl|exact .inr rfl) (oS:lG X x=false:=by rfl):fG X (.Assign [.Name x pos'] e pos) (So i f):=by
 let#[t,p,q]:=he;exists 23,z5;unfold So at e;cases h:f Y with
 |none=>rw[h] at e;ext e
 |some r=>
  rw[h] at e;intro af s I;cases r with
  |ok d aT=>
   ext e;refine TZ FU hN hi hx p hs hf af s U H E I ?_;apply q ok h λz1 H1 H2 v fp cG s1 r1 g1=>cG.stored s1 r1 g1 λz' bu=>k z' _ H2 bu (.set hi oS)
  |er cn aT=>
   ext e;let#[ES,th,kk]:=k;refine TZ th hN hi hx p hs hf af s U H E I ?_;apply q ok h λz1 H1 C cG hC=>kk z1 U H1 C cG (.refl _ _) hC
def Ey(he:FE X e f)(hs:swapsWith e none pos.line X.env=pure false:=by rfl):fG X (.Expr e pos) (tu f):=by
 let#[t,p,q]:=he;exists 23,z5;unfold tu at e;cases h:f Y with
 |none=>rw[h] at e;ext e
 |some r=>
  rw[h] at e;intro af s I;cases r with
  |ok d aT=>
   ext e;refine Oz FU p hs af s U H E I ?_;apply q ok h λz1 H1 H2 v fp cG s1 r1 g1=>k z1 U H2 (cG.same s1) (.refl _ _)
  |er cn aT=>
   ext e;let#[ES,th,kk]:=k;refine Oz th p hs af s U H E I ?_;apply q ok h λz1 H1 C cG hC=>kk z1 U H1 C cG (.refl _ _) hC
def Mh(he:FE X e f):fG X (.Return (some e) pos) (zP f):=by
 let#[t,p,q]:=he;exists 23,z5;unfold zP at e;cases h:f Y with
 |none=>rw[h] at e;ext e
 |some r=>
  rw[h] at e;intro af s I;cases r with
  |ok d aT=>
   ext e;refine QK FU p af s U H E I ?_;refine q ok h λz1 H1 H2 v fp cG s1 r1 g1=>k H2 v fp (λa o e n=>s1 _ _ (cG.en a o e n)) r1 g1.1 λa m=>?_
   cases h0:H0 a with
   |none=>apply .inl rfl
   |some o=>
    by_cases hs:a∈S
    .exact .inr hs
    .have w:=cG.en a o h0 hs;rw[g1.2 a m] at w;ext w
  |er cn aT=>
   ext e;let#[ES,th,kk]:=k;refine QK th p af s U H E I ?_;apply q ok h λz1 H1 C cG hC=>kk z1 U H1 C cG (.refl _ _) hC
def vK(sub:Str->Bool)(f g:SF):SF:=λY=>match f Y with
 | some (.er false cn Y')=>if sub cn.1=true then(match g Y' with
  |some (.er _ _ _)=>none
  |o=>o) else none
 |some (.er true _ _)=>none
 |o=>o
def abT(q:SP (X.kQ af R) [] E fl s):SP X af E fl s:=by
 cases fl with
 |next=>let#[aG,H',I,q]:=q;apply#[aG,H',I.qo,q]
 |brk=>let#[aG,H',I,q]:=q;apply#[aG,H',I.qo,q]
 |cont=>let#[aG,H',I,q]:=q;apply#[aG,H',I.qo,q]
 |ret u=>let#[v,aG,H',I,r,q]:=q;apply#[v,aG,H',I.qo,r,q]
def XA(hb:∀af R,FS (X.kQ af R) body f)(I:Inv X af U H s)(ok:Ok X.K H0 S z aq Y U H)(hf:f Y=some o1)
  (k:match o1 with
   |.er true _ _=>False
   |.er false cn Y'=>∀z' aG H' C a s',Ok X.K H0 S z' aq Y' aG H'->Kp X U aG->PySem.W.nsIn X.K mainGlobals cn.1=some (some (.ref C))->gR X af aG H' a (.ref C) cn.2 s'->
    wpAny (model X.prog X.w) X.A (noteFrame (.ref a) X.env) (λ_ s2=>wpAny (model X.prog X.w) X.A (setFlight (.ref a) none) (λ_ s3=>wpAny (model X.prog X.w) X.A (handleBy (.ref a) X.env [h0]) (SP X af E) X.xe s3) X.xe s2) X.xe s'
   |o=>nU X H0 S aq U E o) :
  wpAny (model X.prog X.w) X.A (exec (.Try body [h0] [] [] pos) X.env) (SP X af E) X.xe s:=by
 refine wpAny_Try_except ?_;let#[tb,pb,sb]:=hb af (λcls aV aG H'=>∀a s',gR X af aG H' a cls aV s'->
    wpAny (model X.prog X.w) X.A (noteFrame (.ref a) X.env) (λ_ s2=>wpAny (model X.prog X.w) X.A (setFlight (.ref a) none) (λ_ s3=>wpAny (model X.prog X.w) X.A (handleBy (.ref a) X.env [h0]) (SP X af E) X.xe s3) X.xe s2) X.xe s')
 have yR:tb E U H:=by
  refine sb ok hf ?_;cases o1 with
  |nx Y'=>apply k
  |rt d=>apply k
  |bk Y'=>apply k
  |ct Y'=>apply k
  |er raw cn Y'=>
   cases raw with
   |true=>apply False.elim k
   |false=>apply#[_,YC,λz' aG H' C bu kp hC a s' L=>k z' aG H' C a s' bu kp hC L]
 refine aeG (pb [] s U H E I.kQ yR) (λfl s1 q=>?_) (λev s1 q=>?_)
 .have q':=abT q;cases fl with
  |next=>apply ajM q'
  |brk=>apply q'
  |cont=>apply q'
  |ret u=>apply q'
 .let#[aG,H',a,cls,aV,rfl,L,r]:=q;apply r a s1 L
def Vi(hb:∀af R,FS (X.kQ af R) body f)(hs:∀a,FS (X.qH a) (b0::Mb) g)(agi:∀cn C,sub cn=true->PySem.W.nsIn X.K mainGlobals cn=some (some (.ref C))->yw X.K C Dc)(hm:X.mg x=some (.ref Dc))
  (hcm:X.calm=true:=by rfl) (hx:X.ex=[]:=by rfl) (dM:X.stack=X.env::X.outer:=by rfl) (o_:X.env.frame=some X.env.locals:=by rfl) (hg:GD X x:=by apply#[rfl,by decide]) :
  fG X (.Try body [.ExceptHandler (some (.Name x px)) none (b0::Mb) ajx] [] [] pos) (vK sub f g):=by
 exists 23,z5;intro af s I;unfold vK at e;cases hf:f Y with
 |none=>rw[hf] at e;ext e
 |some o1=>
  rw[hf] at e;refine XA hb I ok hf ?_;cases o1 with
  |nx Y'=>ext e;apply k
  |rt d=>ext e;apply k
  |bk Y'=>ext e;apply k
  |ct Y'=>ext e;apply k
  |er raw cn Y'=>
   cases raw with
   |true=>ext e
   |false=>
    dsimp only at e ⊢
    by_cases Cq:sub cn.1=true
    .rw[if_pos Cq] at e;intro z' aG H' C a s' bu kp hC L;refine ae1 L hcm hx dM o_ (agi cn.1 C Cq hC) hg.1 hm (λs5 H5 kn I5=>?_) hg.2;let#[ts,Zq,ss]:=hs a;refine Zq af s5 _ _ _ I5 ?_;have sm:aN H' H5:=λb o q=>kn.same L.fr q
     cases uF:g Y' with
     |none=>rw[uF] at e;ext e
     |some o2=>
      rw[uF] at e;refine ss (bu.same sm) uF ?_;cases o2 with
      |nx aY=>ext e;apply λz6 qK H6 ye b=>k z6 _ H6 ye (kp.trans b)
      |bk aY=>ext e;apply λz6 qK H6 ye b=>k z6 _ H6 ye (kp.trans b)
      |ct aY=>ext e;apply λz6 qK H6 ye b=>k z6 _ H6 ye (kp.trans b)
      |rt d=>ext e;apply k
      |er _ _ _=>ext e
    .rw[aa0 Cq] at e;ext e
inductive Rz where
 |ok (d:D)|er (cn:XN)
def jt(K:Fr)(F:List D->Option Rz):Sp:=λvs H Q E=>∃ds fp r,aH K H ds vs fp/\F ds=some r/\match r with
 |.ok d=>∀H' v gS,aN H H'->Rep K H' d v gS->gS.Nodup->(∀a∈gS,H a=none)->Q v H'
 |.er cn=>∀H' C,aN H H'->PySem.W.nsIn K mainGlobals cn.1=some (some (.ref C))->E (.ref C) cn.2 H'
def lW(n N:Nat)(b:SF):List D->Option Rz:=λds=>if ds.length=n then(match b (vZ N ds) with
 |some (.rt d)=>some (.ok d)
 |some (.nx _)=>some (.ok .aJ)
 |some (.er _ cn _)=>some (.er cn)
 |_=>none) else none
section
variable{K:Fr}
def YT{x qual:Str}{st:Stmt}{f:Addr}{fd:FuncData}{N ps:List Str}{k:Nat}{b:SF}(F:jj K x qual st f fd)(S:nC N ps (di st))(s_:ps.length<=N.length)
  (hb:∀(aZ) (A) (outer) (s) (H) (E),bR k (A.deeper (envOfC qual (di st) s.heap.objs.size f aZ))->FS (ir (f_ P w) P w K mg base N qual (di st) f aZ A outer s H E) (iH st) b) :
  bS P w K mg base (f_ P w) (k+1) f fd ps (jt K (lW ps.length N.length b)):=by
 have uM:∀{ds} {r},lW ps.length N.length b ds=some r->ds.length=ps.length:=λ{ds d} e=>by
  unfold lW at e
  by_cases h:ds.length=ps.length
  .exact h
  .rw[aa0 h] at e;ext e
 let#[oc,od,kV,doc,pm,an,aZ,ct,sP,rfl,lk,kR]:=F.ex;refine ND lk kR S (λvs H Q E #[ds,fp,r,rs,e,_]=>by rw[<- rs.length];apply uM e) λA outer s H vs Q E hr #[ds,fp,r,rs,e,q]=>?_
 let#[t,p,sd]:=hb aZ A outer s H E hr;refine#[t,p,?_];have hl:=uM e;let#[z,ok]:=Ok.mY .nil .nil rs λ_ _ m=>nomatch m
 unfold lW at e;rw[if_pos hl] at e;cases ho:b (vZ N.length ds) with
 |none=>rw[ho] at e;ext e
 |some o=>
  rw[ho] at e;refine sd ok ho ?_;cases o with
  |rt d'=>
   ext e;apply λH' v gS en r nd fr=>q H' v gS (λa o e=>en a o e (λm=>nomatch m)) r nd λa m=>(fr a m).resolve_right λm=>nomatch m
  |nx Y'=>
   ext e;apply λz' aG H' bu _=>q H' .aJ [] (λa o e=>bu.en a o e (λm=>nomatch m)) .aJ acm λa m=>nomatch m
  |bk _=>ext e
  |ct _=>ext e
  |er raw cn Y'=>
   ext e;cases raw with
   |true=>apply#[_,aeV,λz' aG H' C bu _ hC=>q H' C (λa o e=>bu.en a o e (λm=>nomatch m)) hC]
   |false=>apply#[_,Yu,λz' aG H' C bu _ hC=>q H' C (λa o e=>bu.en a o e (λm=>nomatch m)) hC]
end
inductive RM where
 |ok (r d:D)|er (cn:XN) (d:D)
abbrev MR:=D->List D->Option RM
def pI(K:Fr)(G:MR):Sp:=λvs H Q E=>∃a ws d0 aS ds dw r,vs=V.ref a::ws/\Rep K H d0 (.ref a) aS/\aS.Nodup/\aH K H ds ws dw/\(∀b∈dw,b∉aS)/\G d0 ds=some r/\match r with
 |.ok r d1=>∀H' v bC,bf H H'->(∀b o,b∉aS->H b=some o->H' b=some o)->Rep K H' d1 (.ref a) bC->bC.Nodup->(∀b∈bC,b∈aS\/H b=none)->Rep K H' r v []->Q v H'
 |.er cn d1=>∀H' C bC,bf H H'->(∀b o,b∉aS->H b=some o->H' b=some o)->Rep K H' d1 (.ref a) bC->bC.Nodup->(∀b∈bC,b∈aS\/H b=none)->PySem.W.nsIn K mainGlobals cn.1=some (some (.ref C))->E (.ref C) cn.2 H'
def Hj(F:List D->Option Rz)(g:AF):XR:=λY=>match g Y with
 |some ps=>match F (ps.map (·.1)) with
  |some (.ok d)=>some (.ok d Y)
  |some (.er cn)=>some (.er cn Y)
  |none=>none
 |none=>none
def sA(i:Nat)(cn m:Str)(G:MR)(g:AF):XR:=λY=>match Y[i]?,g Y with
 | some (some (.ins c es,.own)),some ps=>if c=cn/\es.lookup m=none/\apart i ps=true then(match G (.ins c es) (ps.map (·.1)) with
  |some (.ok r d1)=>some (.ok r (cz Y i d1))
  |some (.er en d1)=>some (.er en (cz Y i d1))
  |none=>none) else none
 |_,_=>none
def VQ(GG:bS X.prog X.w X.K X.mg X.base (f_ X.prog X.w) k f fd ps (jt X.K F))(hr:bR k X.A)(hm:X.mg x=some (.ref f))(hk:PySem.W.keepIn X.K (.ref f)=true)(hb:Binds X.K fd ps [])(ha:FA X.gJ (e::es) g)
  (hx:X.ex=[]:=by rfl) (hg:GD X x:=by apply#[rfl,by decide])
  (he:SE X e es pos:=by apply#[rfl,rfl]):FE X (.Call (.Name x p) (e::es) [] pos) (Hj F g):=by
 let#[t,pa,_,sa]:=ha;refine#[_,aej GG hr hx hg.1 hm hk hb .nil pa hg.2 he.1 he.2,@λH0 S z aq Y U H Q E r ok e0 q=>?_];unfold Hj at e0;cases h1:g Y with
 |none=>rw[h1] at e0;ext e0
 |some qs=>
  rw[h1] at e0;dsimp only at e0;cases h2:F (qs.map (·.1)) with
  |none=>rw[h2] at e0;ext e0
  |some r1=>
   rw[h2] at e0;refine sa ok h1 λH1 vs fp s1 r2 _=>?_
   rw[ack];cases r1 with
   |ok d=>
    ext e0;apply#[_,fp,_,r2,h2,λH2 v gS s2 r2 nd fr=>q z H1 H2 v gS (ok.same s1) s2 r2 #[nd,fr]]
   |er en=>
    ext e0;apply#[_,fp,_,r2,h2,λH2 C s2 hC=>q z H2 C ((ok.same s1).same s2) hC]
def S4(i:Nat)(hC:ClsAt X.K cn C)(hm:j_ X.K C m f)(GG:bS X.prog X.w X.K X.mg X.base (f_ X.prog X.w) k f fd ps (pI X.K G))(hr:bR k X.A)(hb:Binds X.K fd ps [])(ha:FA X.gJ (e::es) g)(hx:X.ex=[]:=by rfl)(va:VA X i x:=by walk_at "va")
  (dM:SE X e es pos:=by apply#[rfl,rfl])
  (ht:sR X (.Name x p1) m apos (e::es) pos pl:=by apply rfl):FE X (.Call (.Attribute (.Name x p1) m apos) (e::es) [] pos) (sA i cn m G g):=by
 let#[ta,pa,_,qa]:=ha;refine#[_,QB (JF va.N va.v va.d va.c) hC.cl hm GG hr hx hb .nil pa dM.1 dM.2 ht,@λH0 S z aq Y U H Q E r ok e0 kk=>?_];unfold sA at e0
 split at e0
 .rename_i c nv qs h1 h2
  by_cases hc:c=cn/\nv.lookup m=none/\apart i qs=true
  .rw[if_pos hc] at e0;let#[rfl,Et,lH]:=hc;cases h3:G (.ins c nv) (qs.map (·.1)) with
   |none=>rw[h3] at e0;ext e0
   |some w=>
    rw[h3] at e0;let#[v,aS,hs,r0,zz]:=ok.sl i _ _ h1;refine#[v,hs,?_];let#[b,dx,fs,gf,rfl,CA,h4,h5,h6,h7]:=r0.kP hC.ns;refine#[b,dx,fs,rfl,h4,qI h6 Et,?_];refine qa ok h2 λH2 vs jF s2 r2 g2=>?_
    rw[ack];have ou:=ok.same s2;cases w with
    |ok r1 d1=>
     ext e0;refine#[b,vs,_,aS,_,jF,_,rfl,r0.same s2,zz.1,r2,x6 ok lH g2 zz,h3,λH3 u bC im kp r1 nd fr rr=>?_];let#[z',iG]:=ou.put h1 hs zz im kp r1 nd fr;apply kk z' H3 H3 u [] iG (aN.refl H3) rr .nil
    |er en d1=>
     ext e0;refine#[b,vs,_,aS,_,jF,_,rfl,r0.same s2,zz.1,r2,x6 ok lH g2 zz,h3,λH3 C3 bC im kp r1 nd fr hn=>?_];let#[z',iG]:=ou.put h1 hs zz im kp r1 nd fr;apply kk z' H3 C3 iG hn
  .rw[aa0 hc] at e0;ext e0
 .cases e0
def ae5(K:Fr)(T:List (Str×Bool))(c:Value):Prop:=∀cn b C,T.lookup cn=some b->PySem.W.nsIn K mainGlobals cn=some (some (.ref C))->Lv K C/\PySem.W.kitOne K (.ref C) c=some b
def kY:List D->Option (List Str)
 |[]=>some []
 |.str x::r=>(kY r).map λm=>x::m
 |_::_=>none
theorem yd{K:Fr}:∀{ds} {xs} {fp} {ys},aH K H ds xs fp->kY ds=some ys->xs=ys.map V.str
 |_,_,_,_,.nil,e=>by ext e;rfl
 |_,_,_,ys,.cons (d:=d) h t,e=>by
  cases d with
  |str x=>
   unfold kY at e;cases q:kY _ with
   |none=>rw[q] at e;ext e
   |some m=>
    rw[q] at e;ext e;ext h;rw[yd t q];rfl
  |_=>ext e
theorem RG:∀ys:List Str,kY (ys.map D.str)=some ys
 |[]=>rfl
 |y::ys=>by
  show(kY (ys.map D.str)).map (λm=>y::m)=_;rw[RG ys];rfl
theorem Vc:∀{ys} {us},aW (ys.map V.str) us->StrsAre us ys
 |[],_,r=>by ext r;apply .nil
 |y::ys,_,r=>by
  cases r with
  |cons h t=>
   let#[tk,rfl]:=h;apply .cons y tk (Vc t)
def lK(k:Str)(ys:List Str):Nat:=ys.countP (· == k)
theorem count_eq(k:Str):∀ys:List Str,countIn (.str k) (ys.map PyData.str)=(lK k ys:Int)
 |[]=>rfl
 |y::ys=>by
  rw[aar,countIn,count_eq k ys];unfold lK;rw[List.countP_cons];have e:same (.str y) (.str k)=(y==k):=by simp[same]
  rw[e];cases h:(y==k)
  .simp
  .simp;omega
def Zw(K:Fr):V->List V->Hp->VK->Prop:=λx vs H Q=>∃(l:Addr) (ys:List Str) (k:Str),x=.ref l/\vs=[.str k]/\cH K H l (ys.map V.str)/\Q (.int (lK k ys)) H
def aeg{X:Cx}:Js X "list.count" (Zw X.K):=by
 intro af s U H x vs v us Q I rx rv h;let#[l,ys,k,rfl,rfl,hH,q]:=h;ext rx;let#[u,rfl,ru]:=rv.one;let#[t,rfl]:=ru;let#[ay,r,pl,hz]:=I.list hH;refine count_list_strs pl.isList (Vc r) ?_;rw[count_eq];apply#[.int (lK k ys),H,I.tok _,#[_,rfl],q]
def Co:D->D->Option D
 |.lst ds,.str k=>(kY ds).map λys=>.int (lK k ys)
 |_,_=>none
def PF(ho:FP X o fo)(ha:FP X a fa)(hs:starEach [a] X.env=[(false,eval a X.env)]:=by rfl)(jN:attributeBase o "count" X.env (eval o X.env)=eval o X.env:=by rfl)
  (jM:((backTo p3 (starEach [a] X.env)).all (λx=>!x.1)&&(backToKw p3 (keywordEach [] X.env)).all (λx=>x.1.isSome)&&decide ([a].length+([]:List Keyword).length+(if([]:List Keyword).isEmpty then 0 else 1)<30))=true:=by rfl)
  (jR:(p2.endLine==p3.line)=true:=by rfl):FP X (.Call (.Attribute o "count" p2) [a] [] p3) (e2 Co fo fa):=by
 let#[to,po,so]:=ho;let#[ta,pa,sa]:=ha;refine#[_,um PySem.F.plainAttrs_list PySem.F.slot_list_count PySem.F.type_list_count aeg po (dX pa fT hs) jN jM jR hs rfl,@λH0 S z aq Y U H Q dd tg ok e k=>?_];let#[d1,t1,d2,t2,e1,iS,e3,rfl]:=pH e;unfold Co at e3
 split at e3
 .rename_i ds ky;cases hS:kY ds with
  |none=>rw[hS] at e3;ext e3
  |some ys=>
   rw[hS] at e3;ext e3;refine so ok e1 λH1 v fp s1 r1 _=>?_
   let#[l,xs,f,rfl,hq,rs,_]:=r1.fq;have ex:=yd rs hS;subst ex;refine#[.inl #[rfl,_,hq],?_];refine sa (ok.same s1) iS λH2 u jF s2 r2 _=>?_
   ext r2;let#[l',xs',f',e',WU,AJ,_]:=(r1.same s2).fq;ext e';have ex:=yd AJ hS;subst ex;apply#[l,ys,ky,rfl,rfl,WU,k H2 _ [] (s1.trans s2) (.int _) .nil]
 .cases e3
def Bk(K:Fr)(t:Addr)(ys:List Str):Prop:=∃(o:Obj) (ay:Array Value) (n:Nat),K.lookup t=some o/\o.cls=.type "tuple"/\o.dict=none/\o.data=.seq ay n/\ay.size<=sizeLine/\aW (ys.map V.str) ay.toList
theorem RX{K:Fr}:∀ys:List Str,aH K H (ys.map D.str) (ys.map V.str) []
 |[]=>.nil
 |y::ys=>.cons (.str y) (RX ys)
def Zz(hm:X.mg x=some (.ref t))(ht:Bk X.K t ys)(hg:GD X x:=by apply#[rfl,by decide]):FP X (.Name x pos) (eC (.tup (ys.map D.str))):=
 #[_,Nt hg.1 hm (v:=.ref t) rfl hg.2,@λ_ _ _ _ _ _ H _ _ _ _ e q=>by ext e;apply q H _ _ (aN.refl H) (.tup (.inr ht) (RX ys)) .nil]
def uA(neg:Bool):D->D->Option D
 |.str i,.lst ds=>(kY ds).map λns=>.bl (if neg=true then !(ns.any (· == i)) else ns.any (· == i))
 |.str i,.tup ds=>(kY ds).map λns=>.bl (if neg=true then !(ns.any (· == i)) else ns.any (· == i))
 |_,_=>none
def Nm(i:Str)(ns:List Str):vO (.str i) (ns.map V.str)=ns.any (· == i):=by
 unfold vO;rw[aji];rfl
def MW(ns:List Str):(ns.map V.str).all oE=true:=by
 rw[ajt];apply adR.mpr λ_ _=>rfl
def NS{K:Fr}{neg:Bool}:g9 K (Dk K neg) (uA neg):=by
 intro H x y d1 d2 f1 f2 d Q r1 r2 e k;unfold uA at e
 split at e
 .rename_i i ds;cases hS:kY ds with
  |none=>rw[hS] at e;ext e
  |some ys=>
   rw[hS] at e;ext e;ext r1;let#[l,xs,f,rfl,hq,rs,_]:=r2.fq;have ex:=yd rs hS;subst ex;refine#[l,_,rfl,.inl hq,rfl,MW ys,?_];rw[Nm];apply k H _ (aN.refl H) (.bl _)
 .rename_i i ds;cases hS:kY ds with
  |none=>rw[hS] at e;ext e
  |some ys=>
   rw[hS] at e;ext e;ext r1;cases r2 with
   |tup hq rs=>
    have ex:=yd rs hS;subst ex;refine#[_,_,rfl,.inr hq,rfl,MW ys,?_];rw[Nm];apply k H _ (aN.refl H) (.bl _)
 .cases e
def We(ha:FP X a fa)(hb:FP X b fb)(hm:behindInMarks .In b=false:=by rfl):FT X (.Compare a [.In] [b] pos) (tV (e2 (uA false) fa fb)):=kD Uu NS ha hb hm
def NV(ha:FP X a fa)(hb:FP X b fb)(hm:behindInMarks .NotIn b=false:=by rfl):FT X (.Compare a [.NotIn] [b] pos) (tV (e2 (uA true) fa fb)):=kD JC NS ha hb hm
end L2.Ev
namespace L2.Ev
open PySem PySem.W
def Qi(q:AO K C=true):∃N bm,t_ K C N bm "ValueError.__new__"/\nsOkIn K N=true/\nsIn K N "__init__"=some none/\tailIn K TY bm=true:=by
 unfold AO at q;cases h:K.lookup C with
 |none=>rw[h] at q;ext q
 |some o=>
  let#[c,dd,da,#[sl]]:=o;rw[h] at q;ext da<;>try ext q
  rename_i cd;simp only[aav,ahF] at q;let#[#[#[#[#[#[h1,h2],h3],h4],h5],h6],h7]:=q;let#[nm,bs,mro,ns,qn,hd,sn,sub,ab,col,del]:=cd;ext h4;dsimp only at h2;rw[h1,h2,h3] at h;apply#[ns,_,#[h],h6,h7,h5]
def V1(q:AO K C=true):BG K C:=by
 let#[N,bm,h]:=Qi q;apply#[#[_,_,_,_,bm,N,PySem.F.excBase_ValueError,h]]
def Shape(K:Frag)(C:Addr):Prop:=∃N bm i,t_ K C N bm i
def Sd(q:AO K C=true):Shape K C:=by
 let#[N,bm,h,_]:=Qi q;apply#[N,bm,_,h]
def Tv(h:t_ K C N bm i)(m:mroIn K C v=some true):(Value.ref C::bm).contains v=true:=by
 let#[h]:=h;unfold mroIn clsIn at m;rw[h] at m;dsimp only at m;rw[abR,aa0 (by simp)] at m;apply abH m
def Zi{C D:Addr}(hC:Shape K C)(hD:Shape K D)(m:mroIn K C (.ref D)=some true)(b:mroIn K D (.type "BaseException")=some true):yw K C D:=by
 let#[N,bm,i,h1]:=hC;let#[N',uw,i',h2]:=hD;refine#[N,bm,i,N',uw,i',h1,h2,?_,Tv h1 m];have:=Tv h2 b;rw[List.contains_cons] at this;rcases(aje _ _).mp this with q|q
 .cases ahF.mp q
 .exact q
def Fe(names:List Str):Str->Bool:=λcn=>names.contains cn
def Zb(K:Frag)(names:List Str)(Dc:Addr):Prop:=∀cn C,Fe names cn=true->nsIn K mainGlobals cn=some (some (.ref C))->yw K C Dc
def uR(hl:ds.length=n)(h:b (vZ N ds)=some (.er raw cn Y)):lW n N b ds=some (.er cn):=by unfold lW;rw[if_pos hl,h]
def adu(m:mroIn K C v=some b):(clsIn K C).isSome=true:=by
 unfold mroIn at m;cases h:clsIn K C with
 |none=>rw[h] at m;ext m
 |some _=>rfl
end L2.Ev
namespace L2
open PySem PySem.Spec PyProof.Rows
def aiA(h:PE X.gJ e t):PX X e (λU H Q _=>t U H Q):=λaf s U H Q E I hw=>
 aeG (h af s U H Q (I.kX _) hw) (λ_ _ #[v,H',I',r,q]=>#[v,H',I'.lU,r,q]) λ_ _ z=>False.elim z
end L2
namespace L2.Ev
open PySem PySem.Spec PyProof.Rows
def Pj(cn m:Str)(F:List D->Option Rz)(fo:EF)(g:AF):XR:=λY=>match fo Y,g Y with
 | some (.ins c es,_),some ps=>if c=cn/\es.lookup m=none then(match F (.ins c es::ps.map (·.1)) with
  |some (.ok d)=>some (.ok d Y)
  |some (.er en)=>some (.er en Y)
  |none=>none) else none
 |_,_=>none
def aek(hC:ClsAt X.K cn C)(hm:j_ X.K C m f)(GG:bS X.prog X.w X.K X.mg X.base (f_ X.prog X.w) k f fd ps (jt X.K F))(hr:bR k X.A)(hb:Binds X.K fd ps [])(ho:FP X.gJ o fo)(ha:FA X.gJ (e::es) g)(hx:X.ex=[]:=by rfl)
  (dM:SE X e es pos:=by apply#[rfl,rfl])
  (ht:sR X o m apos (e::es) pos pl:=by apply rfl):FE X (.Call (.Attribute o m apos) (e::es) [] pos) (Pj cn m F fo g):=by
 let#[to,po,so]:=ho;let#[ta,pa,_,qa]:=ha;refine#[_,QB po hC.cl hm GG hr hx hb .nil pa dM.1 dM.2 ht,@λH0 S z aq Y U H Q E r ok e0 kk=>?_];unfold Pj at e0
 split at e0
 .rename_i c nv t0 qs h1 h2
  by_cases hc:c=cn/\nv.lookup m=none
  .rw[if_pos hc] at e0;let#[rfl,Et]:=hc;cases h3:F (.ins c nv::qs.map (·.1)) with
   |none=>rw[h3] at e0;ext e0
   |some w=>
    rw[h3] at e0;refine so ok h1 λH1 v fp s1 r1 _=>?_
    let#[b,dx,fs,gf,rfl,rfl,h4,h5,h6,h7]:=r1.kP hC.ns;refine#[b,dx,fs,rfl,h4,qI h6 Et,?_];refine qa (ok.same s1) h2 λH2 vs jF s2 r2 _=>?_
    rw[ack];cases w with
    |ok d=>
     ext e0;apply#[_,_,_,.cons (r1.same s2) r2,h3,λH3 u gS s3 r3 nd fr=>kk z H2 H3 u gS ((ok.same s1).same s2) s3 r3 #[nd,fr]]
    |er en=>
     ext e0;apply#[_,_,_,.cons (r1.same s2) r2,h3,λH3 C3 s3 hn=>kk z H3 C3 (((ok.same s1).same s2).same s3) hn]
  .rw[aa0 hc] at e0;ext e0
 .cases e0
def CG(fa fh:EF):EF:=λY=>match fa Y,fh Y with
 |some (.lst ds,_),some (.int i,_)=>if aQ ds=true then some (.lst (cutD ds (some i) none),.own) else none
 |_,_=>none
def abh(ha:FP X a fa)(hh:FP X b fh):FP X (.Subscript a (.Slice (some b) none none p2) pos) (CG fa fh):=by
 let#[t,p,q]:=ha;let#[th,ph,qh]:=hh;exists 21,Jj Mc p (Kv ph) E8;unfold CG at e
 split at e
 .rename_i ds t1 i t2 e1 e2;let#[hi,e]:=ci e;ext e;refine q ok e1 λH1 x f1 s1 r1 _=>?_
  refine qh (ok.same s1) e2 λH2 y f2 s2 r2 _=>?_
  ext r2;refine#[i,rfl,?_];let#[w,xs,f,rfl,hq,rs,_]:=(r1.same s2).fq;have hn:=rs.aE hi;subst hn;refine#[w,xs,rfl,hq,λp hp=>?_];have s3:aN H2 (upd H2 p (.lst (lF xs (some i) none))):=λb o e=>by rw[aP (dh e hp)];apply e
  have rr:aH X.K H2 (cutD ds (some i) none) (lF xs (some i) none) []:=by
   unfold cutD lF;rw[rs.length];apply aH.Bt _ (aH.Dp _ rs)
  refine k _ _ [p] ((s1.trans s2).trans s3) (.lst cg (rr.same s3)) #[abo.mpr #[(λm=>by ext m),acm],λa m=>?_];cases aaD.mp m;apply s1.free (s2.free hp)
 .cases e
def tS(X:Cx)(e:Expr)(f:aR->Option (Bool×aR)):Prop:=∃t,PT X e t/\∀{H0} {S} {z} {aq} {Y} {U} {H} {Q} {b} {Y'},
 Ok X.K H0 S z aq Y U H->f Y=some (b,Y')->(∀z' H',Ok X.K H0 S z' aq Y' U H'->Q b H')->t U H Q
def EU(c:aR->Option (Bool×aR))(f g:SF):SF:=λY=>match c Y with
 |some (true,Y')=>f Y'
 |some (false,Y')=>g Y'
 |none=>none
def aex(hc:tS X c tc)(ha:FS X s1 f)(hb:FS X s2 g):fG X (.If c s1 s2 pos) (EU tc f g):=by
 let#[t,p,q]:=hc;let#[t1,p1,q1]:=ha;let#[t2,p2,q2]:=hb;exists 23,IZ p p1 p2;unfold EU at e;cases h:tc Y with
 |none=>rw[h] at e;ext e
 |some w=>
  let#[y,aT]:=w;rw[h] at e;refine q ok h λz1 H1 cG=>?_
  cases y with
  |true=>rw[if_pos rfl];apply q1 cG e k
  |false=>rw[aa0 aaH];apply q2 cG e k
def Z7{n:Int}(h:n.natAbs<2 ^ 64):n.natAbs.log2<1920:=by
 rcases Nat.eq_zero_or_pos n.natAbs with z|z
 .rw[z];decide
 .exact acH ((Nat.log2_lt (by omega)).mpr h) (by decide)
def aH.UW{K:Fr}{H:Hp}:∀{ds:List D}{vs:List V}{fp:List Addr}{i:Nat}{d:D},aH K H ds vs fp->ds[i]? = some d->∃v f,vs[i]? = some v/\Rep K H d v f/\f.Sublist fp
 |_,_,_,_,_,.nil,e=>by simp at e
 |_,_,_,0,_,.cons (f2:=f2) h t,e=>by
  cases abH e;apply#[_,_,rfl,h,List.sublist_append_left _ _]
 |_,_,_,i+1,d,.cons h t,e=>by
  let#[v,f,e1,r,s]:=aH.UW (i:=i) (d:=d) t (by simpa using e);apply#[v,f,by simpa using e1,r,s.trans (List.sublist_append_right _ _)]
def IY(fa fb:EF):EF:=λY=>match fa Y,fb Y with
 |some (.lst ds,.own),some (.int i,_)=>(fC ds i).map λd=>(d,.own)
 |_,_=>none
def WB{X:Cx}{a b:Expr}{fa fb:EF}{pos:Pos}(ha:FP X a fa)(hb:FP X b fb)(hs:HY b:=by apply λ_ _=>rfl):FP X (.Subscript a b pos) (IY fa fb):=by
 let#[ta,pa,sa]:=ha;let#[tb,pb,sb]:=hb;exists 20,C6 OG pa pb hs;unfold IY at e
 split at e
 .rename_i ds i t2 e1 iS;cases e3:fC ds i with
  |none=>rw[e3] at e;ext e
  |some d'=>
   rw[e3] at e;ext e;refine sa ok e1 λH1 x f1 s1 r1 g1=>?_
   refine sb (ok.same s1) iS λH2 y f2 s2 r2 _=>?_
   have r1:=r1.same s2;ext r2;unfold fC at e3;cases h:lB ds.length i with
   |none=>rw[h] at e3;ext e3
   |some j=>
    rw[h,abR] at e3;cases r1 with
    |lst hq rs=>
     let#[v,f',hv,rv,hm]:=rs.UW e3;have g1:(_::_:List Addr).Nodup/\∀a∈_,H a=none:=g1;refine .inl #[_,_,i,v,rfl,rfl,cH.of hq,?_,q H2 v f' (s1.trans s2) rv #[hm.nodup (abo.mp g1.1).2,λa m=>g1.2 a (aaf _ (hm.subset m))]];unfold fC;rw[<- rs.length,h,abR];apply hv
 .cases e
section
variable(P:Program)(w:World)(K:Fr)(mg:Str->Option Value)(base:Heap)(CX:qS)(k:Nat)
def FN(x:Str)(ps:List Str)(sp:Sp)(cm:Bool:=true):Prop:=∃a fd,bS P w K mg base CX k a fd ps sp cm/\mg x=some (.ref a)/\PySem.W.keepIn K (.ref a)=true/\Binds K fd ps []
def MT(C:Addr)(x:Str)(ps:List Str)(sp:Sp)(cm:Bool:=true):Prop:=∃a fd,bS P w K mg base CX k a fd ps sp cm/\Binds K fd ps []/\j_ K C x a
def MI(C:Addr)(ps:List Str)(sp:Sp)(cm:Bool:=true):Prop:=∃a fd,bS P w K mg base CX k a fd ps sp cm/\Binds K fd ps []/\Mk K C a
end
def GL(K:Fr)(x q:Str)(st:Stmt)(f:Addr):Prop:=∃oc od kV dc pm an cd ct sl,K.lookup f=some #[oc,od,.func (PySem.W.fnOf x q (mU st) (iH st) (di st) .none kV dc pm an cd ct),sl]/\PySem.W.codeIn K cd q=true/\PySem.W.keepIn K (.ref f)=true
def De(K:Fr)(x:Str)(st:Stmt):Prop:=∃f,PySem.W.nsIn K mainGlobals x=some (some (.ref f))/\GL K x x st f
def GM(K:Fr)(C:Addr)(x q:Str)(st:Stmt):Prop:=∃f,PySem.W.findIn K (.ref C) x=some (some (.ref f))/\PySem.W.isFn K (.ref f)=true/\GL K x q st f
abbrev BA(x q:Str)(st:Stmt)(ps:List Str):Prop:=∀(kV doc pm) (an) (aZ ct) (us),us.length=ps.length->bindArgs (PySem.W.fnOf x q (mU st) (iH st) (di st) .none kV doc pm an aZ ct) #[us,[]]=pure (ps.zip us)
def Bf{K:Fr}{x q:Str}{st:Stmt}{f:Addr}(l:GL K x q st f):PySem.W.keepIn K (.ref f)=true/\∃fd,jj K x q st f fd:=by
 let#[oc,od,kV,dc,pm,an,cd,ct,sl,h1,h2,h3]:=l;apply#[h3,_,P_ h1 h2 h3]
section
variable{K:Fr}{st:Stmt}
def RD(X:K.In h)(G:h.Ns mainGlobals mg)(l:De K x st)(ok:∀{f} {fd},jj K x x st f fd->bS P w K mg base CX k f fd ps sp cm)(b:BA x x st ps):FN P w K mg base CX k x ps sp cm:=by
 let#[f,a,l]:=l;let#[kp,fd,F]:=Bf l;apply#[f,fd,ok F,PySem.W.mg_of X G a,kp,F.binds b]
def SH(l:GM K C x q st)(ok:∀{f} {fd},jj K x q st f fd->bS P w K mg base CX k f fd ps sp cm)(b:BA x q st ps):MT P w K mg base CX k C x ps sp cm:=by
 let#[f,a,i,l]:=l;let#[kp,fd,F]:=Bf l;apply#[f,fd,ok F,F.binds b,#[a,i,kp]]
def Zs{sp:Heap->Sp}(X:K.In h)(G:h.Ns mainGlobals mg)(Jw:mg "law"=some (.ref fa))(l:De K "law" st)
  (b:∀(kV doc pm) (an) (aZ ct) (s) (v),BindsTo s (PySem.W.fnOf "law" "law" (mU st) (iH st) (di st) .none kV doc pm an aZ ct) #[[v],[]] [(p,v)])
  (ok:∀base:Heap,K.In base->base.Ns mainGlobals mg->∀{f} {fd},jj K "law" "law" st f fd->bS P w K mg base CX k f fd [p] (sp base) cm) :
  ∃fd:FuncData,(∀(s) (v),BindsTo s fd #[[v],[]] [(p,v)])/\∀base:Heap,K.In base->base.Ns mainGlobals mg->bS P w K mg base CX k fa fd [p] (sp base) cm:=by
 let#[f,a,oc,od,kV,dc,pm,an,cd,ct,sl,h1,h2,h3]:=l;have e:=Jw.symm.trans (PySem.W.mg_of X G a);ext e;apply#[_,b kV dc pm an cd ct,λbase K1 G1=>ok base K1 G1 (P_ h1 h2 h3)]
end
def lC(h1:g d t Y=some aT)(h2:f aT=some (.nx aY)):cU g t f (d::ds) Y=cU g t f ds aY:=by
 conv=>lhs;unfold cU
 rw[h1];dsimp only;rw[h2]
def HB(h1:g d t Y=some aT)(h2:f aT=some (.rt r)):cU g t f (d::ds) Y=some (.rt r):=by
 unfold cU;rw[h1];dsimp only;rw[h2]
end L2.Ev
namespace L2
open PySem PySem.Spec PyProof.Rows
def Inv.freeze(I:Inv X af U H s)(h:H a=some (.lst xs)):∃o,Inv X af U (upd H a (.cR o (.lst xs))) s:=by
 let#[hz,ay,n,rv,ho]:=I.aM a _ h;have ne:∀{b} {o},H b=some o->(∀xs,o≠.lst xs)->b≠a:=λ{b o} q n z=>by rw[z,h] at q;ext q;apply n _ rfl
 have nn:∀{b},H b=none->b≠a:=λ{b} q z=>by rw[z,h] at q;ext q
 refine#[{ cls:=.type "list",data:=.seq ay.toArray n },I.ok,I.os,I.bare,#[I.base.keep,I.base.slot,λb o q n hx=>?_,I.base.there,λb xs q=>?_,λb o u q=>?_,λb ps q=>?_],I.loc,I.cell,?_,λx c q=>?_,λp hp=>?_,λb o q=>?_,I.len,I.hq.mono (λb o u q=>by rw[aP (ne q λ_=>by simp)];apply q) λb t q=>by rw[aP (ne q λ_=>by ext t<;>intro z<;>ext z)];apply q]
 .have w:=I.base.free b o q n hx;rw[aP (nn w)];apply w
 .have w:=I.base.jD b xs q;rw[aP (ne w λ_=>by ext xs<;>intro z<;>ext z)];apply w
 .have w:=I.base.jv b o u q;rw[aP (ne w λ_=>by simp)];apply w
 .let#[more,w]:=I.base.kC b ps q;apply#[more,by rw[aP (ne w λ_=>by simp)];apply w]
 .rw[aP (nn I.free)];apply I.free
 .have w:=I.iC x c q;rw[aP (nn w)];apply w
 .let#[p1,p2,p3]:=I.pin p hp;apply#[p1,by rw[aP (nn p2)];apply p2,p3]
 .by_cases z:b=a
  .subst z;rw[cg] at q;ext q;apply#[ho,hz,ay,n,rv,ho]
  .rw[aP z] at q;apply(I.aM b o q).gP (λ_ _ _ q=>q) (λc q=>by rw[aP (ne q λ_=>by simp)];apply q) λc xs q=>by rw[aP (ne q λ_=>by ext xs<;>intro z<;>ext z)];apply q
def ac0(t:TE):TE:=λU H Q=>t U H λx H1=>∃a xs,x=.ref a/\H1 a=some (.lst xs)/\∀o,Q x (upd H1 a (.cR o (.lst xs)))
def Y0(h:PE X e t):PE X e (ac0 t):=λaf s U H Q I hw=>
 cX (h af s U H _ I hw) λu s1 #[x,H1,I1,r,a,xs,e1,ha,q]=>by
  let#[o,J]:=I1.freeze ha;apply#[x,_,J,r,q o]
def VP(x:Str)(te:TE):TE:=λU H Q=>te U H λv H1=>∃n:Int,v=.int n/\n.natAbs.log2<1920/\Q (.str (Str.empty++x++Str.ofString (toString n))) H1
def ah1(hx:x.length<=1000)(he:PE X e te):PE X (.JoinedStr [.Constant (.str x) j p1,.FormattedValue e (-1) none p2] p3) (VP x te):=by
 intro af s U H Q I h;have l0:(Str.empty++x).length=x.length:=by rw[ajP];show 0+_=_;omega
 refine JoinedStr_many (joinParts_cons (Calls.Constant_str #[by rw[l0,aft];omega,?_]));refine joinParts_cons (FormattedValue_plain (yJ (he af _ U H _ (I.tok _) h) λu s1 v H1 I1 r q=>?_));let#[n,e1,e2,q]:=q;subst e1;let#[t,rfl]:=r;have l1:=int_text_length_le (by decide) e2;have l2:(Str.empty++x++Str.ofString (toString n)).length<=sizeLine:=by
  rw[ajP,l0,PySem.ofString_length,aft];omega
 refine formatField_int_small e2 #[l2,?_];apply joinParts_nil #[.str _,H1,I1.tok _,#[_,rfl],q] l2
namespace Ev
def Fv(x:Str):D->Option D
 |.int n=>if n.natAbs<2 ^ 128 then some (.str (Str.empty++x++Str.ofString (toString n))) else none
 |_=>none
def Tr(hx:x.length<=1000)(h:FP X e f):FP X (.JoinedStr [.Constant (.str x) j p1,.FormattedValue e (-1) none p2] p3) (e1 (Fv x) f):=by
 let#[t,p,q]:=h;refine#[_,ah1 hx p,@λH0 S z aq Y U H Q d tg ok e0 k=>?_];let#[d1,t1,h1,h2,rfl]:=pO e0;unfold Fv at h2
 split at h2
 .rename_i n
  by_cases hn:n.natAbs<2 ^ 128
  .rw[if_pos hn] at h2;ext h2;refine q ok h1 λH1 v fp s1 r1 _=>?_
   ext r1;apply#[n,rfl,(Nat.eq_zero_or_pos n.natAbs).elim (λz=>by rw[z];decide) λz=>acH ((Nat.log2_lt (by omega)).mpr hn) (by decide),k H1 _ [] s1 (.str _) .nil]
  .rw[aa0 hn] at h2;ext h2
 .cases h2
def A2(f:EF):EF:=λY=>match f Y with
 |some (.lst ds,.own)=>if aQ ds=true then some (.c_ ds,.own) else none
 |_=>none
def SS(h:FP X e f):FP X e (A2 f):=by
 let#[t,p,q]:=h;refine#[_,Y0 p,@λH0 S z aq Y U H Q d tg ok e0 k=>?_];unfold A2 at e0
 split at e0
 .rename_i ds h1
  by_cases hi:aQ ds=true
  .rw[if_pos hi] at e0;ext e0;refine q ok h1 λH1 v fp s1 r1 g1=>?_
   cases r1 with
   | @lst c xs _ f' hc rs=>
    have hn:=rs.aE hi;subst hn;refine#[c,xs,rfl,hc,λo=>k _ _ [] (λb o' e'=>?_) (.yW (.inl #[o,cg]) (rs.frame (λa m=>nomatch m) (bf.upd hc rfl))) .nil];have fresh:=g1.2 c aah;rw[aP (dh e' fresh)];apply s1 _ _ e'
  .rw[aa0 hi] at e0;ext e0
 .cases e0
def zM(ft:TF)(fz:aR->Option (Bool×aR)):aR->Option (Bool×aR):=λY=>match ft Y with
 |some true=>fz Y
 |some false=>some (false,Y)
 |none=>none
def aao(ha:FT X a ft)(hb:tS X b fz):tS X (.BoolOp .And [a,b] pos) (zM ft fz):=by
 let#[t,p,q]:=ha;let#[t',p',q']:=hb;refine#[_,(Fp p (T7 p')).pt,@λH0 S z aq Y U H Q c Y' ok e k=>?_];unfold zM at e
 split at e
 .rename_i h1;refine q ok h1 λH1 s1=>?_
  rw[if_pos rfl];apply q' (ok.same s1) e k
 .rename_i h1;ext e;refine q ok h1 λH1 s1=>?_
  rw[aa0 aaH];apply k z H1 (ok.same s1)
 .cases e
end Ev
end L2
namespace L2.Ev
open PySem PySem.Spec PyProof.Rows
section
variable{X:Cx}{elts:List Expr}{tp:Pos}{a b:Expr}{fa fb:EF}{p pos:Pos}
def zU:D->Option D
 |.lst ds=>if aQ ds=true then some (.lst ds) else none
 |.c_ ds=>if aQ ds=true then some (.lst ds) else none
 |.tup ds=>if aQ ds=true then some (.lst ds) else none
 |_=>none
def XD:qZ X.K (λxs H Q=>∃p ys,xs=[V.ref p]/\(cH X.K H p ys\/cO X.K H p ys)/\∀l,H l=none->Q (.ref l) (upd H l (.lst ys))) zU:=by
 intro H x d1 f1 d Q r e k;have fin:∀{ds:List D}{xs:List V}{f:List Addr},aH X.K H ds xs f->(if aQ ds=true then some (D.lst ds) else none)=some d->∀l,H l=none->Q (.ref l) (upd H l (.lst xs)):=λ{ds xs f} rs e l hl=>by
  by_cases hi:aQ ds=true
  .rw[if_pos hi] at e;ext e;have hn:=rs.aE hi;subst hn;have s2:aN H (upd H l (.lst xs)):=λb o e=>by rw[aP (dh e hl)];apply e
   apply k _ _ [l] s2 (.lst cg (rs.same s2)) (abo.mpr #[(λm=>by ext m),acm]) λa m=>by cases aaD.mp m;apply hl
  .rw[aa0 hi] at e;ext e
 cases d1 with
 |lst ds=>
  let#[a,xs,f,rfl,hq,rs,_]:=r.fq;apply#[a,xs,rfl,.inl hq,fin rs e]
 |c_ ds=>
  let#[a,xs,rfl,hq,rs]:=r.qp;apply#[a,xs,rfl,.inl hq,fin rs e]
 |tup ds=>
  let#[a,xs,rfl,hq,rs]:=r.jf;apply#[a,xs,rfl,.inr hq,fin rs e]
 |_=>ext e
def N9{p:Pos}(hm:X.mg "list"=none)(ha:FP X a fa)(hg:Gl X "list":=by rfl)(hs:starEach [a] X.env=[(false,eval a X.env)]:=by rfl):FP X (.Call (.Name "list" p) [a] [] pos) (e1 zU fa):=
 fp_1 XD ha λta pa=>yX Nd hg hm (by rfl) (dX pa fT hs) (he:=hs) (hpl:=rfl)
def Gq(T:String):D->Option D
 |.tup _=>some (.bl ("tuple" == T))
 |.c_ _=>some (.bl ("list" == T))
 |d=>AZ T d
def RK(T:String):Prop:=∀(K:Fr) (t:String),t∈["tuple","list"]->PySem.W.kitOne K (.type t) (.type T)=some (t==T)
def afP:RK "tuple":=by
 intro K t m;simp only[aaA,ac6,ahz] at m;rcases m with rfl|rfl<;>rfl
def afJ(T:String):ic X (.builtin "isinstance") (λxs H Q=>(∃x t b,xs=[x,V.ty T]/\jX X.K H x t/\PySem.W.kitOne X.K t (.type T)=some b/\Q (.bl b) H)\/
  (∃a ys b,xs=[.ref a,V.ty T]/\cO X.K H a ys/\PySem.W.kitOne X.K (.type "tuple") (.type T)=some b/\Q (.bl b) H)\/(∃a ys b,xs=[.ref a,V.ty T]/\cH X.K H a ys/\PySem.W.kitOne X.K (.type "list") (.type T)=some b/\Q (.bl b) H)):=by
 intro af s U H xs us Q I r h;rcases h with h|⟨a,ys,bb,rfl,hq,e,q⟩|⟨a,ys,bb,rfl,hq,e,q⟩
 .exact QW T af s U H xs us Q I r h
 .let#[u,w',rfl,ru,fH]:=vals2 r;ext fH;cases(show u=Value.ref a from ru);let#[ay,_,#[o,h1,h2,_],_]:=I.tuple hq;apply PySem.W.kia_one PySem.W.kitx_tuple I.dJ #[o,h1,h2] e (λz=>nomatch z) λtk=>#[.bl bb,H,I.tok tk,rfl,q]
 .let#[u,w',rfl,ru,fH]:=vals2 r;ext fH;cases(show u=Value.ref a from ru);let#[ay,_,#[o,n,h1,h2,_],_]:=I.list hq;apply PySem.W.kia_one PySem.W.kitx_list I.dJ #[o,h1,h2] e (λz=>nomatch z) λtk=>#[.bl bb,H,I.tok tk,rfl,q]
def aiY{T:String}{x:Str}(hT:Ab T)(O0:RK T)(hm:X.mg "isinstance"=none)(Kh:X.mg x=none)(ha:FP X a fa)(yi:bootBuiltins x=some (.type T):=by decide +kernel)(hg:Gl X "isinstance":=by rfl)(Gc:Gl X x:=by rfl)(hn:x≠"__name__":=by decide)(gX:(x==("__debug__":Str))=false:=by decide)
  (hs:starEach [a,.Name x p2] X.env=[(false,eval a X.env),(false,eval (.Name x p2) X.env)]:=by rfl) (hpl:(backTo pos (starEach [.Name x p2] X.env)).any (·.1)=false:=by rfl):FP X (.Call (.Name "isinstance" p) [a,.Name x p2] [] pos) (e1 (Gq T) fa):=by
 let#[ta,pa,sa]:=ha;have cV:starEach [.Name x p2] X.env=[(false,eval (.Name x p2) X.env)]:=rfl;exists 21,sD (afJ T) hg hm (show bootBuiltins "isinstance"=some (.builtin "isinstance") by decide +kernel) (dX pa (dX (Bl (v:=.ty T) Gc Kh yi rfl hn gX) fT) (by rw[hs,cV])) (he:=by rw[hs,cV]) (hpl:=hpl);let#[d1,t1,h1,h2,rfl]:=pO e;refine sa ok h1 λH1 v fp s1 r1 _=>?_
 unfold Gq at h2
 split at h2
 .cases h2;let#[w,xs,rfl,hq,_]:=r1.jf;apply .inr (.inl #[w,xs,_,rfl,hq,O0 X.K "tuple" (by decide),k H1 _ [] s1 (.bl _) .nil])
 .cases h2;let#[w,xs,rfl,hq,_]:=r1.qp;apply .inr (.inr #[w,xs,_,rfl,hq,O0 X.K "list" (by decide),k H1 _ [] s1 (.bl _) .nil])
 .unfold AZ at h2;exists ht,Eb d1,t,h2;ext h2;let#[ty,mem]:=r1.ty ht;apply .inl #[v,_,_,rfl,ty,hT X.K t mem,k H1 _ [] s1 (.bl _) .nil]
end
end L2.Ev
namespace L2
open PySem PySem.Spec PyProof.Rows
def Inv.YR(I:Inv X af U H s)(ha:H a=some (.dK ao))(ho:s.heap.get? a=some o):Inv X af U (upd H a (.cR o (.dK ao))) s:=
 I.write (h':=s.heap) (t':=s.toks) (o:=.cR o (.dK ao)) (x:=a) (e:=a) (by rw[ha];trivial) (.inl rfl) (λ_ _ _ q=>q) #[o,ho] #[ho,I.aM a _ ha]
def Inv.ZG(I:Inv X af U H s)(ha:H a=some (.cR o (.dK ao)))(h0:∀o u,X.pG a≠some (.cR o u))(hd:X.A.handled=none):Inv X af U (upd H a (.dK ao)) s:=by
 have nn:∀{b},H b=none->upd H a (.dK ao) b=none:=λ{b} e=>by rw[aP (λq=>by rw[q,ha] at e;ext e)];apply e
 have ne:∀{b} {u},H b=some u->(∀o',u≠.cR o' (.dK ao))->upd H a (.dK ao) b=some u:=λ{b u} e n=>by
  rw[aP (λq=>by rw[q,ha] at e;ext e;apply n _ rfl)];apply e
 refine#[I.ok,I.os,I.bare,#[I.base.keep,I.base.slot,λb o e n hx=>nn (I.base.free b o e n hx),I.base.there,λb xs e=>ne (I.base.jD b xs e) (λ_ q=>by ext xs<;>ext q),λb o u e=>?_,λb ps e=>?_],I.loc,I.cell,nn I.free,λx c e=>nn (I.iC x c e),λp hp=>?_,λb u e=>?_,I.len,#[.inl hd,I.hq.ok,λr m=>ne (I.hq.lm r m) (λ_ q=>by ext q)]]
 .rw[aP (λq=>h0 o u (by rw[<- q];apply e))];apply I.base.jv b o u e
 .let#[m,q]:=I.base.kC b ps e;apply#[m,ne q (λ_ q=>by ext q)]
 .let#[e,n,r]:=I.pin p hp;apply#[e,nn n,r]
 .by_cases hb:b=a
  .subst hb;rw[cg] at e;ext e;apply(I.aM b _ ha).2
  .rw[aP hb] at e;apply(I.aM b u e).gP (λc v _ q=>q) (λc q=>ne q (λ_ q=>by ext q)) λc xs q=>ne q (λ_ q=>by ext xs<;>ext q)
end L2
namespace L2.Ev
open PySem PySem.Spec PyProof.Rows
def UU(i:Nat)(cn f:Str)(fv:EF):SF:=λY=>match fv Y,Y[i]? with
 | some (.lst ls,_),some (some (.ins c es,.own))=>if c=cn then(match es.lookup f with
  |some (.lst ds)=>if(aQ ls&&aQ ds&&decide (ds.length+ls.length<=sizeLine))=true then some (.nx (cz Y i (.ins c (e_ f (.lst (ds++ls)) es)))) else none
  |_=>none) else none
 |_,_=>none
def agv(i:Nat)(hC:ClsAt X.K cn C)(na:jb X.K C f)(hv:FP X a fv)(va:VA X i x:=by walk_at "va")(hs:starEach [a] X.env=[(false,eval a X.env)]:=by rfl)
  (hb:attributeBase (.Name x p) f X.env (eval (.Name x p) X.env)=eval (.Name x p) X.env:=by rfl)
  (jN:attributeBase (.Attribute (.Name x p) f p1) "extend" X.env (eval (.Attribute (.Name x p) f p1) X.env)=eval (.Attribute (.Name x p) f p1) X.env:=by rfl)
  (jM:((backTo p3 (starEach [a] X.env)).all (λx=>!x.1)&&(backToKw p3 (keywordEach [] X.env)).all (λx=>x.1.isSome)&&decide ([a].length+([]:List Keyword).length+(if([]:List Keyword).isEmpty then 0 else 1)<30))=true:=by rfl)
  (jR:(p2.endLine==p3.line)=true:=by rfl) (jo:swapsWith (.Call (.Attribute (.Attribute (.Name x p) f p1) "extend" p2) [a] [] p3) none pos.line X.env=pure false:=by rfl) :
  fG X (.Expr (.Call (.Attribute (.Attribute (.Name x p) f p1) "extend" p2) [a] [] p3) pos) (UU i cn f fv):=by
 let#[tv,kU,sv]:=hv;exists 25,xQ (um PySem.F.plainAttrs_list PySem.F.slot_list_extend PySem.F.type_list_extend ahO (oY va.pe hb) (dX kU fT hs) jN jM jR hs rfl) jo;unfold UU at e
 split at e
 .rename_i ls td c es g1 g2
  by_cases hc:c=cn
  .subst hc;rw[if_pos rfl] at e
   split at e
   .rename_i ds hl
    by_cases hc:(aQ ls&&aQ ds&&decide (ds.length+ls.length<=sizeLine))=true
    .rw[if_pos hc] at e;ext e;let#[c1,c3]:=(aav _ _).mp hc;let#[c1,c2]:=(aav _ _).mp c1;let#[xv,fp,c9,r,zz]:=ok.sl i _ _ g2;refine#[xv,c9,?_];let#[b0,dx,fs,u,gf,rfl,h1,h2,h3,h4,h5,h6]:=r.place hC.ns zz.1 hl;refine#[b0,C,dx,fs,u,rfl,h1,hC.cl,na,h2,?_];let#[l,xs,f0,rfl,hq,_,_]:=h3.fq;refine#[.inl #[rfl,_,hq],?_];refine sv ok g1 λH1 v fd s1 rv gv=>?_
     generalize hw:(V.ref l)=w at h3 h6;cases h3 with
     | @lst a' ys _ f' h rs=>
      ext hw;have hn:=rs.aE c2;subst hn;cases rv with
      | @lst b' zs _ f2 h' rz=>
       have hn:=rz.aE c1;subst hn;have xV:=s1 _ _ h;refine#[_,b',ys,zs,rfl,rfl,xV,h',by rw[<- rs.length,<- rz.length];apply aau c3,?_];have im:bf H1 (upd H1 l (.lst (ys++zs))):=bf.upd xV rfl;let#[bC,k1,k2,k3]:=h6 (upd H1 l (.lst (ys++zs))) (.lst (ds++ls)) [l] ((bf.of s1).trans im) (λc o n e=>by rw[aP λq=>n (by rw[q];apply aah)];apply s1 c o e)
        (.lst cg (aH.append (f:=[]) (g:=[]) ((rs.same s1).frame (λa m=>nomatch m) im) (rz.frame (λa m=>nomatch m) im))) h4 (λc m=>.inl m)
       let#[z',bu]:=ok.put g2 c9 zz ((bf.of s1).trans im) (λc o n e=>by rw[aP λq=>n (by rw[q];apply h5 l aah)];apply s1 c o e) k1 k2 k3;apply q z' U _ bu (.refl _ _)
    .rw[aa0 hc] at e;ext e
   .cases e
  .rw[aa0 hc] at e;ext e
 .cases e
def XG(K:Fr)(T:List (Str×Bool))(cs:List Addr):Prop:=∀cn b C,T.lookup cn=some b->PySem.W.nsIn K mainGlobals cn=some (some (.ref C))->Lv K C/\PySem.W.kitAny K (.ref C) (cs.map Value.ref)=some b
end L2.Ev
namespace L2.Ev
open PySem PySem.W
def aeD(X:K.In h)(G:h.Ns mainGlobals mg)(l:De K x st)(ok:∀{f} {fd},mg x=some (.ref f)->keepIn K (.ref f)=true->Binds K fd ps []->jj K x x st f fd->bS P w K mg base CX k f fd ps sp cm)(b:BA x x st ps):FN P w K mg base CX k x ps sp cm:=by
 let#[f,a,l]:=l;let#[kp,fd,F]:=Bf l;apply#[f,fd,ok (mg_of X G a) kp (F.binds b) F,mg_of X G a,kp,F.binds b]
end L2.Ev
namespace L2
open PySem PySem.Spec PyProof.Rows
section
variable{X:Cx}
theorem Rx{i:Int}:∀{n:Nat}{l:List Value}{k:Nat},l.length=n->(∀(m:Nat) (v:Value),l[m]? = some v->∃t,v=.int (i+((k+m:Nat):Int)) t)->aW ((List.range' k n).map λn:Nat=>V.int (i+n)) l
 |0,[],_,_,_=>.nil
 |n+1,v::l,k,h,hv=>by
  rw[List.range'_succ,aar];refine .cons ?_ (Rx (k:=k+1) (by simpa using h) λm w e=>?_)
  .let#[t,e]:=hv 0 v rfl;apply#[t,by rw[e];simp]
  .let#[t,e]:=hv (m+1) w (by simpa using e);apply#[t,by rw[e];congr 2;lia]
def abN(ta:TA):TE:=λU H Q=>ta U H λvs H1=>∃i j:Int,vs=[.int i,.int j]/\∀l,H1 l=none->Q (.ref l) (upd H1 l (.cN i j))
def XI{a b:Expr}{ta:TA}{p2 p3:Pos}(oG:X.mg "range"=none)(ha:PA X [a,b] ta)(uF:Gl X "range":=by rfl)
  (hs:starEach [a,b] X.env=[(false,eval a X.env),(false,eval b X.env)]:=by rfl) (cV:starEach [b] X.env=[(false,eval b X.env)]:=by rfl):PE X (.Call (.Name "range" p2) [a,b] [] p3) (abN ta):=by
 intro af s U H Q I h;refine Call_ (qw I uF oG boot_range (ahp (xT (ha p3 af s U H _ I h) λus s1 vs H1 I1 r1 q1=>?_) (by rw[hs,cV]) (by rw[cV];rfl)));let#[i,j,e,q]:=q1;subst e;cases r1 with
 |cons r rr=>
  cases rr with
  |cons r' rr=>
   ext rr;let#[t,rfl]:=r;let#[t',rfl]:=r';refine call_range_2 ?_;apply#[.ref s1.heap.objs.size,upd H1 s1.heap.objs.size (.cN i j),I1.laid (λb u e=>aaq _ e) (abi _) #[_,_,_,abp _ rfl],rfl,q _ (I1.aM.fresh (abi _))]
end
end L2
namespace L2.Ev
open PySem PySem.Spec PyProof.Rows
section
variable{X:Cx}{a b e:Expr}{fa fb fv:EF}{p p1 p2 p3 pos:Pos}
theorem Pq{K:Fr}{H:Hp}{i:Int}:∀(l:List Nat),aH K H (l.map λn:Nat=>D.int (i+n)) (l.map λn:Nat=>V.int (i+n)) []
 |[]=>.nil
 |n::l=>by rw[aar,aar];apply aH.cons (f1:=[]) (f2:=[]) (.int _) (Pq l)
end
end L2.Ev
namespace L2.Ev
open PySem
def sq(h:sf Y=some (.nx Y'))(h2:sg Y'=r):bN sf sg Y=r:=by rw[jH,h,pU,h2]
def cP(h:f Y=some (d,t))(h2:sg (g_ Y i d t)=r):bN (dG i f) sg Y=r:=sq (by unfold dG;rw[h]) h2
def o8(h:tf Y=some b)(h2:bN (if b=true then sf else eS) sg Y=r):bN (dg tf sf eS) sg Y=r:=by
 have e:dg tf sf eS Y=(if b=true then sf else eS) Y:=by rw[iR,h];ext b<;>rfl
 rw[jH,e,<- jH,h2]
def bV(h:tf Y=some false)(h2:sg Y=r):bN (dg tf sf eS) sg Y=r:=sq (by rw[iR,h];rfl) h2
def cE(h:f Y=some (d,t))(h2:op d=some d1):e1 op f Y=some (d1,.own):=by rw[xM,h,GZ,h2];rfl
def aF(h:f Y=some (d1,t1))(h2:g Y=some (d2,t2))(h3:op d1 d2=some d):e2 op f g Y=some (d,.own):=by rw[kj,h,h2,zo,h3];rfl
def bZ(h:g Y=some ps)(h2:F (ps.map (·.1))=some d):cI F g Y=some (d,.own):=by rw[s_call,h,Ut,h2];rfl
def bA(h:f Y=some (.bl b,t)):tV f Y=some b:=by rw[wg,h];rfl
def kN(h:tf Y=some b):kZ tf Y=some (!b):=by rw[Ga,h];rfl
open PySem PySem.Spec PyProof.Rows
def wH(i:Nat)(cn f:Str)(fk fv:EF):SF:=λY=>match fv Y,Y[i]?,fk Y with
 | some (d,_),some (some (.ins c es,.own)),some (kd,_)=>if c=cn then(match es.lookup f,iU kd with
  |some (.b_ ao),some k=>if(aE d&&aQ (ao.map (·.2))&&decide (ao.length<sizeLine))=true then some (.nx (cz Y i (.ins c (e_ f (.b_ (putD ao k d)) es)))) else none
  |_,_=>none) else none
 |_,_,_=>none
def BQ(i:Nat)(hu:X.A.units+1<cLine)(hC:ClsAt X.K cn C)(na:jb X.K C f)(hk:FP X k fk)(hv:FP X v fv)(va:VA X i x:=by walk_at "va")
  (hb:attributeBase (.Name x p) f X.env (eval (.Name x p) X.env)=eval (.Name x p) X.env:=by rfl)
  (hs:swapsWith v (some (.Subscript (.Attribute (.Name x p) f p1) k pos')) pos.line X.env=pure false:=by rfl) :
  fG X (.Assign [.Subscript (.Attribute (.Name x p) f p1) k pos'] v pos) (wH i cn f fk fv):=by
 let#[tk,pk,sk]:=hk;let#[tv,kU,sv]:=hv;exists 25,Ie hu (oY va.pe hb) pk kU hs;unfold wH at e
 split at e
 .rename_i d td c es kd YU g1 g2 g3
  by_cases hc:c=cn
  .subst hc;rw[if_pos rfl] at e
   split at e
   .rename_i ao key hl zY
    by_cases hc:(aE d&&aQ (ao.map (·.2))&&decide (ao.length<sizeLine))=true
    .rw[if_pos hc] at e;ext e;let#[c1,c3]:=(aav _ _).mp hc;let#[c1,c2]:=(aav _ _).mp c1;refine sv ok g1 λH1 v fd s1 rv gv=>?_
     have hn:=rv.aE c1;subst hn;let#[xv,fp,c9,r,zz]:=(ok.same s1).sl i _ _ g2;refine#[xv,c9,?_];let#[b0,dx,fs,u,gf,rfl,h1,h2,h3,h4,h5,h6]:=r.place hC.ns zz.1 hl;refine#[b0,C,dx,fs,u,rfl,h1,hC.cl,na,h2,?_];refine sk (ok.same s1) g3 λH2 y fk' s2 rk _=>?_
     have ek:=rk.key zY;subst ek;have r':=h3.same s2;generalize hw:u=w at r' h6;cases r' with
     | @b_ l ks _ f' h gU rs=>
      have hn:=rs.aE c2;subst hn;have hlen:ks.length=ao.length:=by have:=congrArg List.length gU;simpa using this.symm
      refine#[l,_,rfl,wX.k h (by rw[hlen];apply aau c3),?_];have im:bf H2 (upd H2 l (.dK (putK ks key v))):=bf.upd h rfl;have kp:∀(c) o,c∉[l]->H1 c=some o->upd H2 l (.dK (putK ks key v)) c=some o:=λc o n e=>by rw[aP λq=>n (by rw[q];apply aah)];apply s2 c o e
      let#[bC,k1,k2,k3]:=h6 (upd H2 l (.dK (putK ks key v))) (.b_ (putD ao key d)) [l] ((bf.of s2).trans im) kp
       (.b_ cg (DF gU) (ED gU (rs.frame (λa m=>nomatch m) im) ((rv.same s2).frame (λa m=>nomatch m) im))) h4 (λc m=>.inl m)
      let#[z',bu]:=(ok.same s1).put g2 c9 zz ((bf.of s2).trans im) (λc o n e=>kp c o (λm=>n (h5 c m)) e) k1 k2 k3;apply q z' U _ bu (.refl _ _)
    .rw[aa0 hc] at e;ext e
   .cases e
  .rw[aa0 hc] at e;ext e
 .cases e
def C9(i:Nat)(cn f:Str)(fv:EF):SF:=λY=>match fv Y,Y[i]? with
 | some (.int j,_),some (some (.ins c es,.own))=>if c=cn/\es.length < 1000 then(match es.lookup f with
  |some (.int k)=>some (.nx (cz Y i (.ins c (e_ f (.int (k+j)) es))))
  |_=>none) else none
 |_,_=>none
def GX(i:Nat)(hC:ClsAt X.K cn C)(na:jb X.K C f)(hv:FP X a fv)(va:VA X i x:=by walk_at "va"):fG X (.AugAssign (.Attribute (.Name x p1) f pos') .Add a pos) (C9 i cn f fv):=by
 let#[t,p,q]:=hv;exists 23,ahC va.pe p ahb;unfold C9 at e
 split at e
 .rename_i j tg c es h1 h2
  by_cases hc:c=cn/\es.length<1000
  .rw[if_pos hc] at e;let#[rfl,hl]:=hc
   split at e
   .rename_i m hf;ext e;let#[v,aS,c9,r0,zz]:=ok.sl i _ _ h2;refine#[v,c9,?_];let#[b,dx,fs,u,gf,rfl,h3,e2,e3,_]:=r0.place hC.ns zz.1 hf;let#[b',Ak,wB,g,ev,rfl,DV,h4,h5,h6]:=r0.kP hC.ns;ext ev;rw[h3] at DV;ext DV;ext e3;have lf:fs.length<1000:=by have:=congrArg List.length h5;rw[List.length_map,List.length_map] at this;omega
    refine#[b,C,dx,fs,_,rfl,h3,hC.cl,na,e2,q ok h1 λH1 y fd s1 r1 g1=>?_];ext r1;refine#[m,j,rfl,rfl,dx,fs,s1 _ _ h3,lf,?_];let#[z',bu]:=ok.fld hC h2 c9 h3 s1 (.int (m+j)) acm λc m=>nomatch m
    apply k z' U _ bu (.refl _ _)
   .cases e
  .rw[aa0 hc] at e;ext e
 .cases e
def l7(f:EF):TF:=λY=>match f Y with
 |some (.lst ds,_)=>some (!ds.isEmpty)
 |_=>none
def KN(h:FP X a f)(he:∀whole,isTrue a X.env whole=(do let v <- whole;standAt a.pos;holding [v] (truthy v)):=by intro _;rfl):FT X a (l7 f):=by
 let#[t,p,q]:=h;refine#[_,acq p he,@λH0 S z aq Y U H Q b ok e k=>?_];unfold l7 at e
 split at e
 .rename_i ds tg e1;ext e;refine q ok e1 λH1 v fp s1 r1 _=>?_
  let#[w,xs,f,rfl,hq,rs,_]:=r1.fq;have he:(!ds.isEmpty)=!xs.isEmpty:=by ext rs<;>rfl
  apply#[_,.inl #[xs,hq,rfl],he ▸ k H1 s1]
 .cases e
def V5(hu:X.A.units+1<cLine)(ha:FP X a fa)(hb:FP X b fb)(hm:behindInMarks .NotIn b=false:=by rfl):FP X (.Compare a [.NotIn] [b] pos) (e2 (lO true) fa fb):=
 fp_2 LI ha hb λta tb pa pb=>NU (aaO hu pa pb) hm
end L2.Ev
namespace L2
open PySem PySem.Spec PyProof.Rows
def OY(I:Inv X af U H s)(h:cO X.K H a (ks.map kV)):(tupleKind (gO X.prog X.w)).is s.heap ks a:=by
 let#[ay,r,#[o,h1,h2,_,n,h3],_]:=I.Om h;apply#[o,ay.toArray,n,h1,h2,h3,by simpa using Jy r]
def MZ(K:Fr)(neg:Bool):R2:=λx y H Q=>∃b a k ao,x=.ref b/\y=.ref a/\cO K H b (List.map kV k)/\H a=some (.dT ao)/\Q (.bl (if neg=true then !(fM ao k).isSome else(fM ao k).isSome)) H
def WG(hu:X.A.units+1<cLine):eB X (compareOp .In) (MZ X.K false):=by
 rintro af s U H x y v u Q I rx ry ⟨b,a,k,ao,rfl,rfl,hq,e,q⟩
 obtain rfl:v=Value.ref b:=rx;obtain rfl:u=Value.ref a:=ry;let#[z,hd,xs,rel,dd]:=oW I.aM (.inl e);refine wpAny_in_heap (ahJ hu) (OY I hq) hd dd ?_;have w:=(rel.val k).vz;rw[aic] at w;rw[<- w];apply#[.bl (fM ao k).isSome,H,I.tok _,rfl,q]
def afM(K:Fr)(td ty:TE):TE:=λU H Q=>td U H λx H1=>ty U H1 λy H2=>∃a b k ao v,x=.ref a/\y=.ref b/\cO K H2 b (List.map kV k)/\H2 a=some (.dT ao)/\fM ao k=some v/\Q v H2
def ad8(hu:X.A.units+1<cLine)(ho:PE X o td)(hi:PE X i ty)(hs:yF i):PE X (.Subscript o i pos) (afM X.K td ty):=by
 intro af s U H Q I h;refine OX PySem.F.slot_dict_getitem.lookup hs (ho.n I h λu s1 x H1 I1 rx q1=>cX (hi af s1 U H1 _ I1 q1) λiv s2 hq=>?_);let#[y,H2,I2,ry,a,b,k,ao,v,ex,ey,hq,e,l,q2]:=hq;subst ex;subst ey;obtain rfl:u=Value.ref a:=rx;obtain rfl:iv=Value.ref b:=ry;let#[z,hd,xs,rel,dd]:=oW I2.aM (.inl e);let#[w',hw,fH]:=iK.some_of (by rw[<- l];apply rel.val k);let#[p,hp,Jl]:=abW.mp hw;refine#[dd.typeIs,wpAny_getItem_heap (ahJ hu) (OY I2 hq) dd hp ?_];rw[Jl];apply#[v,H2,I2.tok _,fH,q2]
namespace Ev
def jc:List D->Option (List Key)
 |[]=>some []
 |d::ds=>match iU d,jc ds with
  |some k,some ks=>some (k::ks)
  |_,_=>none
def aH.keys{K:Fr}:∀{ds} {xs} {fp} {ks},aH K H ds xs fp->jc ds=some ks->xs=ks.map L2.kV
 |[],_,_,_,.nil,e=>by ext e;rfl
 |d::ds,_,_,ks,.cons r rs,e=>by
  unfold jc at e
  split at e
  .rename_i k o7 h1 h2;ext e;rw[r.key h1,aH.keys rs h2];rfl
  .cases e
def Jm(neg:Bool):D->D->Option D
 |.tup ds,.fY es=>(jc ds).map λk=>.bl (if neg=true then !(bB es k).isSome else(bB es k).isSome)
 |_,_=>none
def af1{neg:Bool}{K:Fr}:g9 K (MZ K neg) (Jm neg):=by
 intro H x y d1 d2 f1 f2 d Q r1 r2 e k;ext d1<;>try (ext e;done)
 ext d2<;>try (ext e;done)
 rename_i ds es;have e:((jc ds).map λk=>D.bl (if neg=true then !(bB es k).isSome else(bB es k).isSome))=some d:=e;let#[w,xs,rfl,hq,rs]:=r1.jf;cases hk:jc ds with
 |none=>rw[hk] at e;ext e
 |some ks=>
  rw[hk] at e;ext e;obtain rfl:=aH.keys rs hk;cases r2 with
  | @fY a ao _ f h gU AJ=>
   have ev:(fM ao ks).isSome=(bB es ks).isSome:=by
    let#[h1,h2]:=qX gU AJ;cases hv:bB es ks with
    |none=>rw[h2 hv];rfl
    |some dv=>let#[v,f,lX,_]:=h1 dv hv;rw[lX];rfl
   refine#[w,a,ks,ao,rfl,rfl,hq,h,?_];rw[ev];apply k H _ (aN.refl H) (.bl _)
def afS(hu:X.A.units+1<cLine)(ha:FP X a fa)(hb:FP X b fb)(hm:behindInMarks .In b=false:=by rfl):FT X (.Compare a [.In] [b] pos) (tV (e2 (Jm false) fa fb)):=kD (WG hu) af1 ha hb hm
def Jg(fa fb:EF):EF:=λY=>match fa Y,fb Y with
 |some (.fY es,t),some (.tup ds,_)=>(jc ds).bind λk=>(bB es k).map λd=>(d,lM t)
 |_,_=>none
def XU(hu:X.A.units+1<cLine)(ha:FP X a fa)(hb:FP X b fb)(hs:yF b):FP X (.Subscript a b pos) (Jg fa fb):=by
 let#[ta,pa,sa]:=ha;let#[tb,pb,sb]:=hb;exists 20,ad8 hu pa pb hs;unfold Jg at e
 split at e
 .rename_i es t ds t2 e1 iS;cases hk:jc ds with
  |none=>rw[hk] at e;ext e
  |some ks=>
   rw[hk,abR] at e;cases hv:bB es ks with
   |none=>rw[hv] at e;ext e
   |some dv=>
    rw[hv] at e;ext e;refine sa ok e1 λH1 x f1 s1 r1 g1=>?_
    refine sb (ok.same s1) iS λH2 y f2 s2 r2 _=>?_
    let#[w,xs,rfl,hq,rs]:=r2.jf;obtain rfl:=aH.keys rs hk;have HP:=r1.same s2;cases HP with
    | @fY l ao _ f h gU AJ=>
     let#[h1,_]:=qX gU AJ;let#[v,f,lX,rv,sub]:=h1 _ hv;refine#[l,w,ks,ao,v,rfl,rfl,hq,h,lX,?_];apply q H2 v f (s1.trans s2) rv (dQ.sub (λa j e=>(ok.zd a j e).1) g1 λa m=>aaf _ (sub a m))
 .cases e
def vM(neg:Bool):D->D->Option D
 |d1,.lst ds=>if(dz d1&&dz (.lst ds))=true then some (.bl (if neg=true then !(f9 ds).any λy=>PyData.eqv y (py d1) else(f9 ds).any λy=>PyData.eqv y (py d1))) else none
 |_,_=>none
def Le(K:Fr)(neg:Bool):R2:=λx y H Q=>∃d1 ds f1 f2,Rep K H d1 x f1/\Rep K H (.lst ds) y f2/\dz d1=true/\dz (.lst ds)=true/\Q (.bl (if neg=true then !(f9 ds).any λy=>PyData.eqv y (py d1) else(f9 ds).any λy=>PyData.eqv y (py d1))) H
def agb(hu:X.A.units+64<cLine):eB X (compareOp .In) (Le X.K false):=by
 intro af s U H x y v u Q I rx ry h;let#[d1,ds,f1,f2,r1,r2,l1,l2,q]:=h;let#[a1,a2,a3]:=lay_of l1;let#[b1,b2,b3]:=lay_of l2;let#[as,ra]:=pM I r1 rx a1;let#[bs,rb]:=pM I r2 ry b1;rw[py] at rb b2 b3;simp only[PyData.canLay0] at b2;apply SeqAt.in_list_reads rb ra b2 a2 (by have:=Nat.min_le_right (PyData.depthAll (f9 ds)) (py d1).depth;omega) #[.bl _,H,I,rfl,q]
def aab(hu:X.A.units+64<cLine):eB X (compareOp .NotIn) (Le X.K true):=by
 intro af s U H x y v u Q I rx ry h;let#[d1,ds,f1,f2,r1,r2,l1,l2,q]:=h;let#[a1,a2,a3]:=lay_of l1;let#[b1,b2,b3]:=lay_of l2;let#[as,ra]:=pM I r1 rx a1;let#[bs,rb]:=pM I r2 ry b1;rw[py] at rb b2 b3;simp only[PyData.canLay0] at b2;apply SeqAt.notIn_list_reads rb ra b2 a2 (by have:=Nat.min_le_right (PyData.depthAll (f9 ds)) (py d1).depth;omega) #[.bl _,H,I,rfl,q]
def Sb{K:Fr}:g9 K (Le K neg) (vM neg):=by
 intro H x y d1 d2 f1 f2 d Q r1 r2 e k;ext d2<;>try (ext e;done)
 rename_i ds;have e:(if(dz d1&&dz (.lst ds))=true then some (D.bl (if neg=true then !(f9 ds).any λy=>PyData.eqv y (py d1) else(f9 ds).any λy=>PyData.eqv y (py d1))) else none)=some d:=by ext d1<;>apply e
 by_cases hc:(dz d1&&dz (.lst ds))=true
 .rw[if_pos hc] at e;ext e;let#[c1,c2]:=(aav _ _).mp hc;apply#[d1,ds,f1,f2,r1,r2,c1,c2,k H _ (aN.refl H) (.bl _)]
 .rw[aa0 hc] at e;ext e
def Rp(hu:X.A.units+64<cLine)(ha:FP X a fa)(hb:FP X b fb)(hm:behindInMarks .NotIn b=false:=by rfl):FT X (.Compare a [.NotIn] [b] pos) (tV (e2 (vM true) fa fb)):=kD (aab hu) Sb ha hb hm
def aam(hu:X.A.units+64<cLine)(ha:FP X a fa)(hb:FP X b fb)(hm:behindInMarks .In b=false:=by rfl):FP X (.Compare a [.In] [b] pos) (e2 (vM false) fa fb):=qT (agb hu) Sb ha hb hm
def adp:FP X (.Dict [] [] pos) (eC (.fY [])):=by
 refine#[_,acZ,@λH0 S z aq Y U H Q d tg ok e k p hp=>?_];ext e;have s2:aN H (upd H p (.dT [])):=λb o e=>by rw[aP (dh e hp)];apply e
 apply k _ _ [p] s2 (.fY cg rfl .nil) #[abo.mpr #[(λm=>by ext m),acm],λa m=>by cases aaD.mp m;apply hp]
end Ev
end L2
namespace L2
open PySem PySem.W PyProof.Rows
structure pJ(r:Nat->Nat->Bool)(n:Nat):Prop where
 tr:∀i j k,i<n->j<n->k<n->r i j=true->r j k=true->r i k=true
 tt:∀i j,i<n->j<n->i≠j->r i j=false->r j i=true
def kH(r:Nat->Nat->Bool)(p:Array Nat)(m:Nat):Prop:=∀i j,i<j->j<m->r (p.getD i 0) (p.getD j 0)=true
def yN(r:Nat->Nat->Bool)(p:Array Nat)(m:Nat):Prop:=∀i j,i<j->j<m->r (p.getD j 0) (p.getD i 0)=true
abbrev bI(n:Nat)(p:Array Nat):Prop:=p.Perm (List.range n).toArray
section
variable{p:Array Nat}
def bI.sz(P:bI n p):p.size=n:=by rw[Array.Perm.size_eq P];simp
def getD_at(h:i<p.size):p.getD i 0=p[i]:=by simp[Array.getD,h]
def bI.lt(P:bI n p)(h:i<n):p.getD i 0<n:=by
 have hs:i<p.size:=by rw[bI.sz P];apply h
 rw[getD_at hs];have m:p[i]∈p.toList:=by simp
 have:=(aiN.mp P).mem_iff.mp m;simpa using this
def bI.ne(P:bI n p)(hi:i<n)(hj:j<n)(h:i≠j):p.getD i 0≠p.getD j 0:=λe'=>by
 have hs:i<p.size:=by rw[bI.sz P];apply hi
 have c9:j<p.size:=by rw[bI.sz P];apply hj
 rw[getD_at hs,getD_at c9] at e';have nd:=(aiN.mp P).nodup_iff.mpr (by simpa using List.nodup_range);have w:=ajB.mp nd;rcases Nat.lt_or_gt_of_ne h with q|q
 .exact w i j (by simpa using hs) (by simpa using c9) q (by simpa using e')
 .exact w j i (by simpa using c9) (by simpa using hs) q (by simpa using e'.symm)
def vI(cmp:Nat->Nat->(Bool->Shared->Prop)->Shared->Prop)(r:Nat->Nat->Bool)(n:Nat)(s:Shared):Prop:=∀i j C,i<n->j<n->i≠j->C (r i j) s->cmp i j C s
def kH.snoc(T:pJ r n)(P:bI n p)(h:kH r p m)(h1:1<=m)(hm:m<n)(h2:r (p.getD (m-1) 0) (p.getD m 0)=true):kH r p (m+1):=λi j a b=>by
 by_cases e:j=m
 .subst e
  by_cases e':i=j-1
  .subst e';apply h2
  .exact T.tr _ _ _ (bI.lt P (by lia)) (bI.lt P (by lia)) (bI.lt P (by lia)) (h i (j-1) (by lia) (by lia)) h2
 .exact h i j a (by lia)
def yN.snoc(T:pJ r n)(P:bI n p)(h:yN r p m)(h1:1<=m)(hm:m<n)(h2:r (p.getD m 0) (p.getD (m-1) 0)=true):yN r p (m+1):=λi j a b=>by
 by_cases e:j=m
 .subst e
  by_cases e':i=j-1
  .subst e';apply h2
  .exact T.tr _ _ _ (bI.lt P (by lia)) (bI.lt P (by lia)) (bI.lt P (by lia)) h2 (h i (j-1) (by lia) (by lia))
 .exact h i j a (by lia)
theorem G9(T:pJ r n)(A:vI cmp r n s)(P:bI n p):∀(f m) {G},1<=m->m+f<=n->kH r p m->
  (∀m',m<=m'->m'<=m+f->kH r p m'->(m'=m+f\/r (p.getD m' 0) (p.getD (m'-1) 0)=true)->G m' s)->(kas_asc p f m).kasWp cmp G s
 |0,m,G,_,_,hs,g=>g m (abi _) (abi _) hs (.inl rfl)
 |f+1,m,G,h1,h2,hs,g=>by
  refine A _ _ _ (bI.lt P (by lia)) (bI.lt P (by lia)) (bI.ne P (by lia) (by lia) (by lia)) ?_;cases c:r (p.getD m 0) (p.getD (m-1) 0) with
  |true=>apply g m (abi _) (by lia) hs (.inr c)
  |false=>
   apply G9 T A P f (m+1) (by lia) (by lia) (hs.snoc T P h1 (by lia) (T.tt _ _ (bI.lt P (by lia)) (bI.lt P (by lia)) (bI.ne P (by lia) (by lia) (by lia)) c)) λm' a b c d=>g m' (by lia) (by lia) c (by rw[show m+1+f=m+(f+1) by lia] at d;apply d)
theorem RB(T:pJ r n)(A:vI cmp r n s)(P:bI n p):∀(f m) {G},1<=m->m+f<=n->yN r p m->
  (∀m',m<=m'->m'<=m+f->yN r p m'->G (p,m',0) s)->(kas_desc f p m 0).kasWp cmp G s
 |0,m,G,_,_,hs,g=>g m (abi _) (abi _) hs
 |f+1,m,G,h1,h2,hs,g=>by
  refine A _ _ _ (bI.lt P (by lia)) (bI.lt P (by lia)) (bI.ne P (by lia) (by lia) (by lia)) ?_;cases c:r (p.getD m 0) (p.getD (m-1) 0) with
  |true=>apply RB T A P f (m+1) (by lia) (by lia) (hs.snoc T P h1 (by lia) c) λm' a b d=>g m' (by lia) (by lia) d
  |false=>
   refine A _ _ _ (bI.lt P (by lia)) (bI.lt P (by lia)) (bI.ne P (by lia) (by lia) (by lia)) ?_;rw[T.tt _ _ (bI.lt P (by lia)) (bI.lt P (by lia)) (bI.ne P (by lia) (by lia) (by lia)) c];apply g m (abi _) (by lia) hs
def rev_getD(hm:m<=p.size)(h:i<m):(kas_rev p 0 m).getD i 0=p.getD (m-1-i) 0:=by
 have e:=getElem?_mirror_all (i:=0) hm i;rw[if_pos #[aeQ _,h]] at e;unfold kas_rev;rw[agq,agq,e]
 congr 2;lia
def V2(T:pJ r n)(A:vI cmp r n s)(P:bI n p)(h:1<=n)(g:∀m q,1<=m->m<=n->bI n q->kH r q m->G (m,q) s):(kas_count n p).kasWp cmp G s:=by
 unfold kas_count;rw[KasT.kasWp_bind];refine G9 T A P (n-1) 1 (abi _) (by lia) (λi j a b=>by lia) λm a b hs d=>?_
 by_cases e:m=n
 .subst e;rw[if_pos (by simp)];apply g m p a (abi _) P hs
 .rw[aa0 (by simpa using e)]
  by_cases e1:m > 1
  .rw[if_pos e1];refine A _ _ _ (bI.lt P (by lia)) (bI.lt P (by lia)) (bI.ne P (by lia) (by lia) (by lia)) ?_;rw[hs 0 (m-1) (by lia) (by lia)];apply g m p a (by lia) P hs
  .rw[aa0 e1];obtain rfl:m=1:=by lia
   have d:=d.resolve_left (by lia);unfold kas_descPart;rw[KasT.kasWp_bind];refine RB T A P (n - (1 + 1)) (1 + 1) (by lia) (by lia) (λi j a b=>by
    obtain⟨rfl,rfl⟩:i=0/\j=1:=by lia
    apply d) λm' a' b' hd=>?_
   dsimp only;rw[aa0 (by lia)];unfold kas_tail3;rw[KasT.kasWp_bind];have Q:bI n (kas_rev p 0 m'):=(mirror_perm _ _ _ _).trans P;refine G9 T A Q (n-m') m' (by lia) (by lia) (λi j a b=>?_) λm2 a2 b2 cV _=>g m2 _ (by lia) (by lia) Q cV
   rw[rev_getD (by rw[bI.sz P];lia) (by lia),rev_getD (by rw[bI.sz P];lia) (by lia)];apply hd _ _ (by lia) (by lia)
theorem GK(T:pJ r n)(A:vI cmp r n s)(P:bI n p)(hx:x<n)(hs:kH r p x):∀(f l u) {G},u-l<=f->u<=x->l<=u->(∀i,i<l->r (p.getD i 0) (p.getD x 0)=true)->(∀i,u<=i->i<x->r (p.getD x 0) (p.getD i 0)=true)->
  (∀l,l<=x->(∀i,i<l->r (p.getD i 0) (p.getD x 0)=true)->(∀i,l<=i->i<x->r (p.getD x 0) (p.getD i 0)=true)->G l s)->(kas_place p x f l u).kasWp cmp G s
 |0,l,u,G,h1,h2,h3,lo,hi,g=>g l (by lia) lo λi a b=>hi i (by lia) b
 |f+1,l,u,G,h1,h2,h3,lo,hi,g=>by
  unfold kas_place
  by_cases c:l >= u
  .rw[if_pos c];apply g l (by lia) lo λi a b=>hi i (by lia) b
  .rw[aa0 c];refine A _ _ _ (bI.lt P hx) (bI.lt P (by lia)) (bI.ne P (by lia) (by lia) (by lia)) ?_;cases d:r (p.getD x 0) (p.getD ((l+u) / 2) 0) with
   |true=>
    refine GK T A P hx hs f l ((l+u) / 2) (by lia) (by lia) (by lia) lo (λi a b=>?_) g
    by_cases e:i=(l+u) / 2
    .rw[e];apply d
    .exact T.tr _ _ _ (bI.lt P (by lia)) (bI.lt P (by lia)) (bI.lt P (by lia)) d (hs _ i (by lia) b)
   |false=>
    have d:=T.tt _ _ (bI.lt P (by lia)) (bI.lt P (by lia)) (bI.ne P (by lia) (by lia) (by lia)) d;refine GK T A P hx hs f ((l+u) / 2+1) u (by lia) h2 (by lia) (λi a=>?_) hi g
    by_cases e:i=(l+u) / 2
    .rw[e];apply d
    .exact T.tr _ _ _ (bI.lt P (by lia)) (bI.lt P (by lia)) (bI.lt P (by lia)) (hs i _ (by lia) (by lia)) d
def R9(hx:x<p.size)(hl:l<=x):(bubble p x (x-l)).getD i 0=if i=l then p.getD x 0 else if l<i/\i<=x then p.getD (i-1) 0 else p.getD i 0:=by
 have e:=getElem?_bubble hx (x-l) (by lia) i;rw[show x-(x-l)=l by lia] at e;rw[agq,e]
 by_cases h1:i=l
 .rw[if_pos h1,if_pos h1,agq]
 .rw[aa0 h1,aa0 h1]
  by_cases h2:l<i/\i<=x
  .rw[if_pos h2,if_pos h2,agq]
  .rw[aa0 h2,aa0 h2,agq]
theorem Uj(T:pJ r n)(A:vI cmp r n s):∀(f) (p) (x) {G},bI n p->1<=x->x+f=n->kH r p x->(∀q,bI n q->kH r q n->G q s)->(kas_bin f p x).kasWp cmp G s
 |0,p,x,G,P,_,e,hs,g=>g p P (by rw[<- e];apply hs)
 |f+1,p,x,G,P,h1,e,hs,g=>by
  unfold kas_bin;rw[KasT.kasWp_bind];refine GK T A P (by lia) hs x 0 x (by lia) (abi _) (aeQ _) (λi a=>by lia) (λi a b=>by lia) λl hl lo hi=>?_
  have hz:x<p.size:=by rw[bI.sz P];lia
  refine Uj T A f _ (x+1) ((bubble_perm _ _ _).trans P) (by lia) (by lia) (λi j a b=>?_) g;rw[R9 hz hl,R9 hz hl]
  by_cases i1:i=l
  .rw[if_pos i1,aa0 (by lia),if_pos (by lia)];apply hi _ (by lia) (by lia)
  .rw[aa0 i1]
   by_cases j1:j=l
   .rw[if_pos j1,aa0 (by lia)];apply lo _ (by lia)
   .rw[aa0 j1]
    by_cases i2:l<i/\i<=x
    .rw[if_pos i2,if_pos (by lia)];apply hs _ _ (by lia) (by lia)
    .rw[aa0 i2]
     by_cases j2:l<j/\j<=x
     .rw[if_pos j2];apply hs _ _ (by lia) (by lia)
     .rw[aa0 j2];apply hs _ _ (by lia) (by lia)
def agp(T:pJ r n)(A:vI cmp r n s)(h:1<=n)(g:∀q,bI n q->kH r q n->G q s):(kas_sort n).kasWp cmp G s:=by
 unfold kas_sort;rw[KasT.kasWp_bind];refine V2 T A (Array.Perm.refl _) h λm q a b Q hs=>?_
 by_cases e:m<n
 .dsimp only;rw[if_pos e,Nat.max_eq_left a];apply Uj T A _ q m Q a (by lia) hs g
 .dsimp only;rw[aa0 e];obtain rfl:m=n:=by lia
  apply g q Q hs
end
open PySem PySem.Spec PySem.W PyProof.Rows
def lex(x y:Int×Int):Bool:=decide (x.1<y.1\/x.1=y.1/\x.2<y.2)
def IsPair(h:Heap)(q:Addr)(x:Int×Int):Prop:=∃t u,IsTup h q ([.int x.1 t,.int x.2 u].toArray)
def afc{pr:Nat->Int×Int}(h:∀i j,i<n->j<n->pr i=pr j->i=j):pJ (λi j=>lex (pr i) (pr j)) n where
 tr:=λi j k _ _ _ a b=>by
  have a:=aau a;have b:=aau b;apply aas (by lia)
 tt:=λi j a b ne e=>by
  have e:=ajo e;have n2:¬((pr i).1=(pr j).1/\(pr i).2=(pr j).2):=λz=>ne (h i j a b (Prod.ext z.1 z.2))
  apply aas (by lia)
def aiU(hx:IsPair s.heap x a)(hy:IsPair s.heap y b)(h:Q (lex a b) s):wpAny (model prog w) A (keyLt' (tuples' true) (.ref x) (.ref y)) Q E s:=by
 let#[t,u,o,h1,_,n,h2]:=hx;let#[t',u',o',iJ,_,n',mS]:=hy;refine kat_lt h1 h2 iJ mS (kat_cons (wpAny_eqBool_int (kat_go (λe=>kat_yes (kat_cons (wpAny_eqBool_int (kat_go (λe2=>kat_yes (kat_nil ?_)) λe2=>kat_no (kat_one _ _ (lt_int ?_)))))) λe=>kat_no (oneLt_int ?_))))
 .have e:=eq_of_beq e;have e2:=eq_of_beq e2;have:lex a b=false:=aaR (by omega);rw[this] at h;apply h
 .have e:=eq_of_beq e;have:lex a b=decide (a.2<b.2):=by unfold lex;congr 1;apply propext #[λz=>by omega,λz=>.inr #[e,z]]
  rw[this] at h;apply h
 .have e:=ne_of_beq_false e;have:lex a b=decide (a.1<b.1):=by unfold lex;congr 1;apply propext #[λz=>by omega,.inl]
  rw[this] at h;apply h
theorem O9:∀{qs} {ps},Paired (IsPair h) qs ps->∃fs,KatTups h (qs.map Value.ref) fs/\fs.length=qs.length/\∀v∈fs,∃i t,v=Value.int i t
 |_,_,.nil=>#[[],.nil,rfl,λ_ m=>nomatch m]
 |_,_,.cons r t=>by
  let#[fs,h1,h2,h3]:=O9 t;let#[t,u,o,e1,e2,n,e3]:=r;apply#[_::fs,KatTups.cons e1 e2 e3 rfl h1,by rw[abZ,abZ,h2],λv m=>(aaA.mp m).elim (λz=>#[_,_,z]) (h3 v)]
def abO{a kS:Addr}{vs:List Value}(mD:vs.length<64)(hl:qs.length=vs.length)(hp:Paired (IsPair s.heap) qs ps)(nd:ps.Nodup)
  (hk:s.heap.get? kS=some (seqObj "list" (qs.map Value.ref).toArray e)) (ha:s.heap.get? a=some (seqObj "list" ([].toArray) e1)) (ne:a≠kS)
  (h:∀q:Array Nat,bI vs.length q->kH (λi j=>lex (ps.getD i (0,0)) (ps.getD j (0,0))) q vs.length->
   P (.done (.ret .none)) { s with heap:=(s.heap.update kS (Obj.mapSeq λ_=>([].toArray))).update a (Obj.mapSeq λ_=>(q.toList.map λi=>vs.getD i Value.none).toArray) }) :
  wpAny (model prog w) A (ksk_end a false vs.toArray e1 (.ref kS) (qs.map Value.ref).toArray) P E s:=by
 have D0:(qs.map Value.ref).length=vs.length:=by rw[List.length_map];apply hl
 have tail:∀(st) (q),bI vs.length q->kH (λi j=>lex (ps.getD i (0,0)) (ps.getD j (0,0))) q vs.length->(arrOf st).map (·.2)=(q.toList.map λi=>vs.getD i Value.none).toArray->failedOf st=none->
   wpAny (model prog w) A (ksk_tail a false e1 (.ref kS) st) P E s:=by
  intro st q hq hs ho hf;have s1:=Heap.SameBut.update s.heap kS (Obj.mapSeq λ_=>(([].toArray):Array Value));have UZ:=(s1.2 a ne).trans ha;unfold ksk_tail;dsimp only;refine aaK (listUpdate_at hk rfl ?_ (by rw[abF,D0,aft];lia) (aeQ _));refine aaK (wpAny_letGo ?_);refine aaK (seqEpoch_at UZ rfl ?_);refine aaK (listUpdate_at UZ rfl ?_ (aeQ _) ?_)
  .rw[hf];simp only[bne_self_eq_false,aja,if_false];rw[ho];apply acp (h q hq hs)
  .simp only[aja,if_false];rw[ho,abF,List.length_map,agm,bI.sz hq,aft];lia
 unfold ksk_end;dsimp only;rw[aa0 aaH]
 by_cases h2:vs.toArray.size<2
 .rw[if_pos h2,if_pos h2];refine aaK (acp ?_);rw[StateT.run_pure];refine aaK (acp ?_);dsimp only;rw[abF] at h2;refine tail _ (List.range vs.length).toArray (Array.Perm.refl _) (λi j a b=>by lia) ?_ rfl;have e:=kat_snds D0 (st:=kas_st general' ((qs.map Value.ref).toArray.zip vs.toArray) (List.range vs.length).toArray) rfl;have er:(List.range vs.length).toArray.map (kas_item ((qs.map Value.ref).toArray.zip vs.toArray))=(qs.map Value.ref).toArray.zip vs.toArray:=by
   have:=kas_range ((qs.map Value.ref).toArray.zip vs.toArray);rw[show((qs.map Value.ref).toArray.zip vs.toArray).size=vs.length by simp[hl]] at this;apply this
  rw[<- e];show((qs.map Value.ref).toArray.zip vs.toArray).map (·.2)=((List.range vs.length).toArray.map (kas_item ((qs.map Value.ref).toArray.zip vs.toArray))).map (·.2);rw[er]
 .rw[aa0 h2,aa0 h2];rw[abF] at h2;let#[fs,k1,k2,k3]:=O9 hp;refine aaK (kat_kind k1 (by lia) (λv m=>by let#[i,t,rfl]:=k3 v m;apply Looks.of_pure rfl) (by decide) ?_);refine aaK (aeG (kat_run (Q:=λst s'=>s'=s/\∃q:Array Nat,bI vs.length q/\kH (λi j=>lex (ps.getD i (0,0)) (ps.getD j (0,0))) q vs.length/\(arrOf st).map (·.2)=(q.toList.map λi=>vs.getD i Value.none).toArray/\failedOf st=none)
   (G:=λq s'=>s'=s/\bI vs.length q/\kH (λi j=>lex (ps.getD i (0,0)) (ps.getD j (0,0))) q vs.length) D0 (by lia) mD (λq lQ s' _ ha hf g=>#[g.1,q,g.2.1,g.2.2,kat_snds D0 ha,hf]) ?_) ?_ λ_ _ z=>z)
  .have lp:ps.length=vs.length:=by rw[<- Paired.length hp];apply hl
   refine agp (afc λi j a b e=>?_) (λi j C hi hj _ hc=>?_) (by lia) λq a b=>#[rfl,a,b]
   .have ei:i<ps.length:=by lia
    have ej:j<ps.length:=by lia
    simp only[adM,aa8 ei,aa8 ej,ajm] at e;have w:=ajB.mp nd;rcases Nat.lt_trichotomy i j with q|q|q
    .exact absurd e (w i j ei ej q)
    .exact q
    .exact absurd e.symm (w j i ej ei q)
   .have at_:∀i,i<vs.length->∃x,(qs.map Value.ref).getD i Value.none=.ref x/\IsPair s.heap x (ps.getD i (0,0)):=λi hi=>by
     have lq:i<qs.length:=by lia
     have PR:i<ps.length:=by lia
     refine#[qs[i],by simp[adM,lq],?_];rw[adM,aa8 PR,ajm];have go:∀{qs} {ps},Paired (IsPair s.heap) qs ps->∀(i) (a) (b:i<ps.length),IsPair s.heap qs[i] ps[i]:=by
      intro qs ps r
      induction r with
      |nil=>intro i a;apply absurd a (Nat.not_lt_zero _)
      |cons r t ih=>intro i a b;cases i with
       |zero=>apply r
       |succ i=>apply ih i (by simpa using a) (by simpa using b)
     apply go hp i lq PR
    let#[x,ex,hx]:=at_ i hi;let#[y,ey,hy]:=at_ j hj;show wpAny (model prog w) A (keyLt' _ ((qs.map Value.ref).getD i Value.none) ((qs.map Value.ref).getD j Value.none)) C _ s;rw[ex,ey];apply aiU hx hy hc
  .rintro⟨⟨⟩,st⟩ s' ⟨rfl,q,h1,h3,h4,h5⟩
   apply tail st q h1 h3 h4 h5
theorem DN:∀{K:Fr},K.lookup a=some o->(a,o)∈K
 |[],h=>by ext h
 |(b,u)::r,h=>by
  by_cases e:(a==b)=true
  .simp only[List.lookup,e] at h;ext h;rw[eq_of_beq e];apply aah
  .simp only[List.lookup,(by simpa using e:(a==b)=false)] at h;apply aaf _ (DN h)
def Yc(I:Inv X af U H s)(lk:X.K.lookup f0=some o0)(sh:xu o0=some (cv,q,j8)):∃cc P,cv=.ref cc/\codeHdIn X.K cc P=true/\H P=some (.i0 q j8):=by
 let#[cG,ok]:=(aav _ _).mp I.hq.ok;have cG:=adR.mp ((aav _ _).mp cG).2 (f0,o0) (DN lk);have cG:=cG;rw[sh] at cG;let#[#[cc,P,q',pos'],e]:=ahG.mp (show(D9 X.K (f0,o0)).isSome=true from cG);have hm:(cc,P,q',pos')∈jy X.K:=ai8.mpr #[_,DN lk,e];have e':=e;unfold D9 at e';dsimp only at e';rw[sh] at e'
 split at e'
 .rename_i h;ext h
  split at e'
  .split at e'
   .cases e';refine#[cc,P,rfl,?_,I.hq.lm _ hm]
    split at ok
    .rename_i e;rw[e] at hm;ext hm
    .rename_i r e;rw[e] at hm;cases aaD.mp hm;apply((aav _ _).mp ok).1
    .cases ok
   .cases e'
  .cases e'
 .cases e'
def ahW(I:Inv X af U H s)(lk:X.K.lookup f0=some o0)(sh:xu o0=some (X.env.code,q,j8))(x9:defaultsOf args X.env=([],[]))(vX:closureFor sc X.env=pure oX)(hq:X.env.qual++"<lambda>"=q)
  (h:∀f c' jm pm H' s',Inv X ((f,kla_obj "<lambda>" q args body sc oX pm c' jm)::af) U H' s'->aN H H'->H' c'=some (.jC q)->Q (.ref f) s'):wpAny (model X.prog X.w) A (eval (.Lambda args body sc j8) X.env) Q E s:=by
 refine kla_eval x9 ?_;rw[hq];let#[cc,P,SD,hc,hP]:=Yc I lk sh;let#[ps,eP,s_]:=I.aM P _ hP;have C:=codeHd_of_K I.dJ hc;have g:=I.ok.mod.glob.keeps I.bk;let#[bm,ob,b1,b2,b3,b4,b5,b6]:=I.ok.mod.WV;have nP:∀{b} {o},X.base.get? b=some o->b≠P:=λ{b o} e z=>by
  have:=(I.bs b o e).2;rw[z,hP] at this;ext this
 let#[om,es,ep,em,dm,_]:=id I.ok.mod.glob;have hb:s.heap.BuiltinsAt X.mg P:=#[bm,ob,b1,b2,(λz=>by rw[z,em] at b3;ext b3;rw[dm] at b6;ext b6),nP b3,I.bk _ _ b3,b4,b5,b6]
 have fin:∀(f) (o) (H') (s'),Inv X af U H' s'->s'.heap.get? f=some o->s.heap.objs.size<=f->H' f=none->(∀v,o.data≠.cell v)->Inv X ((f,o)::af) U H' s':=λf o H' s' J e hf hn hd=>by
  refine J.uY λp hp=>?_
  rcases aaA.mp hp with rfl|hp
  .exact#[e,hn,ah7 (acH I.lt hf),I.RJ hf,hd]
  .exact J.pin p (aaJ _ hp)
 rcases s_ with rfl|⟨c',rfl,ua⟩
 .refine kla_makeFunction vX I.ok.glob g SD C eP trivial rfl (nP em) hb λc' jm h' tk hx Cn cY Yh NP=>?_
  have fc:=I.aM.fresh Cn;have ff:=I.aM.fresh (agF (ahM Cn cY));have up:∀{b} {o},H b=some o->upd H c' (.jC q) b=some o:=λ{b o} e=>by rw[aP (dh e fc)];apply e
  have pu:∀(b) (o),b≠P->s.heap.get? b=some o->(h'.push (kla_obj "<lambda>" q args body sc oX ((X.mg "__name__").getD .none) c' jm)).get? b=some o:=λb o n e=>aaq _ (hx b o n e)
  have QD:∀{b},H b=none->b≠P:=λ{b} e z=>by rw[z,hP] at e;ext e
  have J:Inv X af U (upd H c' (.jC q)) { s with heap:=h'.push (kla_obj "<lambda>" q args body sc oX ((X.mg "__name__").getD .none) c' jm),toks:=tk }:=by
   refine I.un #[λb o e n _ _=>pu b o (QD n) e,λb o e n _ _=>#[o.slots,pu b o (QD n) e],λb o e n _=>?_,λb o e _=>?_,λb t e=>up e,λb o u e=>up e,λb ps e=>#[([].toArray),by rw[up e];simp]] λa o e=>?_
   .rw[aP (aco (acH (abb e) Cn))];apply n
   .by_cases z:b=P
    .rw[z];apply#[_,aaq _ NP]
    .exact#[o,pu b o z e]
   .by_cases z:a=c'
    .subst z;rw[cg] at e;ext e;apply Yh.push _
    .rw[aP z] at e
     by_cases z2:a=P
     .subst z2;rw[hP] at e;ext e;apply#[_,aaq _ NP,.inr #[c',by simp,cg]]
     .refine(I.aM a o e).gP (λb u yk q=>pu b u ?_ q) (λb q=>up q) λb t q=>up q
      rcases yk with z3|z3
      .rw[z3];apply z2
      .intro z4;rw[z4,hP] at z3;ext z3
  refine h _ c' jm _ _ _ (fin _ _ _ _ J (abp _ rfl) (agF (ahM Cn cY)) ?_ (λv z=>by ext z)) (λb o e=>up e) cg;rw[aP (ah7 cY)];apply ff
 .refine kla_makeFunctionHit vX I.ok.glob g SD C eP (TriplesOk_snoc _ _ _ [] trivial) (codeAmong_snoc [] trivial rfl) hb λjm h' tk hk hsz=>?_
  apply h _ c' jm _ H _ (fin _ _ _ _ (I.kept λb u e=>aaq _ (hk b u e)) (abp _ rfl) hsz (I.aM.fresh hsz) λv z=>by ext z) (aN.refl H) ua
def uh(X:Cx)(A:Around)(x y:Str)(q:Str)(sc:Scope)(f:Addr)(cd:Value)(oX:List (Str×Addr))(s:Shared)(H:Hp):Cx where
 prog:=X.prog
 w:=X.w
 K:=X.K
 mg:=X.mg
 base:=X.base
 A:=A.deeper (envX q sc s.heap.objs.size f cd oX)
 N:=[x,y]
 dH:=s
 pG:=H
 env:=envX q sc s.heap.objs.size f cd oX
 outer:=X.stack
 stack:=envX q sc s.heap.objs.size f cd oX::X.stack
 ex:=[]
 fn:=λ_=>false
 calm:=X.calm
 pn:=[]
 xe:=λ_ _=>False
structure DE(sc:Scope)(args:Arguments)(x y:Str):Prop where
 kind:sc.kind=.function
 co:sc.isCoroutine=false
 gen:sc.isGenerator=false
 zK:∀z∈sc.names,z.2≠.cell
 loc:sc.names.lookup x=some .local
 zE:sc.names.lookup y=some .free
 one:∀z∈sc.names,z.2=.free->z.1=y
 bnd:∀(q) (body) (oX) (pm aZ jm u),bindArgs (kla_fn "<lambda>" q args body sc oX pm aZ jm) #[[u],[]]=pure [(x,u)]
def aaj{j:Nat}(I:Inv X af U H s)(S:DE sc args x y)(hf:(f,kla_obj "<lambda>" q args body sc [(y,c)] pm c' jm)∈af)(hc:H c'=some (.jC q))
  (pX:X.env.cells.lookup y=some c) (hj:X.N[j]? = some y) (hv:U[j]? = some (some v1)) (sI:X.env.scope.names.lookup y=some .cell) (ru:RelV v0 u) (hA:A.frames=X.A.frames) (hh:A.handled=X.A.handled) (hr:A.depth<recursionLimit)
  (hb:PE (uh X A x y q sc f (.ref c') [(y,c)] s H) body te) (h:te [some v0,some v1] H Q):wpAny (model X.prog X.w) A (call (.ref f) [u]) (EP X af U Q) E s:=by
 have Xl:=(I.pin _ (aaJ _ hf)).1;refine wpAny_call (ajq (R:=λr s'=>match r with|.ok (.ret v)=>CE X.stack X.prog X.w H s Q v s'|_=>False) ?_ λr s' z=>?_)
 .refine kla_callFunE hr Xl rfl S.co S.gen rfl (I.aM c' _ hc) ?_;rw[S.bnd];refine acp (wpAny_newFunctionEnv S.zK (λz m=>by cases aaD.mp m;apply S.loc) (λCN vf GN=>?_) S.kind);have yG:∀b o,s.heap.get? b=some o->CN.get? b=some o:=λb o e=>GN.extBut b o (aco (abb e)) (aaq _ e)
  refine#[(I.ok.mod.nolimit.keeps I.bk).keeps yG,?_];have cl:∀{z} {d},List.lookup z [(y,c)]=some d->z=y/\d=c:=λ{z d} e=>by
   by_cases w:(z==y)=true
   .simp only[List.lookup,w] at e;ext e;apply#[eq_of_beq w,rfl]
   .simp only[List.lookup,(by simpa using w:(z==y)=false)] at e;ext e
  have cy:List.lookup y [(y,c)]=some c:=by simp[List.lookup]
  have uu:∀b:Addr,b∉(uh X A x y q sc f (.ref c') [(y,c)] s H).ex:=λb z=>absurd (show b∈([]:List Addr) from z) (by simp)
  have J:Inv (uh X A x y q sc f (.ref c') [(y,c)] s H) [] [some v0,some v1] H { s with heap:=CN,toks:=s.toks+[(x,u)].length }:=by
   refine#[#[I.ok.mod,S.kind,rfl,rfl,abi _,λa b d h1 h2=>?_,λa ha=>?_,(λa d h _=>by ext h),λhc=>?_,Around.frames_deeper (hA.trans I.ok.frames),.inr #[rfl,rfl],λb z=>absurd z (uu b),I.bs,aeC I.ok.jI I.sz,λb _ _=>uu b,λb z=>absurd z (uu b),I.stack,I.wc],
    rfl,I.bare,Un.kept yG,#[_,vf,λi z v h1 h2 h3=>?_],λz d e=>?_,I.aM.fresh (abi _),λz d e=>?_,λp hp=>absurd (show p∈([]:List (Addr×Obj)) from hp) (by simp),I.aM.kept yG,rfl,#[?_,I.hq.ok,I.hq.lm]]
   .exact(cl h1).1.trans (cl h2).1.symm
   .have ha:=ha;rcases ha with ha|ha
    .exact absurd rfl (S.zK _ (PySem.mem_of_lookup ha))
    .have e:a=y:=S.one _ (PySem.mem_of_lookup ha) rfl;rw[e];apply#[c,cy]
   .have:=I.ok.hd hc;apply hh.trans this
   .match i,h1,h2 with
    |0,h1,h2=>
     ext h1;ext h2;refine#[u,ru,.inl #[S.loc,by simp[List.lookup]]]
    |1,h1,h2=>
     ext h1;ext h2;let#[m,_,hl]:=I.loc;let#[u1,r1,l]:=hl j y v1 hj hv (.inr (.inl sI));refine#[u1,r1,.inr #[.inr S.zE,c,cy,?_]];rcases l with⟨kk,_⟩|⟨_,d,e,o,ho,hd⟩
     .rw[show X.env.kindOf y=some .cell from sI] at kk;ext kk
     .rw[pX] at e;ext e;apply#[o,yG _ _ ho,hd]
    |i+2,h1,h2=>apply absurd h2 (by simp)
   .rw[(cl e).2];let#[w,o,ho,hd]:=I.cell y c pX;apply#[w,o,yG _ _ ho,hd]
   .rw[(cl e).2];apply I.iC y c pX
   .have:=I.hq.hd;unfold uD at this ⊢;rw[show(uh X A x y q sc f (.ref c') [(y,c)] s H).A.handled=X.A.handled from hh];apply this
  refine kla_codeExpr (aeG (hb [] _ _ H _ J h) (?_) λ_ _ z=>z.elim)
  rintro v s' ⟨v',H',J',rv,q'⟩
  apply#[v',H',J'.os,J'.bare,J'.base,J'.aM,rv,q']
 .cases r with
  |error e=>apply z.elim
  |ok fl=>
   cases fl with
   |ret w=>apply I.after z
   |next=>apply z
   |brk=>apply z
   |cont=>apply z
def acK(r:aW [.int a,.int b] ay):∃t u,ay=[.int a t,.int b u]:=by
 cases r with
 |cons h1 r=>cases r with
  |cons h2 r=>ext r;let#[t,rfl]:=h1;let#[u,rfl]:=h2;apply#[t,u,rfl]
theorem IntsAre.at{vs:List Value}{ns:List Int}(h:IntsAre vs ns):∀{j:Nat} {v},vs[j]? = some v->∃n t,ns[j]? = some n/\v=.int n t:=by
 induction h with
 |nil=>intro j v e;simp at e
 |cons n t _ ih=>
  intro j v e;cases j with
  |zero=>ext e;apply#[n,t,rfl,rfl]
  |succ j=>apply ih (by simpa using e)
def Paired.ab0{α β:Type}{R:α->β->Prop}{l:List α}{m:List β}{a:α}{b:β}(h:Paired R l m)(r:R a b):Paired R (l++[a]) (m++[b]):=by
 induction h with
 |nil=>apply .cons r .nil
 |cons r' _ ih=>apply .cons r' ih
theorem NH(h:IntsAre ay ns):∀(l:List Nat),(∀i∈l,i<ns.length)->aW ((l.map λi=>ns.getD i 0).map V.int) (l.map λi=>ay.getD i Value.none)
 |[],_=>.nil
 |i::l,hl=>by
  have hi:=hl i aah;have Nz:i<ay.length:=by rw[h.length];apply hi
  let#[n,t,e1,e2]:=IntsAre.at h (aa8 Nz);refine .cons ?_ (NH h l λj m=>hl j (aaf _ m));show RelV (V.int (ns.getD i 0)) (ay.getD i Value.none);rw[adM,adM,e1,aa8 Nz,e2];apply#[t,rfl]
def Yl{ns:List Int}{q:Array Nat}(P:bI ns.length q):(q.toList.map λi=>ns.getD i 0).Perm ns:=by
 have h:=(aiN.mp P).map λi=>ns.getD i 0
 have e:((List.range ns.length).toArray.toList.map λi=>ns.getD i 0)=ns:=by
  refine List.ext_getElem (by simp) λi h1 h2=>?_
  simp[adM,h2]
 rw[e] at h;apply h
section
variable{j:Nat}{te:Addr->Addr->Shared->Hp->TE}
def afG{H2:Hp}{p f c':Addr}{jm pm:Value}{v1:V}{ns:List Int}{pr:Int->Int×Int}{Q:VK}(I:Inv X ((f,kla_obj "<lambda>" q args body sc [(y,c)] pm c' jm)::af) U H2 s)(S:DE sc args x y)(hc:H2 c'=some (.jC q))
  (pX:X.env.cells.lookup y=some c) (hj:X.N[j]? = some y) (hv:U[j]? = some (some v1)) (sI:X.env.scope.names.lookup y=some .cell) (zZ:X.A.in1.in1.depth<recursionLimit)
  (hb:∀f c' s H,PE (uh X X.A.in1.in1 x y q sc f (.ref c') [(y,c)] s H) body (te f c' s H)) (hq:cH X.K H2 p (ns.map V.int)) (mD:ns.length<64) (nd:(ns.map pr).Nodup)
  (ht:∀s H3,aN H2 H3->∀n∈ns,te f c' s H3 [some (.int n),some v1] H3 λv H4=>∃k,v=.ref k/\cO X.K H4 k [.int (pr n).1,.int (pr n).2]/\aN H3 H4)
  (hQ:∀(Hf) (D) (fU:List Int),aN H2 Hf->H2 D=none->Hf D=some (.lst (fU.map V.int))->fU.Perm ns->fU.Pairwise (λa b=>lex (pr a) (pr b)=true)->Q (.ref D) Hf) :
  wpAny (model X.prog X.w) X.A (call (.builtin "sorted") [.ref p] [(Str.ofString "key",.ref f)]) (EP X af U Q) X.xe s:=by
 let#[ay,ri,pl,hz]:=I.list hq;have hi:=intsAre_of ri;have li:=hi.length;have zl:ay.length<=sizeLine:=by rw[aft];lia
 refine call_function_entry_kw kind_sorted plain_sorted entry_sorted (ksk_s1 _ _) ?_;unfold Builtin.«sorted»;refine aaK (acp ?_);refine aaK (collect_list pl.isList ?_ zl);refine aaK (wpAny_newList ?_ zl);generalize Qa:(s.heap.push (seqObj "list" ([].toArray) 0)).update s.heap.objs.size (Obj.mapSeq (·++ay.toArray))=h3;have k3:∀b o,s.heap.get? b=some o->h3.get? b=some o:=λb o e=>by
  rw[<- Qa,aip _ _ _ _ (aco (abb e))];apply aaq _ e
 have z3:h3.objs.size=s.heap.objs.size+1:=by rw[<- Qa,Heap.size_update,size_push']
 have hD:(h3.push (seqObj "list" ay.toArray 0)).get? h3.objs.size=some (seqObj "list" ay.toArray 0):=abp _ rfl;refine aaK (ai4 (wpAny_call_entry_kw slot_list_sort #[_,hD,rfl] entry_list_sort ?body (ksk_l1 _ _)))
 case body=>
  rw[ksk_t1];obtain⟨e1,Ry⟩:∃e1,((h3.push (seqObj "list" ay.toArray 0)).update h3.objs.size (Obj.mapSeq λ_=>(([].toArray):Array Value))).get? h3.objs.size=some (seqObj "list" ([].toArray) e1):=#[_,get?_update_seq hD λ_=>([].toArray)]
  unfold ksk_tree;refine aaK (listItems_at hD rfl ?_);refine aaK (listUpdate_at hD rfl ?_ (by rw[abF];apply zl) (aeQ _));refine aaK (seqEpoch_at Ry rfl ?_);refine aaK (wpAny_newTuple ?_ (by show ay.length<=_;apply zl));refine aaK (wpAny_newList ?_ (aeQ _));refine ai4 ?_;generalize Jc:((h3.push (seqObj "list" ay.toArray 0)).update h3.objs.size (Obj.mapSeq λ_=>(([].toArray):Array Value))).push (seqObj "tuple" ay.toArray 0)=h6;have z6:h6.objs.size=s.heap.objs.size+3:=by rw[<- Jc,size_push',Heap.size_update,size_push',z3]
  have k6:∀b o,s.heap.get? b=some o->h6.get? b=some o:=λb o e=>by
   have cY:=abb e;rw[<- Jc];refine aaq _ ?_;rw[aip _ _ _ _ (aco (acH cY (by rw[z3];apply ahv _)))];apply aaq _ (k3 b o e)
  have hD6:h6.get? h3.objs.size=some (seqObj "list" ([].toArray) e1):=by rw[<- Jc];apply aaq _ Ry
  generalize hDe:h3.objs.size=D at *;generalize hKe:h6.objs.size=kS at *;have fD:=I.rZ (H':=λ_=>none) (b:=D) (by lia) rfl;have fK:=I.rZ (H':=λ_=>none) (b:=kS) (by lia) rfl;have LC:D≠kS:=by lia
  have Lo:∀{H:Hp}{s':Shared} {b} {o},ju X ((f,kla_obj "<lambda>" q args body sc [(y,c)] pm c' jm)::af) (λ_=>none) b->H b=none->s'.heap.get? b=some o->(∀v,o.data≠.cell v)->
    s'.heap.get? b=some o/\H b=none/\b≠X.env.locals/\b∉X.fs/\∀v,o.data≠.cell v:=λF a b d=>#[b,a,F.2.1,F.2.2.1,d]
  have J0:Inv X ((kS,seqObj "list" (List.map Value.ref []).toArray 0)::(D,seqObj "list" ([].toArray) e1)::(f,kla_obj "<lambda>" q args body sc [(y,c)] pm c' jm)::af) U H2 { s with heap:=h6.push (seqObj "list" ([].toArray) 0) }:=by
   have J:=I.kept (h':=h6.push (seqObj "list" ([].toArray) 0)) (t':=s.toks) λb o e=>aaq _ (k6 b o e)
   refine J.uY λp hp=>?_
   rcases aaA.mp hp with rfl|hp
   .exact Lo fK (I.aM.fresh (by lia)) (by rw[<- hKe];apply abp _ rfl) (λv z=>by ext z)
   .rcases aaA.mp hp with rfl|hp
    .exact Lo fD (I.aM.fresh (by lia)) (aaq _ hD6) (λv z=>by ext z)
    .exact J.pin p (aaJ _ hp)
  unfold ksk_rest;refine aaK (wpAny_rule ?_);rw[List.forIn_toArray];refine aaK (ksk_fold (λi s'=>∃(H:Hp) (qs:List Addr) (e:Nat),Inv X ((kS,seqObj "list" (qs.map Value.ref).toArray e)::(D,seqObj "list" ([].toArray) e1)::(f,kla_obj "<lambda>" q args body sc [(y,c)] pm c' jm)::af) U H s'/\aN H2 H/\
   Paired (λk n=>cO X.K H k [.int (pr n).1,.int (pr n).2]) qs (ns.take i)) ay 0 _ #[H2,[],0,J0,aN.refl _,.nil] (λi u s' hu hI=>?_) λs' hI=>?_)
  .rw[ajI] at hI ⊢;let#[H,qs,e,J,sm,pd]:=hI;let#[n,t,en,rfl]:=IntsAre.at hi hu;have ln:=Paired.length pd;have xh:=(acS.mp en).1;rw[aiX] at ln;refine aaK (wpAny_attempt (aeG (aaj (v0:=.int n) (E:=λ_ _=>False) J S (aaf _ (aaf _ aah)) (sm _ _ hc) pX hj hv sI #[t,rfl] rfl rfl zZ (hb f c' s' H) (ht s' H sm n (ah6 en))) (λk iD hk=>?_) λ_ _ z=>z.elim));let#[v,H',J',rv,k',rfl,sq,yp]:=hk;obtain rfl:k=.ref k':=rv;have pk:=(J'.pin _ (aaJ _ aah))
   have ea:((qs.map Value.ref).toArray).push (.ref k')=((qs++[k']).map Value.ref).toArray:=by simp
   obtain⟨c2,K8⟩:∃c2,(iD.heap.update kS (Obj.mapSeq (·.push (.ref k')))).get? kS=some (seqObj "list" ((qs++[k']).map Value.ref).toArray c2):=#[_,by rw[<- ea];apply get?_update_seq pk.1 (·.push (.ref k'))]
   dsimp only;refine aaK (listUpdate_at pk.1 rfl ?_ (by rw[abF,List.length_map,ln,aft];lia) (aeC (Nat.le_of_eq (Array.size_push ..)) (by rw[abF,List.length_map,ln,aft];lia)));refine acp #[rfl,H',qs++[k'],c2,?_,sm.trans yp,?_]
   .have J1:=J'.uY λp hp=>J'.pin p (aaJ _ (aaf _ hp))
    have J2:=J1.turned (h':=iD.heap.update kS (Obj.mapSeq (·.push (.ref k')))) (t':=iD.toks) (λb o n e=>(aip _ _ _ _ n).trans e) pk.2.1 fK.2.1 fK.2.2.2.1 fK.2.2.2.2.1 λp hp=>by
     rcases abc.mp hp with hp|hp
     .exact fK.2.2.2.2.2 p (aaL _ hp)
     .rcases aaA.mp hp with rfl|hp
      .exact LC
      .exact fK.2.2.2.2.2 p (aaJ _ hp)
    refine J2.uY λp hp=>?_
    rcases aaA.mp hp with rfl|hp
    .exact Lo fK pk.2.1 K8 (λv z=>by ext z)
    .exact J2.pin p (aaJ _ hp)
   .rw[List.take_succ,en];apply Paired.ab0 (Paired.DL pd λk n r=>by
     rcases r with(r|⟨o,r⟩)|r
     .exact .inl (.inl (yp _ _ r))
     .exact .inl (.inr #[o,yp _ _ r])
     .exact .inr r) sq
  .rw[ajI] at hI;let#[H,qs,e,J,sm,pd]:=hI;rw[li,List.take_length] at pd;have lq:=Paired.length pd;have pk:=(J.pin _ (aaJ _ aah))
   have pD:=(J.pin _ (aaJ _ (aaf _ aah)))
   refine aaK (listItems_at pk.1 rfl ?_);have pp:∀{l} {qs},Paired (λk n=>cO X.K H k [.int (pr n).1,.int (pr n).2]) qs l->Paired (IsPair s'.heap) qs (l.map pr):=by
    intro l qs r
    induction r with
    |nil=>apply .nil
    |cons r _ ih=>
     refine .cons ?_ ih;let#[it,rv,tp,_]:=J.tuple r;let#[t,u,rfl]:=acK rv;apply#[t,u,tp]
   refine abO (by lia) (by rw[lq,li]) (pp pd) nd pk.1 pD.1 LC λq2 P2 S2=>?_
   rw[li] at P2 S2;have ql:∀i∈q2.toList,i<ns.length:=λi m=>by
    have:=(aiN.mp P2).mem_iff.mp m;simpa using this
   refine#[_,rfl,acp #[_,rfl,?_]];have J1:=J.uY λp hp=>J.pin p (aaJ _ (aaf _ (aaf _ (aaf _ hp))))
   have np:∀{b},ju X ((f,kla_obj "<lambda>" q args body sc [(y,c)] pm c' jm)::af) (λ_=>none) b->∀p∈X.pn++af,p.1≠b:=λF p hp=>F.2.2.2.2.2 p ((abc.mp hp).elim (λz=>aaL _ z) λz=>aaJ _ (aaf _ z))
   have J2:=J1.turned (h':=s'.heap.update kS (Obj.mapSeq λ_=>([].toArray))) (t':=s'.toks) (λb o n e=>(aip _ _ _ _ n).trans e) pk.2.1 fK.2.1 fK.2.2.2.1 fK.2.2.2.2.1 (np fK);have J3:=J2.turned (h':=(s'.heap.update kS (Obj.mapSeq λ_=>([].toArray))).update D (Obj.mapSeq λ_=>(q2.toList.map λi=>ay.getD i Value.none).toArray)) (t':=s'.toks) (λb o n e=>(aip _ _ _ _ n).trans e) pD.2.1 fD.2.1 fD.2.2.2.1 fD.2.2.2.2.1 (np fD);have hDf:=get?_update_seq (h:=s'.heap.update kS (Obj.mapSeq λ_=>([].toArray))) ((aip _ _ _ _ LC).trans pD.1) λ_=>(q2.toList.map λi=>ay.getD i Value.none).toArray
   refine#[.ref D,upd H D (.lst ((q2.toList.map λi=>ns.getD i 0).map V.int)),J3.DY pD.2.1 #[?_,fD.2.1,fD.2.2.2.2.1,np fD] #[?_,_,_,NH hi _ ql,hDf],rfl,hQ _ D _ (λb o e=>?_) ?_ cg (Yl P2) ?_]
   .exact ajy (by have:=I.sz;lia)
   .rw[List.length_map,List.length_map,agm,bI.sz P2,aft];lia
   .rw[aP (dh (sm b o e) pD.2.1)];apply sm b o e
   .cases e:H2 D with
    |none=>rfl
    |some o=>have:=sm D o e;rw[pD.2.1] at this;ext this
   .rw[ajB];intro i k hi hk hik;have hq:∀i,i<ns.length->(hx:i<(q2.toList.map λi=>ns.getD i 0).length)->pr ((q2.toList.map λi=>ns.getD i 0)[i])=(ns.map pr).getD (q2.getD i 0) (0,0):=λi hi hx=>by
     have hs:i<q2.size:=by rw[bI.sz P2];apply hi
     have cY:=bI.lt P2 hi;rw[List.getElem_map,getD_at hs];rw[getD_at hs] at cY;simp[adM,cY]
    have hz:(q2.toList.map λi=>ns.getD i 0).length=ns.length:=by rw[List.length_map,agm,bI.sz P2]
    rw[hq i (by lia) hi,hq k (by lia) hk];apply S2 i k hik (by lia)
def NB(K:Fr)(j:Nat)(te:Addr->Addr->Shared->Hp->TE)(U:St)(Q:VK)(x:V)(H1:Hp):Prop:=∃(p:Addr) (ns:List Int) (pr:Int->Int×Int) (v1:V),x=.ref p/\cH K H1 p (ns.map V.int)/\ns.length<64/\(ns.map pr).Nodup/\U[j]? = some (some v1)/\
 (∀f c' s H3,aN H1 H3->∀n∈ns,te f c' s H3 [some (.int n),some v1] H3 λv H4=>∃k,v=.ref k/\cO K H4 k [.int (pr n).1,.int (pr n).2]/\aN H3 H4)/\
 ∀(Hf) (D) (fU:List Int),aN H1 Hf->H1 D=none->Hf D=some (.lst (fU.map V.int))->fU.Perm ns->fU.Pairwise (λa b=>lex (pr a) (pr b)=true)->Q (.ref D) Hf
def tSK(K:Fr)(j:Nat)(ta:TE)(te:Addr->Addr->Shared->Hp->TE):TE:=λU H Q=>ta U H (NB K j te U Q)
def adi{a:Expr}{ta:TE}{p kp pos j8:Pos}{f0:Addr}{o0:Obj}(hm:X.mg "sorted"=none)(ha:PE X a ta)(S:DE sc args x y)(lk:X.K.lookup f0=some o0)(sh:xu o0=some (X.env.code,q,j8))(hq:X.env.qual++"<lambda>"=q)(vX:closureFor sc X.env=pure [(y,c)])
  (pX:X.env.cells.lookup y=some c) (hj:X.N[j]? = some y) (sI:X.env.scope.names.lookup y=some .cell) (zZ:X.A.in1.in1.depth<recursionLimit) (hb:∀f c' s H,PE (uh X X.A.in1.in1 x y q sc f (.ref c') [(y,c)] s H) body (te f c' s H))
  (x9:defaultsOf args X.env=([],[]):=by rfl) (hg:Gl X "sorted":=by rfl) (hs:starEach [a] X.env=[(false,eval a X.env)]:=by rfl)
  (h1:backTo pos (starEach [a] X.env)=(false,eval a X.env)::backTo pos (starEach [] X.env):=by rfl) (h2:(backTo pos (starEach [a] X.env)).any (·.1)=false:=by rfl)
  (h3:(backToKw pos (keywordEach [#[some "key",.Lambda args body sc j8,kp]] X.env)).all (·.1.isSome)=true:=by rfl) (h4:(backToKw pos (keywordEach [#[some "key",.Lambda args body sc j8,kp]] X.env)).any (·.1.isNone)=false:=by rfl)
  (h5:(backToKw pos (keywordEach [#[some "key",.Lambda args body sc j8,kp]] X.env)).filterMap (·.1)=[("key":Str)]:=by rfl) :
  PE X (.Call (.Name "sorted" p) [a] [#[some "key",.Lambda args body sc j8,kp]] pos) (tSK X.K j ta te):=by
 intro af s U H Q I h;refine agO (qw I hg hm (show bootBuiltins "sorted"=some (.builtin "sorted") by decide +kernel) ?_ (by decide) (by decide));refine callWith_kw ?_ h1 h2 h3 h4;rw[h5];refine xT (dX ha fT hs pos af s U H (λvs H1=>match vs with|[x]=>NB X.K j te U Q x H1|_=>False) I h) λus s1 vs H1 I1 rv q1=>?_
 rcases vs with _|⟨x,_|⟨x2,r2⟩⟩
 .exact q1.elim
 .let#[u,rfl,ru]:=vals1 rv;let#[p,ns,pr,v1,rfl,lZ,mD,nd,hv,ht,hQ]:=q1;ext ru;refine kws_cons (ahW I1 lk sh x9 vX hq λf c' jm pm H' s' J sm hc=>kws_nil ?_);refine afG J S hc pX hj hv sI zZ hb (lZ.elim (λz=>.inl (z.elim (λz=>.inl (sm _ _ z)) λ⟨o,z⟩=>.inr #[o,sm _ _ z])) .inr) mD nd (λs H3 yp=>ht f c' s H3 (sm.trans yp)) λHf D fU s1 n1=>hQ Hf D fU (sm.trans s1) ?_
  cases e:H1 D with
  |none=>rfl
  |some o=>have:=sm D o e;rw[n1] at this;ext this
 .exact q1.elim
end
end L2
namespace L2.Ev
open PySem PySem.Spec PyProof.Rows
def xr(pr:Int->Int×Int)(x:Int):List Int->List Int
 |[]=>[x]
 |y::r=>if lex (pr x) (pr y)=true then x::y::r else y::xr pr x r
def iM(pr:Int->Int×Int):List Int->List Int
 |[]=>[]
 |x::r=>xr pr x (iM pr r)
theorem Eo(x:Int):∀l:List Int,(xr pr x l).Perm (x::l)
 |[]=>.refl _
 |y::r=>by
  unfold xr
  split
  .exact .refl _
  .exact((Eo x r).cons y).trans (.swap x y r)
theorem qP:∀l:List Int,(iM pr l).Perm l
 |[]=>.refl _
 |x::r=>(Eo x (iM pr r)).trans ((qP r).cons x)
def lex_trans(h:lex a b=true)(g:lex b c=true):lex a c=true:=by
 have h:=aau h;have g:=aau g;apply aas (by lia)
def Ze(h:a≠b)(g:¬lex a b=true):lex b a=true:=by
 have n2:¬(a.1=b.1/\a.2=b.2):=λz=>h (Prod.ext z.1 z.2)
 have g:¬(a.1<b.1\/a.1=b.1/\a.2<b.2):=λz=>g (aas z)
 apply aas (by omega)
theorem M4(x:Int):∀{l},(∀y∈l,pr x≠pr y)->l.Pairwise (λa b=>lex (pr a) (pr b)=true)->(xr pr x l).Pairwise (λa b=>lex (pr a) (pr b)=true)
 |[],_,_=>ajk _ _
 |y::r,n,h=>by
  let#[h1,h2]:=aee.mp h;unfold xr
  split
  .rename_i hx;apply aee.mpr #[λz m=>(aaA.mp m).elim (λe=>e ▸ hx) λm=>lex_trans hx (h1 z m),h]
  .rename_i hx;refine aee.mpr #[λz m=>?_,M4 x (λy m=>n y (aaf _ m)) h2];rcases aaA.mp ((Eo x r).mem_iff.mp m) with e|m
   .rw[e];apply Ze (n y aah) hx
   .exact h1 z m
theorem IP:∀{l},(l.map pr).Nodup->(iM pr l).Pairwise (λa b=>lex (pr a) (pr b)=true)
 |[],_=>.nil
 |x::r,n=>by
  rw[aar] at n;let#[n1,n2]:=abo.mp n;apply M4 x (λy m e=>n1 (abn.mpr #[y,(qP r).mem_iff.mp m,e.symm])) (IP n2)
def R5(p:a.Perm b)(n:(b.map pr).Nodup)(s:a.Pairwise (λa b=>lex (pr a) (pr b)=true)):a=iM pr b:=by
 have q:a.Perm (iM pr b):=p.trans (qP b).symm;refine q.eq_of_pairwise (λx y _ _ h1 h2=>?_) s (IP n);have h1:=aau h1;have h2:=aau h2
 lia
def sJ(fb:EF)(dc:D)(n:Int):Option (Int×Int):=match fb [some (.int n,.own),some (dc,.sh [])] with
 |some (.tup [.int a,.int b],_)=>some (a,b)
 |_=>none
def wZ(fb:EF)(dc:D)(n:Int):Int×Int:=(sJ fb dc n).getD (0,0)
def Jf(j:Nat)(fa fb:EF):EF:=λY=>match fa Y,Y[j]? with
 |some (.lst ds,_),some (some (dc,_))=>match fN ds with
  |some ns=>if ns.length<64/\(ns.map (wZ fb dc)).Nodup/\∀n∈ns,(sJ fb dc n).isSome=true then some (.lst ((iM (wZ fb dc) ns).map D.int),.own) else none
  |none=>none
 |_,_=>none
def abE(j:Nat)(hm:X.mg "sorted"=none)(ha:FP X a fa)(S:DE sc args x y)(lk:X.K.lookup f0=some o0)(sh:xu o0=some (X.env.code,q,j8))(zZ:X.A.in1.in1.depth<recursionLimit)
  (hb:∀f c' s H,FP (uh X X.A.in1.in1 x y q sc f (.ref c') [(y,c)] s H) body fb) (hq:X.env.qual++"<lambda>"=q:=by rfl) (vX:closureFor sc X.env=pure [(y,c)]:=by rfl)
  (pX:X.env.cells.lookup y=some c:=by rfl) (hj:X.N[j]? = some y:=by rfl) (sI:X.env.scope.names.lookup y=some .cell:=by rfl)
  (x9:defaultsOf args X.env=([],[]):=by rfl) (hg:Gl X "sorted":=by rfl) (hs:starEach [a] X.env=[(false,eval a X.env)]:=by rfl)
  (h1:backTo pos (starEach [a] X.env)=(false,eval a X.env)::backTo pos (starEach [] X.env):=by rfl) (h2:(backTo pos (starEach [a] X.env)).any (·.1)=false:=by rfl)
  (h3:(backToKw pos (keywordEach [#[some "key",.Lambda args body sc j8,kp]] X.env)).all (·.1.isSome)=true:=by rfl) (h4:(backToKw pos (keywordEach [#[some "key",.Lambda args body sc j8,kp]] X.env)).any (·.1.isNone)=false:=by rfl)
  (h5:(backToKw pos (keywordEach [#[some "key",.Lambda args body sc j8,kp]] X.env)).filterMap (·.1)=[("key":Str)]:=by rfl) :
  FP X (.Call (.Name "sorted" p) [a] [#[some "key",.Lambda args body sc j8,kp]] pos) (Jf j fa fb):=by
 let#[ta,pa,sa]:=ha;refine#[_,adi hm pa S lk sh hq vX pX hj sI zZ (λf c' s H=>(hb f c' s H).choose_spec.1) x9 hg hs h1 h2 h3 h4 h5,@λH0 S' z aq Y U H Q d tg ok e k=>?_];unfold Jf at e
 split at e
 .rename_i ds t1 dc t2 e1 e2
  split at e
  .rename_i ns vf
   split at e
   .rename_i hc;ext e;let#[mD,nd,hk]:=hc;refine sa ok e1 λH1 v fp s1 r1 g1=>?_
    let#[l,xs,f',rfl,lZ,rs,_]:=r1.fq;have ex:=uQ rs vf;subst ex;let#[vc,fc,V_,rc,_]:=ok.sl j dc t2 e2;refine#[l,ns,wZ fb dc,vc,rfl,lZ,mD,nd,V_,λf c' s H3 s3 n mn=>?_,λHf D fU sf nD hD pm st=>?_]
    .let#[kk,ek]:=ahG.mp (hk n mn);have CJ:=ek;unfold sJ at CJ
     split at CJ
     .rename_i a b tb eb;ext CJ;have iG:Ok X.K H3 [] (λ_=>none) [] [some (.int n,.own),some (dc,.sh [])] [some (.int n),some vc] H3:=by
       refine#[λi d t e=>?_,(λp m=>nomatch m),(λa j e=>nomatch e),λa o e _=>e,rfl]
       match i,e with
       |0,e=>ext e;apply#[_,[],rfl,.int n,acm,λa m=>nomatch m]
       |1,e=>ext e;apply#[vc,fc,rfl,(rc.same s1).same s3,λa m j e=>nomatch e]
       |i+2,e=>apply absurd e (by simp)
      refine(hb f c' s H3).choose_spec.2 iG eb λH4 v fp s4 r4 _=>?_
      let#[w,xs,rfl,hw,fH]:=r4.jf;refine#[w,rfl,?_,s4];have e1:(wZ fb dc n)=(a,b):=by unfold wZ;rw[ek];rfl
      rw[e1];cases fH with
      |cons h1 r=>cases r with
       |cons h2 r=>ext r;ext h1;ext h2;apply hw
     .cases CJ
    .have eq:=R5 pm nd st;subst eq;refine k Hf _ [D] (s1.trans sf) (.lst hD (yh _)) #[abo.mpr #[(λm=>nomatch m),acm],λa m=>?_];cases aaD.mp m;apply s1.free nD
   .cases e
  .cases e
 .cases e
def FY(X:Cx)(e:Expr)(f:XF):Prop:=∃t,PE X e t/\∀{H0} {S} {z} {aq} {Y} {U} {H} {Q} {d} {Y'},
 Ok X.K H0 S z aq Y U H->f Y=some (d,Y')->(∀z' H' v,Ok X.K H0 S z' aq Y' U H'->bf H H'->Rep X.K H' d v []->Q v H')->t U H Q
def FY.fz(h:FY X e f):FZ X e f:=let#[t,p,q]:=h;#[t,p,@λH0 S z aq Y U H Q d Y' ok e k=>q ok e λz' H' v o _ r=>k z' H' v o r]
def Uh(i:Nat)(hC:ClsAt X.K cn C)(hm:j_ X.K C m fa)(GG:bS X.prog X.w X.K X.mg X.base dR k fa fd ps (eU X.K G))(hr:bR k X.A)(hb:Binds X.K fd ps [])(ha:FA X (e::es) g)(va:VA X i x:=by walk_at "va")
  (dM:SE X e es pos:=by apply#[rfl,rfl])
  (ht:sR X (.Name x p1) m apos (e::es) pos pl:=by apply rfl):FY X (.Call (.Attribute (.Name x p1) m apos) (e::es) [] pos) (xO i cn m G g):=by
 let#[ta,pa,_,qa]:=ha;refine#[_,Dz va.pe hC.cl hm GG hr hb .nil oK pa dM.1 dM.2 ht,@λH0 S z aq Y U H Q d Y' ok e0 kk=>?_];let#[nv,qs,d1,h1,h2,hm,lH,hG,rfl]:=S8 e0;let#[v,aS,hs,r0,zz]:=ok.sl i _ _ h1;refine#[v,hs,?_];let#[b,dx,fs,gf,rfl,CA,h4,h5,h6,h7]:=r0.kP hC.ns;refine#[b,dx,fs,rfl,h4,qI h6 hm,?_];refine qa ok h2 λH2 vs jF s2 r2 g2=>?_
 rw[ack];refine#[b,vs,_,aS,_,jF,d,d1,rfl,r0.same s2,zz.1,r2,x6 ok lH g2 zz,hG,λH3 u bC im kp r1 nd fr rr=>?_];let#[z',iG]:=(ok.same s2).put h1 hs zz im kp r1 nd fr;apply kk z' H3 u iG ((bf.of s2).trans im) rr
def BV(i:Nat)(cn fl iu m:Str)(G:MF)(g:AF):XF:=λY=>match Y[i]?,g Y with
 |some (some (.ins c es,.own)),some ps=>match es.lookup fl with
  |some (.ins c2 iA)=>if c=cn/\c2=iu/\iA.lookup m=none/\apart i ps=true then(G (.ins c2 iA) (ps.map (·.1))).map λw=>(w.1,cz Y i (.ins c (e_ fl w.2 es))) else none
  |_=>none
 |_,_=>none
def aiB(i:Nat)(hC:ClsAt X.K cn C)(na:jb X.K C fl)(yK:ClsAt X.K iu C2)(hm:j_ X.K C2 m fa)(GG:bS X.prog X.w X.K X.mg X.base dR k fa fd ps (eU X.K G))(hr:bR k X.A)(hb:Binds X.K fd ps [])(ha:FA X (e::es) g)(va:VA X i x:=by walk_at "va")
  (zm:attributeBase (.Name x p1) fl X.env (eval (.Name x p1) X.env)=eval (.Name x p1) X.env:=by rfl)
  (dM:SE X e es pos:=by apply#[rfl,rfl])
  (ht:sR X (.Attribute (.Name x p1) fl p2) m apos (e::es) pos pl:=by apply rfl):FY X (.Call (.Attribute (.Attribute (.Name x p1) fl p2) m apos) (e::es) [] pos) (BV i cn fl iu m G g):=by
 let#[ta,pa,_,qa]:=ha;refine#[_,Dz (oY va.pe zm) yK.cl hm GG hr hb .nil oK pa dM.1 dM.2 ht,@λH0 S z aq Y U H Q d Y' ok e0 kk=>?_];unfold BV at e0
 split at e0
 .rename_i c es1 qs h1 h2
  split at e0
  .rename_i c2 iA hl
   by_cases hc:c=cn/\c2=iu/\iA.lookup m=none/\apart i qs=true
   .rw[if_pos hc] at e0;let#[rfl,rfl,hlm,lH]:=hc;let#[w,hG,ew]:=abW.mp e0;ext ew;let#[v,aS,hs,r0,zz]:=ok.sl i _ _ h1;refine#[v,hs,?_];let#[b0,dx,fs,u,gf,rfl,a1,a2,a3,a4,a5,a6]:=r0.place hC.ns zz.1 hl;refine#[b0,C,dx,fs,u,rfl,a1,hC.cl,na,a2,?_];let#[b,Zh,fs2,g2,rfl,CA,c4,c5,c6,c7]:=a3.kP yK.ns;refine#[b,Zh,fs2,rfl,c4,qI c6 hlm,?_];refine qa ok h2 λH2 vs jF s2 r2 gg=>?_
    rw[ack];refine#[b,vs,_,gf,_,jF,w.1,w.2,rfl,a3.same s2,a4,r2,λx m n=>x6 ok lH gg zz x m (a5 x n),hG,λH3 u' bC im kp r1 nd fr rr=>?_];have i3:=(bf.of s2).trans im;have k3:∀b o,b∉gf->H b=some o->H3 b=some o:=λb o n e=>kp b o n (s2 b o e)
    let#[L8,k1,k2,k4]:=a6 H3 w.2 bC i3 k3 r1 nd λb m=>(fr b m).imp id s2.free
    let#[z',iG]:=ok.put h1 hs zz i3 (λb o n e=>k3 b o (λm=>n (a5 b m)) e) k1 k2 k4;apply kk z' H3 u' iG i3 rr
   .rw[aa0 hc] at e0;ext e0
  .cases e0
 .cases e0
def xx(i:Nat)(G:MF)(g:AF):XF:=λY=>match Y[i]?,g Y with
 | some (some (d0,.own)),some ps=>if apart i ps=true then(match G d0 (ps.map (·.1)) with
  |some (r,d1)=>if aE r=true then some (r,cz Y i d1) else none
  |none=>none) else none
 |_,_=>none
def abP(i:Nat)(GG:bS X.prog X.w X.K X.mg X.base dR k fa fd ps (rJ X.K G))(hr:bR k X.A)(hm:X.mg x=some (.ref fa))(hk:PySem.W.keepIn X.K (.ref fa)=true)(hb:Binds X.K fd ps [])(ha:FA X es g)
  (va:VA X i xn:=by walk_at "va")
  (hg:GD X x:=by apply#[rfl,by decide]) (he:starEach (.Name xn p1::es) X.env=(false,eval (.Name xn p1) X.env)::starEach es X.env:=by rfl) (hpl:(backTo pos (starEach es X.env)).any (·.1)=false:=by rfl) :
  FY X (.Call (.Name x p) (.Name xn p1::es) [] pos) (xx i G g):=by
 let#[t,pa,_,sa]:=ha;refine#[_,ON GG hr hg.1 hm hk hb .nil oK (dX va.pe pa he) hg.2 he hpl,@λH0 S z aq Y U H Q d Y' ok e0 kk=>?_];unfold xx at e0
 split at e0
 .rename_i d0 qs h1 h2
  by_cases lH:apart i qs=true
  .rw[if_pos lH] at e0
   split at e0
   .rename_i r d1 h3
    by_cases hi:aE r=true
    .rw[if_pos hi] at e0;ext e0;let#[v,aS,hs,r0,zz]:=ok.sl i _ _ h1;refine#[v,hs,?_];refine sa ok h2 λH2 vs jF s2 r2 g2=>?_
     show rJ X.K G ((v::vs)++[]) H2 Q E0;rw[ack];refine#[v,vs,d0,aS,_,jF,d,d1,rfl,r0.same s2,zz.1,r2,x6 ok lH g2 zz,h3,λH3 u bC f6 im kp r1 nd fr rr O_ Ih=>?_];have hn:=rr.aE hi;subst hn;let#[z',iG]:=(ok.same s2).put h1 hs zz im kp r1 nd fr;apply kk z' H3 u iG ((bf.of s2).trans im) rr
    .rw[aa0 hi] at e0;ext e0
   .cases e0
  .rw[aa0 lH] at e0;ext e0
 .cases e0
def tZ(f:XF):aR->Option (Bool×aR):=λY=>match f Y with
 |some (.bl b,Y')=>some (b,Y')
 |_=>none
def Nx(h:FZ X a f)(he:∀whole,isTrue a X.env whole=(do let v <- whole;standAt a.pos;holding [v] (truthy v)):=by intro _;rfl):tS X a (tZ f):=by
 let#[t,p,q]:=h;refine#[_,Uz p he,@λH0 S z aq Y U H Q c Y' ok e k=>?_];unfold tZ at e
 split at e
 .rename_i c' aT h1;ext e;refine q ok h1 λz' H' v bu r=>?_
  ext r;apply#[_,rfl,k z' H' bu]
 .cases e
def mh(c:aR->Option (Bool×aR))(f:SF):Nat->SF
 |0,_=>none
 |n+1,Y=>match c Y with
  |some (false,aT)=>some (.nx aT)
  |some (true,aT)=>match f aT with
   |some (.nx Y')=>mh c f n Y'
   |_=>none
  |none=>none
def ags(n:Nat)(hc:tS X c tc)(hb:FS X body fb)(hp:PassesOwn (model X.prog X.w) X.A X.env X.xe:=by apply PassesOwn.never):fG X (.While c body [] pos) (mh tc fb n):=by
 let#[t,p,q]:=hc;let#[tb,pb,qb]:=hb;exists 23,Pz hp p pb;refine#[λm aG H'=>∃z' Y',Ok X.K H0 S z' aq Y' aG H'/\mh tc fb m Y'=some o/\Kp X U aG,#[n,z,Y,ok,e,.refl _ _],?_]
 rintro m aG H' ⟨z',Y',bu,e',kp⟩
 cases m with
 |zero=>ext e'
 |succ m=>
  unfold mh at e'
  split at e'
  .rename_i aT hc;ext e';refine q bu hc λz1 H1 cG=>?_
   rw[aa0 aaH];apply k z1 aG H1 cG kp
  .rename_i aT hc;refine q bu hc λz1 H1 cG=>?_
   rw[if_pos rfl]
   split at e'
   .rename_i aY hf;refine#[λi7 H2=>∃z2 aY,Ok X.K H0 S z2 aq aY i7 H2/\mh tc fb m aY=some o/\Kp X U i7,λi7 H2 hn=>#[m,aiV m,hn],?_];apply qb cG hf λz3 d9 H3 jx b=>#[z3,aY,jx,e',kp.trans b]
   .cases e'
  .cases e'
def vG(f g:XF):XF:=λY=>match f Y with
 |some (.bl true,Y')=>some (.bl true,Y')
 |some (.bl false,Y')=>match g Y' with
  |some (.bl b,aY)=>some (.bl b,aY)
  |_=>none
 |_=>none
def acR(ha:FZ X a f)(hb:FZ X b g):FZ X (.BoolOp .Or [a,b] pos) (vG f g):=by
 let#[t,p,q]:=ha;let#[t',p',q']:=hb;refine#[_,acC p (MP p'),@λH0 S z aq Y U H Q d Y' ok e k=>?_];unfold vG at e
 split at e
 .rename_i aT h;ext e;refine q ok h λz1 H1 v cG r1=>?_
  ext r1;refine#[true,rfl,?_];rw[if_pos rfl];apply k z1 H1 _ cG (.bl _)
 .rename_i aT h
  split at e
  .rename_i c aY h2;ext e;refine q ok h λz1 H1 v cG r1=>?_
   ext r1;refine#[false,rfl,?_];rw[aa0 aaH];apply q' cG h2 k
  .cases e
 .cases e
end L2.Ev
namespace L2
open PySem PySem.Spec PyProof.Rows
section
variable{X:Cx}
def VF{prog:Program}{w:World}{A:Around}{E:Value->Shared->Prop}{s:Shared}{Q:List Value->Shared->Prop}{r:Addr}{a b c:Int}{t u v:Tok}{n:Nat}(hh:A.handled=none)(hr:IsRange s.heap r a b c t u v)(KP:Builtin.Range.small a b c=true)
  (hn:Builtin.Range.rangeSize a b c=n) (hlen:n<=2 ^ 24)
  (hQ:∀h' tk (acc:Array Value),(∀b o,s.heap.get? b=some o->h'.get? b=some o)->ItemsOf (λi v=>∃t,v=.int (a+i*c) t) acc n->Q acc.toList { s with heap:=h',toks:=tk }) :
  wpAny (model prog w) A (collect (.ref r)) Q E s:=by
 unfold collect;refine aaK (wpAny_runValue (ahe F.entry_proto_collect ?_));rw[af4 F.plain_proto_collect _];show wpAny _ A.in1 (newList [] >>= λl=>again (.builtin "list.__iadd__" #[[l,.ref r],[]])) _ _ s;refine aaK (aib ?_);refine acp #[ajb F.plain_list_iadd _,ahe F.entry_list_iadd ?_];rw[af4 F.plain_list_iadd _];show wpAny _ A.in1 (Builtin.List.listExtendWith (.ref s.heap.objs.size) (.ref r) (.ref s.heap.objs.size)) _ _ _;have hS:(s.heap.push { cls:=.type "list",data:=.seq ([]:List Value).toArray }).get? s.heap.objs.size=some { cls:=.type "list",data:=.seq ([].toArray) 0 }:=abp _ rfl;have U_:∀h' tk (acc:Array Value) c',(∀b o,b≠s.heap.objs.size->(s.heap.push { cls:=.type "list",data:=.seq ([]:List Value).toArray }).get? b=some o->h'.get? b=some o)->h'.get? s.heap.objs.size=some { cls:=.type "list",dict:=none,data:=.seq acc c',slots:=([].toArray) }->ItemsOf (λi v=>∃t,v=.int (a+i*c) t) acc n->
   wpAny (model prog w) A (match Value.ref s.heap.objs.size with
   |Value.ref a=>do
    match(<- load a).data with
     |Data.seq xs _=>pure xs.toList
     |_=>unsupported "internal:collect"
   |_=>unsupported "internal:collect") Q E { s with heap:=h',toks:=tk }:=λh' tk acc c' hk uZ oJ=>by
  show wpAny _ A (load s.heap.objs.size >>= _) _ _ _;refine aaK (wpAny_load uZ ?_);apply acp (hQ h' tk acc (λb o hb=>hk b o (aco (abb hb)) (aaq _ hb)) oJ)
 refine aeG (wpAny_extend_range (A:=A) (R:=λr s'=>r=.ok (.ret (.ref s.heap.objs.size))/\∃h' tk acc c',s'={ s with heap:=h',toks:=tk }/\(∀b o,b≠s.heap.objs.size->(s.heap.push { cls:=.type "list",data:=.seq ([]:List Value).toArray }).get? b=some o->h'.get? b=some o)/\h'.get? s.heap.objs.size=some { cls:=.type "list",dict:=none,data:=.seq acc c',slots:=([].toArray) }/\ItemsOf (λi v=>∃t,v=.int (a + i * c) t) acc n)
  (s:={ s with heap:=s.heap.push { cls:=.type "list",data:=.seq ([]:List Value).toArray } }) hh (aaq _ hr) KP hn hlen _ _ 0 hS λh' tk acc c' hk uZ oJ=>#[rfl,h',tk,acc,c',rfl,hk,uZ,oJ]) (λfin s' h=>?_) (λe s' h=>?_)
 .cases fin with
  |done f=>
   let#[e,h',tk,acc,c',rfl,x1,x2,x3]:=h;ext e;apply U_ h' tk acc c' x1 x2 x3
  |again c'=>apply#[h.1,ajq h.2 λr iD hr=>by let#[rfl,h',tk,acc,c',rfl,x1,x2,x3]:=hr;apply U_ h' tk acc c' x1 x2 x3]
 .exact absurd h.1 (by simp)
def aaG(r:Addr)(a b c:Int)(t u v:Tok)(n:Nat)(KP:Builtin.Range.small a b c=true)(hn:Builtin.Range.rangeSize a b c=n)(hlen:n<=sizeLine):
  Meets (Builtin.«tuple.__new__» #[[.type "tuple",.ref r],[]])
   (λA R s=>A.handled=none/\IsRange s.heap r a b c t u v/\∀(h':Heap) tk (acc:Array Value),(∀b o',s.heap.get? b=some o'->h'.get? b=some o')->ItemsOf (λi v=>∃t,v=.int (a+i*c) t) acc n->R (.ok (.ret (.ref h'.objs.size))) { s with heap:=h'.push { cls:=.type "tuple",data:=.seq acc },toks:=tk }):=
 .of_wp λprog w A R s h=>by
  let#[hp,g,d,tk,os]:=s;let#[hh,hr,h]:=h;have Cq:=sub_tuple_self;have ajf:=init_tuple_lookup;have hmh:=madeHere_tuple;have hT:Shared.TypeIs #[hp,g,d,tk,os] (.ref r) "range":=#[_,hr,rfl]
  wp_walk using AutoSeq1.wpAny_loadPart' hr,wpAny_typeOf hT,VF (A:=A.in1) hh hr KP hn (by rw[aft] at hlen;omega)
  intro h' uG acc hk oJ;show wpAny _ _ (Builtin.Tuple.tupleExact acc.toList.toArray >>= λv=>ret v) _ _ _;unfold Builtin.Tuple.tupleExact;refine aaK (aib ?_ (by show acc.toList.toArray.size<=sizeLine;rw[Array.toArray_toList,oJ.1];apply hlen));refine acp #[_,rfl,?_];rw[Array.toArray_toList];apply h h' uG acc hk oJ
def agG(hc:X.calm=true):ic X (.type "tuple") (λxs H Q=>∃p i j,xs=[V.ref p]/\H p=some (.cN i j)/\(-(2 ^ 20)<=i/\i<2 ^ 20/\-(2 ^ 20)<=j/\j<2 ^ 20)/\(j-i).toNat<=sizeLine/\∀l,H l=none->Q (.ref l) (upd H l (.tup ((List.range (j-i).toNat).map λn:Nat=>V.int (i+n))))):=by
 intro af s U H xs us Q I r h;let#[p,i,j,rfl,hp,hb,hz,q]:=h;let#[u,rfl,ru]:=vals1 r;ext ru;let#[t,u',v,hr]:=(show ∃t u v,s.heap.get? p=some { cls:=.type "range",data:=.fields ([.int i t,.int j u,.int 1 v].toArray) } from I.aM p _ hp)
 have e2:Builtin.Range.rangeSize i j 1=((j-i).toNat:Int):=by rw[rangeSize_one];split<;>omega
 refine callType_new F.called_tuple (by decide) (F.typeCall_tuple_1 _) (F.newCall_tuple_1 _) (λobj=>F.args_object_init_2 obj _) F.entry_tuple_new
  (aaG p i j 1 t u' v (j-i).toNat (small_one (by omega) (by omega) (by omega) (by omega)) e2 hz) #[I.ok.hd hc,hr,λh' tk acc hk oJ=>#[#[_,abp _ rfl,rfl],?_]]
 let#[az,av]:=oJ;have vv:aW ((List.range (j-i).toNat).map λn:Nat=>V.int (i+n)) acc.toList:=by
  rw[List.range_eq_range'];refine Rx (k:=0) (by simpa using az) λm w e=>?_
  let#[t,e]:=av m w (by simpa using e);apply#[t,by rw[e];simp]
 have I1:Inv X af U H { s with heap:=h',toks:=tk }:=I.kept (t':=tk) hk;apply#[.ref h'.objs.size,_,I1.laid (h':=h'.push { cls:=.type "tuple",data:=.seq acc }) (t':=tk) (λb o e=>aaq _ e) (abi _) (show dZ X.prog X.w _ _ _ (.tup _) from#[by rw[List.length_map,ajv];apply hz,acc.toList,vv,by simpa using l9.new h' acc]),rfl,q _ (I1.aM.fresh (abi _))]
end
end L2
namespace L2.Ev
open PySem PySem.Spec PyProof.Rows
section
variable{X:Cx}{a b e:Expr}{fa fb:EF}{p p1 p2 p3 pos:Pos}
def D3(g:AF):EF:=λY=>match g Y with
 |some [(.int i,_),(.int j,_)]=>if -(2 ^ 20)<=i/\i<2 ^ 20/\-(2 ^ 20)<=j/\j<2 ^ 20 then some (.tup ((List.range (j-i).toNat).map λn:Nat=>D.int (i+n)),.own) else none
 |_=>none
def adC{g:AF}(hc:X.calm=true)(hm:X.mg "tuple"=none)(oG:X.mg "range"=none)(ha:FA X [a,b] g)(hg:Gl X "tuple":=by rfl)(uF:Gl X "range":=by rfl)
  (hs:starEach [a,b] X.env=[(false,eval a X.env),(false,eval b X.env)]:=by rfl) (cV:starEach [b] X.env=[(false,eval b X.env)]:=by rfl)
  (AX:starEach [.Call (.Name "range" p2) [a,b] [] p3] X.env=[(false,eval (.Call (.Name "range" p2) [a,b] [] p3) X.env)]:=by rfl) :
  FP X (.Call (.Name "tuple" p) [.Call (.Name "range" p2) [a,b] [] p3] [] pos) (D3 g):=by
 let#[ta,pa,_,qa]:=ha;exists 21,yX (agG hc) hg hm (by rfl) (dX (XI oG pa uF hs cV) fT AX) (he:=AX) (hpl:=rfl);unfold D3 at e
 split at e
 .rename_i i t1 j t2 h1
  by_cases hb:-(2 ^ 20)<=i/\i<2 ^ 20/\-(2 ^ 20)<=j/\j<2 ^ 20
  .rw[if_pos hb] at e;ext e;refine qa ok h1 λH1 vs fp s1 r1 _=>?_
   cases r1 with
   |cons r r1=>
    cases r1 with
    |cons r' r1=>
     ext r1;ext r;ext r';refine#[i,j,rfl,λr hr=>#[r,i,j,rfl,cg,hb,?_,λl hl=>?_]]
     .unfold sizeLine;omega
     .have s2:=aN.new (o:=.cN i j) hr;have s3:=aN.new (o:=.tup ((List.range (j-i).toNat).map λn:Nat=>V.int (i+n))) hl;apply k _ _ [] ((s1.trans s2).trans s3) (.tup (cO.of cg) (Pq _)) .nil
  .rw[aa0 hb] at e;ext e
 .cases e
end
section
variable{K:Fr}
def QH(h:cO K H a (ks.map L2.kV))(ni:wm K=true)(hi:ks.all (λk=>k.isLeft)=true)(hn:ks≠[]):Tk H a (ks.map L2.kV):=by
 rcases h with(h|⟨o,h⟩)|⟨o,ay,n,hk,_,_,hd,_,rv⟩
 .exact#[.tup _,rfl,h]
 .exact#[.vF o _,rfl,h]
 .exfalso
  have q:=adR.mp ni (a,o) (DN hk);dsimp only at q;rw[hd] at q;have len:=rv.length;have go:∀{ks:List Key} {vs},ks.all (λk=>k.isLeft)=true->aW (ks.map L2.kV) vs->∀v∈vs,∃i t,v=Value.int i t:=by
   intro ks
   induction ks with
   |nil=>intro vs _ r v m;ext r;ext m
   |cons k ks ih=>
    intro vs h r v m;let#[h1,h2]:=(aav _ _).mp (by simpa only[ajN] using h);cases r with
    |cons r1 r2=>
     rcases aaA.mp m with e|m
     .subst e;cases k with
      |inr _=>ext h1
      |inl i=>let#[t,e]:=(show RelV (.int i) _ from r1);apply#[i,t,e]
     .exact ih h2 r2 v m
  rcases(aje _ _).mp (show(ay.size==0||ay.toList.any _)=true from q) with z|z
  .have z:ay.size=0:=by simpa using z
   simp only[List.length_map,agm] at len;apply hn (List.eq_nil_of_length_eq_zero (len.trans z))
  .let#[v,mv,e]:=aeJ.mp z;let#[i,t,rfl]:=go hi rv v mv;ext e
def Tk.aE(h:Tk H a xs)(i:bf H H'):Tk H' a xs:=by
 let#[t,e1,e2]:=h;cases t with
 |tup ys=>apply#[.tup ys,e1,i.1 _ _ e2]
 |vF o ys=>apply#[.vF o ys,e1,i.2.1 _ _ _ e2]
 |i0 _ _=>ext e1
 |jC _=>ext e1
variable[DecidableEq κ]
theorem Kz:∀{es:List (κ×α)},k∉es.map (·.1)->(es.map λkv=>if kv.1=k then(kv.1,d) else kv)=es
 |[],_=>rfl
 |(q,x)::es,n=>by
  rw[aar] at n ⊢;rw[aa0 (λe=>n (by rw[e];apply aah)),Kz λm=>n (aaf _ m)]
def aH.UD:∀{es}{ao:List (κ×V)} {g},es.map (·.1)=ao.map (·.1)->aH K H (es.map (·.2)) (ao.map (·.2)) g->g.Nodup->(es.map (·.1)).Nodup->bB es k=some d0->
  ∃v gf,fM ao k=some v/\Rep K H d0 v gf/\gf.Nodup/\(∀a∈gf,a∈g)/\∀(H') (d1) (g1),bf H H'->(∀b o,b∉gf->b∈g->H b=some o->H' b=some o)->Rep K H' d1 v g1->g1.Nodup->(∀b∈g1,b∈gf\/H b=none)->
   ∃g',aH K H' ((putD es k d1).map (·.2)) ((putK ao k v).map (·.2)) g'/\g'.Nodup/\∀b∈g',b∈g\/H b=none
 |[],_,_,_,_,_,_,e=>by ext e
 |_::_,[],_,k,_,_,_,_=>by simp at k
 |(x,d)::es,(y,v0)::ao,_,hk,r,nd,kd,e=>by
  simp only[aar,ahr] at hk;let#[rfl,hk]:=hk;rw[aar] at kd;let#[Vg,kd2]:=abo.mp kd;have any:∀{α}{l:List (κ×α)}{d:α},k∈l.map (·.1)->(l.any λkv=>decide (kv.1=k))=true:=λ{α l d} m=>by
   let#[p,m1,m2]:=abn.mp m;apply aeJ.mpr #[p,m1,aas m2]
  cases r with
  | @cons _ _ _ _ f1 f2 r1 r2=>
   let#[a1,a2,a3]:=adv.mp nd
   by_cases hx:x=k
   .subst hx;have e1:bB ((x,d)::es) x=some d:=by simp[bB,adQ]
    rw[e1] at e;obtain rfl:d=d0:=abH e;refine#[v0,f1,yM rfl,r1,a1,λa m=>aaL _ m,λH' d1 g1 im kp rr n1 fr=>?_];refine#[g1++f2,?_,adv.mpr #[n1,a2,λa ma b mb e=>?_],λb m=>?_]
    .have er:putD ((x,d)::es) x d1=(x,d1)::es:=by
      unfold putD;rw[any (d:=d1) (by simp),if_pos rfl,aar,Kz Vg,if_pos rfl]
     have ev:putK ((x,v0)::ao) x v0=(x,v0)::ao:=by
      unfold putK;rw[any (d:=v0) (by simp),if_pos rfl,aar,Kz (show x∉ao.map (·.1) by rw[<- hk];apply Vg),if_pos rfl]
     rw[er,ev,aar,aar];refine .cons rr (r2.frame (λa m=>?_) im);let#[o,w,_]:=r2.fu a m;rw[kp a o (λq=>a3 a q a m rfl) (aaJ _ m) w,w]
    .subst e;let#[o,w,_]:=r2.fu a mb;rcases fr a ma with q|q
     .exact a3 a q a mb rfl
     .rw[q] at w;ext w
    .rcases abc.mp m with m|m
     .exact(fr b m).imp (aaL _) id
     .exact .inl (aaJ _ m)
   .have e1:bB ((x,d)::es) k=bB es k:=by simp[bB,adQ,hx]
    rw[e1] at e;let#[v,gf,h1,h2,h3,h4,h5]:=aH.UD hk r2 a2 kd2 e;have mk:k∈es.map (·.1):=by
     unfold bB at e;let#[p,e2,e3]:=abW.mp e;apply abn.mpr #[p,afY e2,aau (show decide (p.1=k)=true from ajg (p:=λkv:κ×D=>decide (kv.1=k)) e2)]
    refine#[v,gf,by rw[zQ hx];apply h1,h2,h3,λa m=>aaJ _ (h4 a m),λH' d1 g1 im kp rr n1 fr=>?_];let#[g',c1,c2,c3]:=h5 H' d1 g1 im (λb o n m e=>kp b o n (aaJ _ m) e) rr n1 fr;refine#[f1++g',?_,adv.mpr #[a1,c2,λa ma b mb e=>?_],λb m=>?_]
    .have er:(putD ((x,d)::es) k d1)=(x,d)::putD es k d1:=by
      unfold putD;rw[any (d:=d1) (l:=(x,d)::es) (aaf _ mk),any (d:=d1) mk,if_pos rfl,if_pos rfl,aar,aa0 hx]
     have ev:(putK ((x,v0)::ao) k v)=(x,v0)::putK ao k v:=by
      unfold putK;rw[any (d:=v) (by rw[aar,<- hk];apply aaf _ mk),any (d:=v) (by rw[<- hk];apply mk),if_pos rfl,if_pos rfl,aar,aa0 hx]
     rw[er,ev,aar,aar];refine .cons (r1.frame (λa m=>?_) im) c1;let#[o,w,_]:=r1.fu a m;rw[kp a o (λq=>a3 a m a (h4 a q) rfl) (aaL _ m) w,w]
    .subst e;let#[o,w,_]:=r1.fu a ma;rcases c3 a mb with q|q
     .exact a3 a ma a q rfl
     .rw[q] at w;ext w
    .rcases abc.mp m with m|m
     .exact .inl (aaL _ m)
     .exact(c3 b m).imp (aaJ _) id
def Ok.blank(ok:Ok K H0 S z aq Y U H)(h:Y[i]? = some none):Ok K H0 S z aq Y (U.set i x) H:=
 #[λj d t e=>by
  have ne:i≠j:=λz=>by rw[<- z,h] at e;ext e
  let#[v,fp,a,b,c]:=ok.sl j d t e;apply#[v,fp,by rw[adt ne];apply a,b,c],ok.hl,ok.zd,ok.en,by rw[ajr];apply ok.ln]
end
def zq(cn:Str):Option Slot->Option (List (Str×D))
 |some (some (.ins c es,.own))=>if c=cn then some es else none
 |_=>none
def By:Option Slot->Option (List D)
 |some (some (.tup ls,_))=>some ls
 |_=>none
def Bx:Option Slot->Option Str
 |some (some (.str w,_))=>some w
 |_=>none
def BF:Option D->Option (List (List Key×D))
 |some (.fY l)=>some l
 |_=>none
def UC:∀{x} {es},zq cn x=some es->x=some (some (.ins cn es,.own)):=by
 rintro(_|_|⟨d,t⟩) es e
 any_goals ext e
 ext d
 any_goals ext e
 ext t
 any_goals ext e
 apply(ag6.mp e).elim λa b=>by ext a;ext b;rfl
def ad2:∀{x} {ls},By x=some ls->∃t,x=some (some (.tup ls,t)):=by
 rintro(_|_|⟨d,t⟩) es e
 any_goals ext e
 ext d
 all_goals ext e
 apply#[_,rfl]
def Wy:∀{x} {w},Bx x=some w->∃t,x=some (some (.str w,t)):=by
 rintro(_|_|⟨d,t⟩) es e
 any_goals ext e
 ext d
 all_goals ext e
 apply#[_,rfl]
def af3:∀{x} {l},BF x=some l->x=some (.fY l):=by
 rintro(_|d) es e
 any_goals ext e
 ext d
 all_goals ext e
 rfl
def sO(cn fl iu m:Str)(ft:EF)(G:MF):SF:=λY=>
 (zq cn Y[0]?).bind λes=>(By Y[1]?).bind λls=>(Bx Y[2]?).bind λwd=>(BF (es.lookup fl)).bind λao=>(jc ls).bind λks=>(ft Y).bind λdn=>
  (zq iu (some (some ((bB ao ks).getD dn.1,dn.2)))).bind λiA=>(G (.ins iu iA) [.str wd]).bind λr=>
   if Y[3]?.any Option.isNone=true/\iA.lookup m=none/\ks.all (λk=>k.isLeft)=true/\ks≠[]/\(ao.map (·.1)).Nodup/\ao.length<sizeLine/\aE r.1=true then some (.nx (g_ (cz Y 0 (.ins cn (e_ fl (.fY (putD ao ks r.2)) es))) 4 r.1 .own)) else none
def ahH(e:sO cn fl iu m ft G Y=some w):∃es ls lt wd wt ao ks dn iA r d1,Y[0]? = some (some (.ins cn es,.own))/\Y[1]? = some (some (.tup ls,lt))/\Y[2]? = some (some (.str wd,wt))/\Y[3]? = some none/\es.lookup fl=some (.fY ao)/\jc ls=some ks/\ft Y=some (dn,.own)/\
  (bB ao ks).getD dn=.ins iu iA/\iA.lookup m=none/\ks.all (λk=>k.isLeft)=true/\ks≠[]/\(ao.map (·.1)).Nodup/\ao.length<sizeLine/\G (.ins iu iA) [.str wd]=some (r,d1)/\aE r=true/\w=.nx (g_ (cz Y 0 (.ins cn (e_ fl (.fY (putD ao ks d1)) es))) 4 r .own):=by
 let#[es,h1,e]:=acY.mp e;let#[ls,h2,e]:=acY.mp e;let#[wd,h3,e]:=acY.mp e;let#[ao,h4,e]:=acY.mp e;let#[ks,h5,e]:=acY.mp e;let#[dn,h6,e]:=acY.mp e;let#[iA,h7,e]:=acY.mp e;let#[#[r,d1],h8,e]:=acY.mp e;let#[#[a0,a1,a2,a3,a4,a5,a6],e]:=ag6.mp e;let#[t2,h2]:=ad2 h2;let#[t3,h3]:=Wy h3;have h7:=UC h7;have a0:Y[3]? = some none:=by
  rcases h:Y[3]? with _|_|_<;>rw[h] at a0<;>first|rfl|ext a0
 ext e;injection h7 with h7;injection h7 with h7;injection h7 with h7 h9;apply#[es,ls,t2,wd,t3,ao,ks,dn.1,iA,r,d1,UC h1,h2,h3,a0,af3 h4,h5,by rw[h6,<- h9],h7,a1,a2,a3,a4,a5,h8,a6,rfl]
def af9(h0:Y[0]? = some (some (.ins cn es,.own)))(h1:Y[1]? = some (some (.tup ls,lt)))(h2:Y[2]? = some (some (.str wd,wt)))(h3:Y[3]? = some none)(h4:es.lookup fl=some (.fY ao))(h5:jc ls=some ks)(h6:ft Y=some (dn,.own))(h7:(bB ao ks).getD dn=.ins iu iA)(h8:G (.ins iu iA) [.str wd]=some (r,d1))
  (hc:iA.lookup m=none/\ks.all (λk=>k.isLeft)=true/\ks≠[]/\(ao.map (·.1)).Nodup/\ao.length<sizeLine/\aE r=true):sO cn fl iu m ft G Y=some (.nx (g_ (cz Y 0 (.ins cn (e_ fl (.fY (putD ao ks d1)) es))) 4 r .own)):=by
 unfold sO zq By Bx BF;simp only[h0,h1,h2,h3,h4,h5,h6,h7,h8,abR,if_pos];apply if_pos #[rfl,hc]
section
variable{cn fl iu m x0 x1 x2 x3 x4:Str}{rest:List Stmt}
set_option maxHeartbeats 1000000 in
def Yy(hu:X.A.units+1<cLine)(ni:wm X.K=true)(hC:ClsAt X.K cn C)(na:jb X.K C fl)(yK:ClsAt X.K iu C2)(hm:j_ X.K C2 m fa)(GG:bS X.prog X.w X.K X.mg X.base dR k fa fd ps (eU X.K G))(hr:bR k X.A)(hb:Binds X.K fd ps [])
  (hT:FP X tc ft) (yU:FM X rest g) (hN:X.N.Nodup) (a0:VA X 0 x0:=by walk_at "va") (a1:VA X 1 x1:=by walk_at "va") (a2:VA X 2 x2:=by walk_at "va") (a3:VA X 3 x3:=by walk_at "va") (h4:X.N[4]? = some x4:=by rfl)
  (v3:Loc X.env.scope x3:=by first|exact Or.inl rfl|exact Or.inr rfl) (v4:Loc X.env.scope x4:=by first|exact Or.inl rfl|exact Or.inr rfl)
  (zm:attributeBase (.Name x0 p1) fl X.env (eval (.Name x0 p1) X.env)=eval (.Name x0 p1) X.env:=by rfl) (adn:attributeBase (.Name x0 q1) fl X.env (eval (.Name x0 q1) X.env)=eval (.Name x0 q1) X.env:=by rfl)
  (mm:M2 X (.Attribute (.Name x0 p1) fl p2) "get" p3 (.Name x1 p4) tc p5:=by apply#[rfl,rfl,rfl,rfl])
  (s1:swapsWith (.Call (.Attribute (.Attribute (.Name x0 p1) fl p2) "get" p3) [.Name x1 p4,tc] [] p5) (some (.Name x3 p6)) p7.line X.env=pure false:=by rfl)
  (s2:swapsWith (.Call (.Attribute (.Name x3 q2) m q3) [.Name x2 q4] [] q5) (some (.Name x4 p8)) p9.line X.env=pure false:=by rfl)
  (s3:swapsWith (.Name x3 q6) (some (.Subscript (.Attribute (.Name x0 q1) fl q7) (.Name x1 q8) q9)) r1.line X.env=pure false:=by rfl)
  (f3:X.fn x3=true\/X.env.scope.names.lookup x3=some .local:=by first|exact .inl rfl|exact .inr rfl) (f4:X.fn x4=true\/X.env.scope.names.lookup x4=some .local:=by first|exact .inl rfl|exact .inr rfl) (k3:lG X x3=false:=by rfl) (k4:lG X x4=false:=by rfl)
  (dM:starEach [.Name x2 q4] X.env=[(false,eval (.Name x2 q4) X.env)]:=by rfl)
  (ht:eval (.Call (.Attribute (.Name x3 q2) m q3) [.Name x2 q4] [] q5) X.env=(do
   let ov <- eval (.Name x3 q2) X.env
   standAt q3.atName
   let(f,first) <- holding [ov] (getMethod ov m pl)
   callWith q5 f first (backTo q5 (starEach [.Name x2 q4] X.env)) (backToKw q5 (keywordEach [] X.env))):=by rfl) :
  FM X (.Assign [.Name x3 p6] (.Call (.Attribute (.Attribute (.Name x0 p1) fl p2) "get" p3) [.Name x1 p4,tc] [] p5) p7::.Assign [.Name x4 p8] (.Call (.Attribute (.Name x3 q2) m q3) [.Name x2 q4] [] q5) p9::.Assign [.Subscript (.Attribute (.Name x0 q1) fl q7) (.Name x1 q8) q9] (.Name x3 q6) r1::rest) (bN (sO cn fl iu m ft G) g):=by
 let#[tT,pT,sT]:=hT;let#[tr,pr,sr]:=yU;refine#[_,Ac (DS hN a3.N v3 (GV hu (oY a0.pe zm) a1.pe pT mm) s1 f3)
  (Ac (DS hN h4 v4 (Dz a3.pe yK.cl hm GG hr hb .nil oK (dX a2.pe fT dM) dM rfl ht) s2 f4)
  (Ac (Ie hu (oY a0.pe adn) a1.pe a3.pe s3) pr)),@λH0 S z aq Y U H E o ok e kE=>?_]
 cases hw:sO cn fl iu m ft G Y with
 |none=>unfold bN at e;rw[hw] at e;ext e
 |some w=>
  let#[es,ls,lt,wd,wt,ao,ks,dn,iA,r,d1,e0,e1,e2,e3,YK,Jh,Zl,vJ,elm,zD,k_,knd,hlen,eG,hir,rfl]:=ahH hw;have e:g (g_ (cz Y 0 (.ins cn (e_ fl (.fY (putD ao ks d1)) es))) 4 r .own)=some o:=by unfold bN at e;rw[hw] at e;apply e
  let#[v,aS,hs,r0,zz]:=ok.sl 0 _ _ e0;let#[vl,Kg,UT,rl,_]:=ok.sl 1 _ _ e1;let#[bL,xs,rfl,K6,Gg]:=rl.jf;obtain rfl:=aH.keys Gg Jh;have B_:=QH K6 ni zD k_;let#[vw,fw,jo,fH,_]:=ok.sl 2 _ _ e2;let#[rfl,rfl]:=fH.xC;have l3:3<U.length:=by rw[<- ok.ln];apply(acS.mp e3).1
  let#[b0,dx,fs,u,gf,#[nb,nx],rfl,a1,a2,a3,a4,a5,a6]:=r0.UQ hC.ns zz.1 YK;cases a3 with
  | @fY l iT _ g0 hl gU rs=>
   let#[lg,n0]:=abo.mp a4;refine#[.ref b0,hs,b0,C,dx,fs,.ref l,rfl,a1,hC.cl,na,a2,l,rfl,.inr #[iT,.inl hl],.ref bL,UT,?_];refine sT ok Zl λH3 zv L8 s3 rn gn=>?_
   refine#[fM iT ks,.inr #[iT,ks,bL,.inl (s3 _ _ hl),rfl,(Tk.aE B_ (.of s3)),rfl],?_];have hv:∃j4,Rep X.K H3 (.ins iu iA) ((fM iT ks).getD zv) j4/\j4.Nodup/\(∀b∈j4,b∈g0\/H b=none)/\∀H5 bC,bf H3 H5->(∀b o,b∉j4->H3 b=some o->H5 b=some o)->Rep X.K H5 d1 ((fM iT ks).getD zv) bC->bC.Nodup->(∀b∈bC,b∈j4\/H3 b=none)->
     ∃g',aH X.K (upd H5 l (.dT (putK iT ks ((fM iT ks).getD zv)))) ((putD ao ks d1).map (·.2)) ((putK iT ks ((fM iT ks).getD zv)).map (·.2)) g'/\g'.Nodup/\l∉g'/\∀b∈g',b∈g0\/H b=none:=by
    cases uB:bB ao ks with
    |some dv=>
     rw[uB,ajm] at vJ;subst vJ;let#[v,gv,b1,b2,b3,b4,b5]:=aH.UD gU rs n0 knd uB;rw[b1,ajm];refine#[gv,b2.same s3,b3,λb m=>.inl (b4 b m),λH5 bC im kp r5 yV mW=>?_];have nl:l∉gv:=λm=>lg (b4 l m)
     have qf:=kp l _ nl (s3 _ _ hl);have DJ:l∉bC:=λm=>(mW l m).elim nl λq=>by rw[s3 _ _ hl] at q;ext q
     let#[g',c1,c2,c3]:=b5 (upd H5 l (.dT (putK iT ks v))) d1 bC (((bf.of s3).trans im).trans (bf.upd qf rfl)) (λb o n mb e=>by rw[aP (λq:b=l=>lg (q ▸ mb))];apply kp b o n (s3 b o e))
      (r5.frame (λb m=>aP (λq:b=l=>DJ (q ▸ m))) (bf.upd qf rfl)) yV (λb m=>(mW b m).imp id s3.free)
     apply#[g',c1,c2,(λm=>(c3 l m).elim lg λq=>by rw[hl] at q;ext q),c3]
    |none=>
     rw[uB] at vJ;have vJ:=vJ;subst vJ;have hn:=(qX gU rs).2 uB;rw[hn];show ∃j4,Rep X.K H3 (.ins iu iA) zv j4/\j4.Nodup/\(∀b∈j4,b∈g0\/H b=none)/\∀H5 bC,bf H3 H5->(∀b o,b∉j4->H3 b=some o->H5 b=some o)->Rep X.K H5 d1 zv bC->bC.Nodup->(∀b∈bC,b∈j4\/H3 b=none)->
      ∃g',aH X.K (upd H5 l (.dT (putK iT ks zv))) ((putD ao ks d1).map (·.2)) ((putK iT ks zv).map (·.2)) g'/\g'.Nodup/\l∉g'/\∀b∈g',b∈g0\/H b=none
     refine#[L8,rn,gn.1,λb m=>.inr (gn.2 b m),λH5 bC im kp r5 yV mW=>?_];have nl:l∉L8:=λm=>by rw[gn.2 l m] at hl;ext hl
     have qf:=kp l _ nl (s3 _ _ hl);have zE:∀b∈bC,H b=none:=λb m=>(mW b m).elim (gn.2 b) s3.free
     have DJ:l∉bC:=λm=>by rw[zE l m] at hl;ext hl
     have i6:bf H (upd H5 l (.dT (putK iT ks zv))):=((bf.of s3).trans im).trans (bf.upd qf rfl);have n1:(ao.any λkv=>decide (kv.1=ks))=false:=by
      unfold bB at uB;rw[Option.map_eq_none_iff,ahR] at uB;apply List.any_eq_false.mpr uB
     have n2:(iT.any λkv=>decide (kv.1=ks))=false:=by
      rw[J7,hn];rfl
     refine#[g0++(bC++[]),?_,?_,λm=>?_,λb m=>?_]
     .unfold putD putK;rw[n1,n2,aa0 aaH,aa0 aaH,adS,adS];unfold putK at i6;rw[n2,aa0 aaH] at i6;refine aH.append (rs.frame (λb m=>?_) i6) (.cons (r5.frame (λb m=>aP (λq:b=l=>DJ (q ▸ m))) (bf.upd qf rfl)) .nil);let#[o,w,_]:=rs.fu b m;rw[aP (λq:b=l=>lg (q ▸ m)),kp b o (λq=>by rw[gn.2 b q] at w;ext w) (s3 b o w),w]
     .rw[ack];refine adv.mpr #[n0,yV,λa ma b mb e=>?_];let#[o,w,_]:=rs.fu a ma;rw[e,zE b mb] at w;ext w
     .rw[ack] at m;apply(abc.mp m).elim lg DJ
     .rw[ack] at m;apply(abc.mp m).imp id (zE b)
   generalize(fM iT ks).getD zv=v at hv ⊢;let#[j4,rv,ndv,Ii,fin]:=hv;let#[a,dxT,fsT,gT,rfl,CA,t1,t2,t3,t4]:=rv.kP yK.ns;refine#[.ref a,agc l3,a,dxT,fsT,rfl,t1,qI t3 elm,.str wd,(by rw[adt (by decide)];apply jo),?_];refine#[a,[.str wd],_,j4,[.str wd],[],r,d1,rfl,rv,ndv,.cons (.str wd) .nil,(λb m=>nomatch m),eG,λH5 ut bC im kp r5 yV mW rr=>?_];have nl:l∉j4:=λm=>(Ii l m).elim lg λq=>by rw[hl] at q;ext q
   have qf:=kp l _ nl (s3 _ _ hl);have Yn:b0∉j4:=λm=>(Ii b0 m).elim (λq=>nb (aaf _ q)) λq=>by rw[a1] at q;ext q
   have a15:=kp b0 _ Yn (s3 _ _ a1);have hlv:iT.length=ao.length:=by have:=congrArg List.length gU;simpa using this.symm
   refine#[.ref a,(by rw[adt (by decide)];apply agc l3),.ref b0,(by rw[adt (by decide),adt (by decide)];apply hs),b0,C,dx,fs,.ref l,rfl,a15,hC.cl,na,a2,.ref bL,(by rw[adt (by decide),adt (by decide)];apply UT),l,_,rfl,
    .inr #[iT,ks,bL,qf,rfl,(Tk.aE B_ ((bf.of s3).trans im)),(by rw[hlv];apply hlen),rfl],?_]
   let#[g',y1,y2,y3,y4]:=fin H5 bC im kp r5 yV mW;have i6:bf H (upd H5 l (.dT (putK iT ks (.ref a)))):=((bf.of s3).trans im).trans (bf.upd qf rfl);have k6:∀b o,b∉l::g0->H b=some o->upd H5 l (.dT (putK iT ks (.ref a))) b=some o:=λb o n e=>by
    rw[aP (λq=>n (by rw[q];apply aah))];apply kp b o (λm=>(Ii b m).elim (λq=>n (aaf _ q)) λq=>by rw[e] at q;ext q) (s3 b o e)
   let#[aju,z1,z2,z3]:=a6 _ (.fY (putD ao ks d1)) (l::g') i6 k6 (.fY cg (DF gU) y1) (abo.mpr #[y3,y2]) (λb m=>(aaA.mp m).elim (λq=>.inl (by rw[q];apply aah)) λm=>(y4 b m).imp (aaf _) id);let#[z',iG]:=ok.put e0 hs zz i6 (λb o n e=>k6 b o (λm=>n (a5 b m)) e) z1 z2 z3;have e3':(cz Y 0 (.ins cn (e_ fl (.fY (putD ao ks d1)) es)))[3]? = some none:=by unfold cz;rw[adt (by decide),abV,e3];rfl
   refine(iG.blank (x:=some (.ref a)) e3').stored (t:=.own) (i:=4) (aN.refl _) (rr.frame (λa m=>nomatch m) (bf.upd qf rfl)) .nil λz2 YL=>?_
   apply sr YL e (kE.of ((Kp.set a3.N k3).trans (Kp.set h4 k4)))
end
end L2.Ev
namespace L2
open PySem PySem.Spec PyProof.Rows
def ZA(K:Fr):V->List V->Hp->VK->Prop:=λx vs H Q=>∃(l:Addr) (ts:List Int) (i:Int) (j:Nat),x=.ref l/\vs=[.int i]/\cH K H l (ts.map V.int)/\ts[j]? = some i/\(∀m,m<j->ts[m]?≠some i)/\Q (.int j) H
def MN(i y:Int)(t:Tok):jk (.int i) (.int y t)=(y==i):=rfl
def Yi:Js X "list.index" (ZA X.K):=by
 intro af s U H x vs v us Q I rx rv h;let#[l,ts,i,j,rfl,rfl,hq,hj,FH,q]:=h;ext rx;let#[u,rfl,ru]:=vals1 rv;let#[t,rfl]:=ru;let#[ay,r,pl,hz]:=I.list hq;have hlen:=r.length;rw[List.length_map] at hlen hz;let#[o,ho,hc,n,hd]:=pl.isList;let#[c,dd,da,sl]:=o;ext hc;ext hd;have hjl:=(acS.mp hj).1;have qB:∀(m) (hm:m<ay.toArray.size),∃y t',ts[m]? = some y/\ay.toArray[m]=.int y t':=λm hm=>by
  have qk:m<ts.length:=by simp at hm;omega
  let#[w,hw,fH]:=r.get (by rw[abV,aa8 qk];rfl);let#[t',rfl]:=fH;refine#[ts[m],t',aa8 qk,?_];have:=(acS.mp hw).2;simpa using this
 have hsz:j<ay.toArray.size:=by simp;omega
 refine call_meets F.slot_list_index #[_,ho,rfl] F.entry_list_index (F.args_list_index_2 _ _) (SeqAt.list_indexAt l ay.toArray n dd sl (.int i t) (jk (.int i)) j hsz (by rw[aft] at hz;omega) ?_ (λm hm cY=>?_)) #[ho,λw hw=>vY (x:=.int i) #[t,rfl] rfl r (by rw[ajt];apply adR.mpr λ_ _=>rfl) w (by simpa using hw),#[.int j,H,I.tok _,#[_,rfl],q]]
 .let#[y,t',h1,h2]:=qB j hsz;rw[h2,MN];rw[hj] at h1;ext h1;apply aiZ _
 .let#[y,t',h1,h2]:=qB m hm;rw[h2,MN];refine aik.mpr λe=>FH m cY ?_
  rw[h1,eq_of_beq e]
end L2
namespace L2
def bR.m(r:bR k A cm)(h:j<=k:=by decide):bR j A cm:=r.mono h
end L2
namespace L2.Ev
open PySem PySem.Spec PyProof.Rows
def wC:D->D->Option D
 |.lst ds,.int i=>match fN ds with
  |some ts=>(ts.findIdx? (· == i)).map λj:Nat=>.int j
  |none=>none
 |_,_=>none
def xX(ha:FP X a fa)(hb:FP X b fb)(hs:starEach [b] X.env=[(false,eval b X.env)]:=by rfl)(jN:attributeBase a "index" X.env (eval a X.env)=eval a X.env:=by rfl)
  (jM:((backTo p3 (starEach [b] X.env)).all (λx=>!x.1)&&(backToKw p3 (keywordEach [] X.env)).all (λx=>x.1.isSome)&&decide ([b].length+([]:List Keyword).length+(if([]:List Keyword).isEmpty then 0 else 1)<30))=true:=by rfl)
  (jR:(p2.endLine==p3.line)=true:=by rfl):FP X (.Call (.Attribute a "index" p2) [b] [] p3) (e2 wC fa fb):=by
 let#[ta,pa,sa]:=ha;let#[tb,pb,sb]:=hb;exists 21,um PySem.F.plainAttrs_list PySem.F.slot_list_index PySem.F.type_list_index Yi pa (dX pb fT hs) jN jM jR hs rfl;let#[d1,t1,d2,t2,e1,iS,e3,rfl]:=pH e;refine sa ok e1 λH1 x f1 s1 r1 _=>?_
 cases d1 with
 |lst ds=>
  cases d2 with
  |int i=>
   have e3:(match fN ds with|some ts=>(ts.findIdx? (· == i)).map λj:Nat=>D.int j|none=>none)=some d:=e3;cases h:fN ds with
   |none=>rw[h] at e3;ext e3
   |some ts=>
    rw[h] at e3;dsimp only at e3;cases h2:ts.findIdx? (· == i) with
    |none=>rw[h2] at e3;ext e3
    |some j=>
     rw[h2] at e3;ext e3;let#[l0,xs0,f0,rfl,hq0,rs0,_]:=r1.fq;refine#[.inl #[rfl,_,hq0],?_];refine sb (ok.same s1) iS λH2 y f2 s2 r2 _=>?_
     let#[rfl,_]:=r2.i_;have HP:=r1.same s2;let#[l,xs,f,e0,hq,rs,_]:=HP.fq;ext e0;have hx:=uQ rs h;subst hx;let#[hj,hp,FH]:=List.findIdx?_eq_some_iff_getElem.mp h2;refine#[l0,ts,i,j,rfl,rfl,hq,?_,λm hm em=>?_,k H2 _ [] (s1.trans s2) (.int _) #[acm,λa m=>nomatch m]]
     .rw[aa8 hj,eq_of_beq hp]
     .let#[qk,e']:=acS.mp em;apply FH m hm (by rw[e'];apply aiZ _)
  |_=>ext e3
 |_=>ext e3
end L2.Ev
namespace L2
open PySem PySem.Spec PyProof.Rows
def Gf{K:Fr}(h:AQ K=true):∀r∈jy K,jy K=[r]/\PySem.W.codeHdIn K r.1 r.2.1=true/\K.lookup r.2.1=none:=λr m=>by
 have ok:=((aav _ _).mp h).2
 split at ok
 .rename_i e;rw[e] at m;ext m
 .rename_i r' e;rw[e] at m;cases aaD.mp m;let#[a,b]:=(aav _ _).mp ok;apply#[e,a,by simpa using b]
 .cases ok
def wu(K:Fr):Hp:=λb=>match jy K with
 |[r]=>if b=r.2.1 then some (.i0 r.2.2.1 r.2.2.2) else none
 |_=>none
def YW{K:Fr}
  (KX:K.In cL.heap) (yD:AQ K=true) (Am:∀r∈jy K,cL.heap.get? r.2.1=some (PySem.W.tabObj ([].toArray))) (vf:cL.heap.Ns mainGlobals mg) (hb:cL.heap.Ns builtinsNs mb) (Yo:∀x:Str,x≠"__name__"->mb x=bootBuiltins x) (aa5:cL.heap.NoLimit)
  (VT:∃bm ob,mg "__builtins__"=some (.ref bm)/\bm≠builtinsNs/\cL.heap.get? bm=some ob/\ob.cls=.type "module"/\ob.dict=some builtinsNs/\ob.data=.plain) (hg:cL.gens=([].toArray))
  (ha:cL.heap.get? a=some { cls:=.type "list",data:=.seq vs.toArray }) (hi:IntsAre vs ns) (hl:ns.length<=sizeLine) (hr:bR k callerA)
  (F:∀base:Heap,K.In base->base.Ns mainGlobals mg->bS P w K mg base CX k fa fd [x] sp) (adk:∀(s) (u),BindsTo s fd #[[u],[]] [(x,u)])
  (rq:∀H:Hp,Ev.rG K H a (ns.map V.int)->sp [.ref a] H (λv _=>v=.bl true) λ_ _ _=>False) (Fg:∀H e s',CX [] H cL (λ_ _ _=>False) e s'->False) :
  codeAny (model P w) callerA (.call (.ref fa) #[[.ref a],[]]) (λr s'=>r=.ok (.ret (.bool true))/\OldK cL.heap s'.heap/\s'.os=cL.os/\AllBare s'.gens) cL:=by
 have rv:=Kl hi;have adB:=hi.length;have tab_of:∀{b} {u},wu K b=some u->∃r∈jy K,b=r.2.1/\u=.i0 r.2.2.1 r.2.2.2:=λ{b u} e=>by
  unfold wu at e
  split at e
  .rename_i r er;let#[h,e]:=ci e;ext e;apply#[r,by rw[er];apply List.mem_singleton_self r,h,rfl]
  .cases e
 have P1:∀r∈jy K,wu K r.2.1=some (.i0 r.2.2.1 r.2.2.2):=λr m=>by
  unfold wu;rw[(Gf yD r m).1];apply if_pos rfl
 have na:∀r∈jy K,r.2.1≠a:=λr m z=>by
  have:=Am r m;rw[z,ha] at this;ext this
 have core:∀H:Hp,Ev.rG K H a (ns.map V.int)->(∀b u,H b=some u->(b=a/\K.lookup a=none/\u=.cR { cls:=.type "list",data:=.seq vs.toArray } (.lst (ns.map V.int)))\/∃r∈jy K,b=r.2.1/\u=.i0 r.2.2.1 r.2.2.2)->(∀r∈jy K,H r.2.1=some (.i0 r.2.2.1 r.2.2.2))->
   codeAny (model P w) callerA (.call (.ref fa) #[[.ref a],[]]) (λr s'=>r=.ok (.ret (.bool true))/\OldK cL.heap s'.heap/\s'.os=cL.os/\AllBare s'.gens) cL:=by
  intro H hS hA hL;have aM:dU P w H cL.heap:=λb u e=>by
   rcases hA b u e with⟨rfl,_,rfl⟩|⟨r,m,rfl,rfl⟩
   .exact#[ha,by rw[List.length_map];apply hl,vs,_,rv,ha]
   .exact#[([].toArray),Am r m,.inl rfl]
  have free:∀{b} {o},cL.heap.get? b=some o->(∀xs n,o.data≠.seq xs n)->(∀xs,o.data≠.fields xs)->H b=none:=λ{b o} e d1 d2=>by
   cases q:H b with
   |none=>rfl
   |some u=>
    rcases hA b u q with⟨rfl,_,_⟩|⟨r,m,rfl,_⟩
    .rw[ha] at e;ext e;apply absurd rfl (d1 _ _)
    .rw[Am r m] at e;ext e;apply absurd rfl (d2 _)
  have D4:∀{b} {m},cL.heap.Ns b m->(se cL.heap H).Ns b m:=λ{b m} ⟨o,es,ep,e,d,r⟩=>#[o,es,ep,GP e (free e (λ_ _ z=>by rw[d] at z;ext z) λ_ z=>by rw[d] at z;ext z),d,r]
  have Px:K.In (se cL.heap H):=λb o e=>GP (KX b o e) (by
   cases q:H b with
   |none=>rfl
   |some u=>
    rcases hA b u q with⟨rfl,z,_⟩|⟨r,m,rfl,_⟩
    .rw[z] at e;ext e
    .rw[(Gf yD r m).2.2] at e;ext e)
  let#[bm,ob,b1,b2,b3,b4,b5,b6]:=VT;have hM:Mod K mg (se cL.heap H):=#[Px,D4 vf,#[mb,D4 hb,Yo],let#[mc,h1,h2]:=aa5;#[mc,D4 h1,h2],bm,ob,b1,b2,GP b3 (free b3 (λ_ _ z=>by rw[b6] at z;ext z) λ_ z=>by rw[b6] at z;ext z),b4,b5,b6]
  have e0:uN P w K mg (se cL.heap H) callerA [] cL H:=#[rfl,hM,λb o e=>VN e,Nat.le_of_eq (adK _ _),trivial,λb hb=>absurd (show b∈([]:List Addr) from hb) (by simp),aM,.of_eq hg,#[.inl rfl,yD,hL]]
  refine ajq ((F _ Px (D4 vf)).run callerA [] cL H #[[.ref a],[]] [.ref a] [.ref a] _ _ hr e0 (adk cL (.ref a)) (.cons rfl .nil) (rq H hS)) λr s' h=>?_
  cases r with
  |error e=>apply(Fg H e s' h).elim
  |ok fl=>
   cases fl with
   |next=>apply False.elim h
   |brk=>apply False.elim h
   |cont=>apply False.elim h
   |ret u=>
    let#[v,H',os,bare,un,TJ,r',q]:=h;have q':=q;subst q';obtain rfl:u=Value.bool true:=r';refine#[rfl,#[λb o e=>?_,λb o e=>un.there b o e (by simp)],os,bare];cases q:H b with
    |none=>apply .inl (un.keep b o e q (by intro z;apply absurd (show b∈([]:List Addr) from z) (by simp)) (by simp))
    |some u=>
     rcases hA b u q with⟨rfl,_,rfl⟩|⟨r,m,rfl,rfl⟩
     .have z2:=un.jv b _ _ q;let#[e1,_]:=aM b _ q;let#[e2,_]:=TJ b _ z2;rw[e] at e1;ext e1;apply .inl e2
     .have z2:=un.jD r.2.1 (.i0 _ _) q;let#[ps,e2,_]:=TJ _ _ z2;rw[Am r m] at e;ext e;apply .inr (.inl #[((PySem.W.codeHd_of_K KX (Gf yD r m).2.1).tab (Am r m)).isCodeTable,rfl,([].toArray),ps,rfl,by simpa using e2])
 cases hk:K.lookup a with
 |some o=>
  have e:=KX a o hk;rw[ha] at e;ext e;refine core (wu K) (.inr #[_,vs.toArray,_,hk,rfl,rfl,rfl,by rw[abF,adB];apply hl,by simpa using rv]) (λb u z=>.inr (tab_of z)) P1
 |none=>
  refine core (λb=>if b=a then some (.cR { cls:=.type "list",data:=.seq vs.toArray } (.lst (ns.map V.int))) else wu K b) (.inl #[{ cls:=.type "list",data:=.seq vs.toArray },if_pos rfl]) (λb u z=>?_) λr m=>(aa0 (na r m)).trans (P1 r m)
  by_cases hb:b=a
  .have z':=(if_pos hb).symm.trans z;ext z';apply .inl #[hb,hk,rfl]
  .exact .inr (tab_of ((aa0 hb).symm.trans z))
def adN{l:PySem.W.OpenLaw}{K:Params->Fr}{CX:World->qS}{sp:World->Sp}
  (hn:l.most=some n) (xU:n<=sizeLine) (Af:d.params.defaults=[]) (hr:bR k callerA) (hY:∀(w) (h),YP w h->(K w.params).In h) (hT:∀(w) (h),YP w h->∀r∈jy (K w.params),h.get? r.2.1=some (PySem.W.tabObj ([].toArray))) (hL:∀w:World,AQ (K w.params)=true)
  (F:∀(w) (mg) (fa) (h),(K w.params).In h->h.Ns mainGlobals mg->mg d.name=some (.ref fa)->
   ∃fd:FuncData,(∀(s) (u),BindsTo s fd #[[u],[]] [(x,u)])/\∀base:Heap,(K w.params).In base->base.Ns mainGlobals mg->bS l.prog w (K w.params) mg base (CX w) k fa fd [x] (sp w))
  (rq:∀(w) (H) (a) (ns:List Int),ns.length<=n->Ev.rG (K w.params) H a (ns.map V.int)->sp w [.ref a] H (λv _=>v=.bl true) λ_ _ _=>False)
  (Fg:∀(w) (H) (s) (e) (s'),CX w [] H s (λ_ _ _=>False) e s'->False) :
  PySem.W.WalkO q loose XP YP l.row.toRowW d [] (λf vs=>PySem.call f vs):=by
 refine OV.Wv hn Af λw dH cL mg mb fa o pm cd doc a vs ns G YY ho hd kR yt JB hints hlen hg=>?_
 let#[fd,hb,hF]:=F w mg fa _ (hY w _ YY) G.T.g yt;apply YW (hY w _ YY) (hL w) (hT w _ YY) G.T.g G.T.b G.T.builtins G.T.nolimit G.T.bmain hg JB hints (aeC hlen xU) hr hF hb (λH hS=>rq w H a ns hlen hS) λH e s'=>Fg w H cL e s'
end L2
namespace L2.Ev
open PySem PySem.Spec PySem.W PyProof.Rows
structure Z where
 P:Program
 w:World
 K:Frag
 mg:Str->Option Value
 base:Heap
structure En(L:Ls)(z:Z):Prop where
 b:∀{x},L.bt.contains x=true->z.mg x=none
 i:∀{x} {n},L.gi.lookup x=some n->∃t,z.mg x=some (.int n t)
 t:∀{x} {l},L.tp.lookup x=some l->∃a,z.mg x=some (.ref a)/\Bk z.K a l
 c:∀c:Str,L.cl.contains c=true->ClsAt z.K c (cA z.K c)
 m:∀{c},L.cl.contains c=true->z.mg c=some (.ref (cA z.K c))
 n:∀{c a},L.na.contains (c,a)=true->jb z.K (cA z.K c) a
 ni:L.ni=true->wm z.K=true
 g:∀{c},L.ex.contains c=true->nsIn z.K mainGlobals c=some (some (.ref (cA z.K c)))
 e:∀{c},L.ex.contains c=true->z.mg c=some (.ref (cA z.K c))
 x:∀{c},L.xc.contains c=true->BG z.K (cA z.K c)
 ct:∀{c} {ns},L.ct.lookup c=some ns->Zb z.K ns (cA z.K c)
 kt:∀{c} {tb},L.kt.lookup c=some tb->ae5 z.K tb (kv z.K c)
 ki:∀{c} {p},L.ki.lookup c=some p->XG z.K p.2 (p.1.map (cA z.K))
def iQ(s:Stmt):List Str:=(mU s).args.map (·.arg)
theorem Sg:∀{l:List Str} {us},us.map strOf=l.map some->aW (l.map V.str) us
 |[],[],_=>.nil
 |[],_::_,e=>nomatch e
 |_::_,[],e=>nomatch e
 |a::l,u::us,e=>by
  let#[e1,e2]:=List.cons.inj e;refine .cons ?_ (Sg e2);ext u<;>ext e1
  apply#[_,rfl]
def ag4{K:Frag}(q:JJ K x l=true):∃a,nsIn K mainGlobals x=some (some (.ref a))/\Bk K a l:=by
 unfold JJ at q
 split at q
 .rename_i a h;refine#[a,h,?_]
  split at q
  .rename_i c ay n sl h1;simp only[aav,ahF,agC] at q;apply#[_,ay,_,h1,q.1.1,rfl,rfl,q.1.2,Sg q.2]
  .cases q
 .cases q
theorem rT:∀{l:List (Str×β)},l.lookup x=some y->(x,y)∈l
 |[],e=>nomatch e
 |(a,b)::l,e=>by
  rw[afj] at e
  by_cases h:(x==a)=true
  .rw[h] at e;ext e;rw[eq_of_beq h];apply .head _
  .rw[show(x==a)=false by simpa using h] at e;apply .tail _ (rT e)
def P6{K:Frag}(h:ek K r=true):Lv K (cA K r):=by
 unfold ek at h;simp only[aav,ahF] at h;let#[#[#[#[#[#[h1,h2],h3],h4],h5],h6],h7]:=h;apply#[h1,h2,h3,h4,h5,h6,h7,adu h6]
def Wt{L:Ls}{K:Frag}(X:K.In h)(G:h.Ns mainGlobals mg)(q:tU L K=true):En L #[P,w,K,mg,base]:=by
 unfold tU at q;simp only[aav,adR,ahF] at q;let#[#[#[#[#[#[qi,qx],q1],q2],q3],q4],q5]:=q;unfold Rj at qx;simp only[aav,adR,ahF,ae3] at qx;let#[#[#[#[x1,x2],x3],x4],x5]:=qx;have cx:∀{r} {C},r∈L.ex->nsIn K mainGlobals r=some (some (.ref C))->C=cA K r:=λm e=>by
  rw[x1 _ m] at e;ext e;rfl
 have cl:∀c:Str,L.cl.contains c=true->yc K c=true:=λc h=>q4 c (ae3.mp h)
 refine#[λh=>mg_none_of X G (q1 _ (ae3.mp h)),λ{x n} h=>?_,λh=>?_,λc h=>?_,λ{c} h=>?_,λh=>q5 _ (ae3.mp h),λh=>?_,λh=>x1 _ (ae3.mp h),λh=>mg_of X G (x1 _ (ae3.mp h)),λh=>V1 (x2 _ (ae3.mp h)),λh cn C h1 hn=>?_,λh cn b C h1 hn=>?_,λh cn b C h1 hn=>?_]
 .have:=q2 _ (rT h);unfold TQ at this
  split at this
  .rename_i m t e;cases eq_of_beq this;apply#[t,mg_of X G e]
  .cases this
 .let#[a,e,t]:=ag4 (q3 _ (rT h));apply#[a,mg_of X G e,t]
 .have:=cl c h;unfold yc at this;simp only[aav,ahF] at this;let#[#[#[#[#[#[h1,h2],h3],h4],h5],_],_]:=this;apply#[h1,#[h2,h3,h4,h5]]
 .have:=cl c h;unfold yc at this;simp only[aav,ahF] at this;apply mg_of X G this.1.1.1.1.1.1
 .rw[h] at qi;apply qi
 .let#[#[a1,a2],a3]:=x3 _ (rT h);let#[#[b1,b2],b3]:=a3 cn (ae3.mp h1);cases cx b2 hn;apply Zi (Sd (x2 _ b1)) (Sd (x2 _ a1)) b3 a2
 .let#[#[a1,a2],a3]:=x4 _ (rT h) _ (rT h1);cases cx a1 hn;apply#[P6 a2,a3]
 .let#[#[a1,a2],a3]:=x5 _ (rT h) _ (rT h1);cases cx a1 hn;apply#[P6 a2,a3]
def ahk{K:Frag}(q:tU L K=true)(h:L.cl.contains c=true):makesIn K (cA K c)=true/\keepIn K (.ref (cA K c))=true:=by
 unfold tU at q;simp only[aav,adR] at q;have:=q.1.2 c (ae3.mp h);unfold yc at this;simp only[aav] at this;apply#[this.1.2,this.2]
def R8{K:Frag}(e:LM K q v=some (fnOf x q (mU s) (iH s) (di s) .none .none .none .none none .none .none)):∃f,v=some (some (.ref f))/\isFn K (.ref f)=true/\GL K x q s f:=by
 unfold LM at e
 split at e
 .rename_i a
  split at e
  .rename_i oc od fd sl h;let#[hc,e]:=ci e;simp only[aav] at hc;refine#[a,rfl,hc.2,?_];let#[n,qn,pa,bo,sc,gl,cl,df,kw,dc,pm,an,cd,ct,bi]:=fd;unfold UL at e;injection e with e;injection e with e1 e2 e3 e4 e5 e6 e7 e8 e9 e10 VB e12 e13 e14 e15;subst e1 e2 e3 e4 e5 e6 e7 e8 e15;apply#[_,_,_,_,_,_,_,_,_,h,hc.1.1,hc.1.2]
  .cases e
 .cases e
def Mt{K:Frag}{tab:List (Str×Stmt)}{i:Nat}(t:tab.map (look K)=tab.map want)(e:tab[i]? = some p):look K p=want p:=by
 have:=congrArg (·[i]?) t;simp only[abV,e,Option.map_some] at this;apply abH this
def BS{K:Frag}{tab:List (Str×Stmt)}(i:Nat){s:Stmt}(t:tab.map (look K)=tab.map want)(e:tab[i]? = some (Str.empty,s)):De K (gI s) s:=by
 let#[f,h,_,g]:=R8 (Mt t e);apply#[f,h,g]
def Gs{K:Frag}{tab:List (Str×Stmt)}(i:Nat){c:Str}(t:tab.map (look K)=tab.map want)(e:tab[i]? = some (c,s))(n:(c==Str.empty)=false):GM K (cA K c) (gI s) (i9 c s) s:=by
 let#[f,h,i,g]:=R8 (Mt t e);refine#[f,?_,i,g];rw[n] at h;apply h
section
variable(z:Z)(k:Nat)(c:Str)(s:Stmt)(sp:Frag->Sp)(cm:Bool:=true)
def Z.D:Prop:=∀(f) (fd),jj z.K (gI s) (i9 c s) s f fd->bS z.P z.w z.K z.mg z.base dR k f fd (iQ s) (sp z.K) cm
def Z.DR:Prop:=∀(f) (fd),jj z.K (gI s) (i9 c s) s f fd->bS z.P z.w z.K z.mg z.base (f_ z.P z.w) k f fd (iQ s) (sp z.K) cm
def Z.N:Prop:=FN z.P z.w z.K z.mg z.base dR k (gI s) (iQ s) (sp z.K) cm
def Z.M:Prop:=MT z.P z.w z.K z.mg z.base dR k (cA z.K c) (gI s) (iQ s) (sp z.K) cm
def Z.MR:Prop:=MT z.P z.w z.K z.mg z.base (f_ z.P z.w) k (cA z.K c) (gI s) (iQ s) (sp z.K) cm
def Z.I:Prop:=MI z.P z.w z.K z.mg z.base dR k (cA z.K c) (iQ s) (sp z.K) cm
end
section
variable{K:Frag}
def FN.G(W:FN P w K mg base CX k x ps sp cm):bS P w K mg base CX k W.choose W.choose_spec.choose ps sp cm:=W.choose_spec.choose_spec.1
def FN.m(W:FN P w K mg base CX k x ps sp cm):mg x=some (.ref W.choose):=W.choose_spec.choose_spec.2.1
def FN.kp(W:FN P w K mg base CX k x ps sp cm):keepIn K (.ref W.choose)=true:=W.choose_spec.choose_spec.2.2.1
def FN.b(W:FN P w K mg base CX k x ps sp cm):Binds K W.choose_spec.choose ps []:=W.choose_spec.choose_spec.2.2.2
def MT.G(W:MT P w K mg base CX k C x ps sp cm):bS P w K mg base CX k W.choose W.choose_spec.choose ps sp cm:=W.choose_spec.choose_spec.1
def MT.b(W:MT P w K mg base CX k C x ps sp cm):Binds K W.choose_spec.choose ps []:=W.choose_spec.choose_spec.2.1
def MT.t(W:MT P w K mg base CX k C x ps sp cm):j_ K C x W.choose:=W.choose_spec.choose_spec.2.2
def MI.G(W:MI P w K mg base CX k C ps sp cm):bS P w K mg base CX k W.choose W.choose_spec.choose ps sp cm:=W.choose_spec.choose_spec.1
def MI.b(W:MI P w K mg base CX k C ps sp cm):Binds K W.choose_spec.choose ps []:=W.choose_spec.choose_spec.2.1
def MI.M(W:MI P w K mg base CX k C ps sp cm):Mk K C W.choose:=W.choose_spec.choose_spec.2.2
end
def jY(s:Stmt):List Str:=(di s).names.filterMap λy=>if y.2 == .local||y.2 == .cell then some y.1 else none
def A1(n m:Nat)(s:Stmt):Prop:=nC (jY s) (iQ s) (di s)/\(iQ s).length=n/\(jY s).length=m/\n<=m
section
variable{z:Z}
def Z.oF(S:A1 n m s)(h:∀(f) (fd:FuncData) (aZ:{c:Value // c=fd.code}) (A) (o) (t) (H) (E),bR k (A.deeper (envOfC (i9 c s) (di s) t.heap.objs.size f aZ)) cm->(jY s).Nodup->FS (ir dR z.P z.w z.K z.mg z.base (jY s) (i9 c s) (di s) f aZ A o t H E cm).gJ (iH s) b):
  z.D (k+1) c s (a_ · (bJ n m b)) cm:=by
 let#[S,rfl,rfl,_]:=S;apply λ_ _ F=>E_ F S λaZ A o t H E hr=>h _ _ aZ A o t H E hr S.nd
def Z.oQ(S:A1 n m s)(h0:(jY s)[0]? = some x0)(h:∀(f) (aZ) (A) (o) (t) (H) (E),bR k (A.deeper (envOfC (i9 c s) (di s) t.heap.objs.size f aZ))->(jY s).Nodup->Bg im ((ir dR z.P z.w z.K z.mg z.base (jY s) (i9 c s) (di s) f aZ A o t H E).gJ.nH [x0]) (iH s) b):
  z.D (k+1) c s (Bj im · (runM n m b)):=by
 let#[S,rfl,rfl,l]:=S;apply λ_ _ F=>aey F S h0 λaZ A o t H E hr=>h _ aZ A o t H E hr S.nd
def Z.oM(S:A1 n m s)(h0:(jY s)[0]? = some x0)(h:∀(f) (aZ) (A) (o) (t) (H) (E),bR k (A.deeper (envOfC (i9 c s) (di s) t.heap.objs.size f aZ))->(jY s).Nodup->Bg true ((ir dR z.P z.w z.K z.mg z.base (jY s) (i9 c s) (di s) f aZ A o t H E).gJ.nH [x0]) (iH s) b):
  z.D (k+1) c s (eU · (runM n m b)):=λ_ _ F=>(Z.oQ S h0 h _ _ F).imp ad9
def Z.oP(S:A1 n m s)(h0:(jY s)[0]? = some x0)(h:∀(f) (aZ) (A) (o) (t) (H) (E),bR k (A.deeper (envOfC (i9 c s) (di s) t.heap.objs.size f aZ))->(jY s).Nodup->Bg false ((ir dR z.P z.w z.K z.mg z.base (jY s) (i9 c s) (di s) f aZ A o t H E).gJ.nH [x0]) (iH s) b):
  z.D (k+1) c s (rJ · (runM n m b)):=λ_ _ F=>(Z.oQ S h0 h _ _ F).imp adq
def Z.oR(S:A1 n m s)(h:∀(f) (aZ) (A) (o) (t) (H) (E),bR k (A.deeper (envOfC (i9 c s) (di s) t.heap.objs.size f aZ))->(jY s).Nodup->FS (ir (f_ z.P z.w) z.P z.w z.K z.mg z.base (jY s) (i9 c s) (di s) f aZ A o t H E) (iH s) b):
  z.DR (k+1) c s (jt · (lW n m b)):=by
 let#[S,rfl,rfl,l]:=S;apply λ_ _ F=>YT F S l λaZ A o t H E hr=>h _ aZ A o t H E hr S.nd
end
section
variable{K:Frag}{tab:List (Str×Stmt)}
def eT(X:K.In h)(G:h.Ns mainGlobals mg)(t:tab.map (look K)=tab.map want)(i:Nat)(o:Z.D #[P,w,K,mg,base] k Str.empty s sp cm)(b:BA (gI s) (gI s) s (iQ s):=by walk_at "ba")(e:tab[i]? = some (Str.empty,s):=by rfl):Z.N #[P,w,K,mg,base] k s sp cm:=RD X G (BS i t e) (λF=>o _ _ F) b
def dW(t:tab.map (look K)=tab.map want)(i:Nat)(o:Z.D #[P,w,K,mg,base] k c s sp cm)(b:BA (gI s) (i9 c s) s (iQ s):=by walk_at "ba")(e:tab[i]? = some (c,s):=by rfl)(n:(c==Str.empty)=false:=by rfl):Z.M #[P,w,K,mg,base] k c s sp cm:=SH (Gs i t e n) (λF=>o _ _ F) b
def zX(t:tab.map (look K)=tab.map want)(i:Nat)(o:Z.DR #[P,w,K,mg,base] k c s sp cm)(b:BA (gI s) (i9 c s) s (iQ s):=by walk_at "ba")(e:tab[i]? = some (c,s):=by rfl)(n:(c==Str.empty)=false:=by rfl):Z.MR #[P,w,K,mg,base] k c s sp cm:=SH (Gs i t e n) (λF=>o _ _ F) b
def Gy(t:tab.map (look K)=tab.map want)(q:tU L K=true)(i:Nat)(o:Z.D #[P,w,K,mg,base] k c s sp cm)(b:BA (gI s) (i9 c s) s (iQ s):=by walk_at "ba")(e:tab[i]? = some (c,s):=by rfl)(n:(c==Str.empty)=false:=by rfl)(y:gI s="__init__":=by rfl)(v:L.cl.contains c=true:=by rfl):Z.I #[P,w,K,mg,base] k c s sp cm:=by
 have l:=Gs i t e n;let#[a,b']:=ahk q v;let#[f,e1,i,l]:=l;let#[kp,fd,F]:=Bf l;rw[y] at e1;apply#[f,fd,o _ _ F,F.binds b,#[a,e1,i,b']]
end
section
variable{st:Stmt}
def ba_n(n:Nat)(h:ps.length=n)(e:∀(kV doc pm) (an) (aZ ct) (f:Fin n->Value),bindArgs (fnOf x q (mU st) (iH st) (di st) .none kV doc pm an aZ ct) #[List.ofFn f,[]]=pure (ps.zip (List.ofFn f))):BA x q st ps:=λkV doc pm an aZ ct us hl=>by
 obtain rfl:=hl.trans h;have:=e kV doc pm an aZ ct λi=>us[(i:Nat)]
 rwa [List.ofFn_getElem] at this
end
def qu(h:∃t,X.mg x=some (.int n t))(hg:GD X x:=by apply#[rfl,by decide]):FP X (.Name x pos) (eC (.int n)):=let#[_,h]:=h;ac1 h hg
def F1(h:∃t,X.mg x=some (.ref t)/\Bk X.K t ys)(hg:GD X x:=by apply#[rfl,by decide]):FP X (.Name x pos) (eC (.tup (ys.map D.str))):=let#[_,h,t]:=h;Zz h t hg
def gW(h3:X.env.kindOf=λx=>X.env.scope.names.lookup x)(h:AG X.N X.env.scope sc M js=true):mK X M js sc:=YQ rfl rfl h3 h
section
variable{A:Z->Prop}
abbrev wF{F:List D->Option D}(_:∀z,A z->z.D k c s (a_ · F) cm)(z:Z):Prop:=z.N k s (a_ · F) cm
abbrev wP{F:MF}(_:∀z,A z->z.D k c s (rJ · F) cm)(z:Z):Prop:=z.N k s (rJ · F) cm
abbrev wG{F:List D->Option D}(_:∀z,A z->z.D k c s (a_ · F) cm)(z:Z):Prop:=z.M k c s (a_ · F) cm
abbrev wO{F:MF}(_:∀z,A z->z.D k c s (eU · F) cm)(z:Z):Prop:=z.M k c s (eU · F) cm
abbrev wI{F:MF}(_:∀z,A z->z.D k c s (eU · F) cm)(z:Z):Prop:=z.I k c s (eU · F) cm
abbrev wR{F:List D->Option Rz}(_:∀z,A z->z.DR k c s (jt · F) cm)(z:Z):Prop:=z.MR k c s (jt · F) cm
abbrev fF{F:List D->Option D}(_:∀z,A z->z.D k c s (a_ · F) cm):List D->Option D:=F
abbrev fO{F:MF}(_:∀z,A z->z.D k c s (eU · F) cm):MF:=F
abbrev fP{F:MF}(_:∀z,A z->z.D k c s (rJ · F) cm):MF:=F
abbrev fR{F:List D->Option Rz}(_:∀z,A z->z.DR k c s (jt · F) cm):List D->Option Rz:=F
end
def rS(Y:aR)(j:Nat):aR:=(Y.map (Gi j)).set j none
def Ok.out{K:Frag}(ok:Ok K H0 S z aq Y U H)(hj:Y[j]? = some (some (d,.own)))(r:Rep K H d v fp)(hz:∀a∈fp,z a=some j):
  ∃z',Ok K H0 S z' aq (rS Y j) U (λc=>if c∈fp then none else H c):=by
 classical
 have im:bf H (λc=>if c∈fp then none else H c):=by
  have st:∀{c} {o},H c=some o->lR o=false->(if c∈fp then none else H c)=some o:=λ{c o} e mo=>by
   rw[aa0 λm=>?_]
   .exact e
   .let#[o',w,zO]:=r.fu c m;rw[e] at w;ext w;rw[mo] at zO;ext zO
  apply#[λc xs e=>st e rfl,λc o u e=>st e rfl,λc φ e=>st e rfl]
 have fr:∀{d v g},Rep K H d v g->(∀a∈g,z a≠some j)->Rep K (λc=>if c∈fp then none else H c) d v g:=λr h=>r.frame (λa m=>aa0 λq=>h a m (hz a q)) im
 have at_:∀{a k},(if z a=some j then none else z a)=some k->z a=some k/\k≠j:=λ{a k} e=>by
  by_cases h:z a=some j
  .rw[if_pos h] at e;ext e
  .rw[aa0 h] at e;apply#[e,λq=>h (q ▸ e)]
 refine#[λa=>if z a=some j then none else z a,λk d t e=>?_,λp m=>?_,λa k e=>?_,λa o e n=>?_,?_]
 .unfold rS at e
  by_cases hk:k=j
  .subst hk;rw[agc (by rw[List.length_map];apply(acS.mp hj).1)] at e;ext e
  .rw[adt (ahc hk),abV] at e;let#[s,e0,e]:=abW.mp e;let#[rfl,h2]:=Ig e;let#[v,g,hs,r1,zz]:=ok.sl k d t e0;have own:(∀a∈g,z a=some k)->∀a∈g,z a≠some j:=λh a m q=>by rw[h a m] at q;apply hk (abH q)
   cases t with
   |sh o=>apply#[v,g,hs,fr r1 λa m q=>h2 o rfl (zz a m j q),λa m i e=>zz a m i (at_ e).1]
   |own=>apply#[v,g,hs,fr r1 (own zz.2),zz.1,λa m=>(aa0 (own zz.2 a m)).trans (zz.2 a m)]
   |lk=>apply#[v,g,hs,fr r1 (own zz.2),zz.1,λa m=>(aa0 (own zz.2 a m)).trans (zz.2 a m)]
 .let#[r1,h]:=ok.hl p m;refine#[fr r1 λa m q=>(h a m j q).2 d hj,λa m k e=>?_];let#[h1,h2]:=h a m k (at_ e).1;refine#[h1,λd' q=>h2 d' ?_];unfold rS at q;rw[adt (ahc (at_ e).2),abV] at q;let#[s,e0,q]:=abW.mp q;rw[e0,(Ig q).1]
 .let#[e1,e2]:=at_ e;let#[#[o,w],y]:=ok.zd a k e1;apply#[#[o,(aa0 λm=>by rw[hz a m] at e1;apply e2 (abH e1).symm).trans w],y]
 .show(if a∈fp then none else H a)=some o;rw[aa0 λm=>?_]
  .exact ok.en a o e n
  .rcases(ok.zd a j (hz a m)).2 with w|w
   .rw[e] at w;ext w
   .exact n w
 .unfold rS;rw[ajr,List.length_map];apply ok.ln
end L2.Ev
namespace L2
open PySem PySem.Spec PyProof.Rows
def ab6{P:Program}{w:World}{k:Key}{u:Value}(h:(gO P w).is k u=true):RelV (kV k) u:=by
 rcases mO h with⟨i,t,rfl,rfl⟩|⟨x,t,rfl,rfl⟩
 .exact#[t,rfl]
 .exact#[t,rfl]
theorem KV.at{κ:Type}:∀{ao:List (κ×V)}{vs:List (κ×Value)}{i:Nat}{p:κ×V},KV ao vs->ao[i]? = some p->∃q,vs[i]? = some q/\p.1=q.1
 |_,_,i,p,.nil,e=>by simp at e
 |_,_,0,p,.cons r _,e=>by ext e;apply#[_,rfl,r.1]
 |_,_,i+1,p,.cons _ t,e=>KV.at (i:=i) t e
def Pu(a:Addr)(o:Obj)(ao:List (Key×V)):It:=#[λi H=>i<ao.length/\H a=some (.cR o (.dK ao)),λi H x H'=>H'=H/\∃p,ao[i]? = some p/\x=kV p.1,λi H=>ao.length<=i/\H a=some (.cR o (.dK ao)),false]
def ahm{P:Program}{w:World}{K:Fr}{tg:Expr}(a it:Addr){o:Obj}{es:Array DictEntry}{ep:Nat}{ao:List (Key×V)}{vs:List (Key×Value)}(kv:KV ao vs)(h1:o.ExactDict)(h2:o.data=.dict es ep)(h3:KeysOf (gO P w) es)(h4:Pairs (gO P w) es.toList vs)(h5:(vs.map (·.1)).Nodup):
  Turn P w K tg (Pu a o ao) [it] it (λi h=>h.IsKeyIter it a i vs.length ep) where
 mem:=by simp
 obj:=λi h st b hb=>by
  have e:b=it:=by simpa using hb
  subst e;let#[o,e,c,d]:=st;apply#[o,e,λv z=>by rw[d] at z;ext z]
 keep:=λi h h' st k=>by
  let#[o,e,c,d]:=st;apply#[o,k it (by simp) o e,c,d]
 item:=by
  intro X hP hw hK hc i af s U H E I hf st hg;subst hP hw hK;let#[hi,hH]:=hg;let#[ho,_]:=(show s.heap.get? a=some o/\dZ X.prog X.w H s.heap a (.dK ao) from I.aM a _ hH)
  let#[f0,f1,f2,f3,f4,f5]:=hf it (by simp);let#[q,hq,e]:=kv.at (aa8 hi);refine wpAny_pyNext_dict_item st #[o,es,ho,h1,h2,h3,h4,h5] hq λkey h' hk lQ sb=>?_
  have I1:Inv X af U H { s with heap:=h' }:=I.turned (λb o hb e=>(sb.2 b hb).trans e) f0 f1 f3 f4 f5;let#[o',e',c,d]:=id lQ;apply#[key,rfl,B0 e' c d (by decide) #[kV q.1,H,I1,ab6 hk,#[rfl,_,aa8 hi,by rw[e]],lQ,λb hb=>(hf b hb).1]]
 done:=by
  intro X hP hw hK hc i af s U H E I hf st hg;subst hP hw hK;let#[hi,hH]:=hg;let#[ho,_]:=(show s.heap.get? a=some o/\dZ X.prog X.w H s.heap a (.dK ao) from I.aM a _ hH)
  let#[f0,f1,f2,f3,f4,f5]:=hf it (by simp);have hl:=Paired.length kv;apply wpAny_pyNext_dict_end (I.ok.hd (hc.resolve_right λz=>aaH z)) st #[o,es,ho,h1,h2,h3,h4,h5] (ajs (by omega)) λh' eb=>#[rfl,I.turned (λb o hb e=>eb b o hb e) f0 f1 f3 f4 f5]
 self:=λ_ _ _ _ _ st h=>wpAny_pyIter_keyiter st h
def ZP(X:Cx)(tl:TE):TI:=λU H R=>tl U H λx H1=>∃a ao,x=.ref a/\H1 a=some (.dK ao)/\∀o,(∀o u,X.pG a≠some (.cR o u))->R (Pu a o ao) (upd H1 a (.cR o (.dK ao)))
def ahd{tg l:Expr}{tl:TE}(hl:PE X l tl):PI X tg l (ZP X tl):=by
 intro af s U H R I h;refine hl.n I h λv s1 x H1 I1 r1 q1=>?_
 let#[a,ao,e,ha,q]:=q1;subst e;ext r1;let#[_,V7,vs,kv,od]:=(show ao.length<=sizeLine/\(a==sysModules)=false/\∃vs,KV ao vs/\s1.heap.DictOf (gO X.prog X.w) a vs from I1.aM a _ ha)
 let#[ep,qB]:=od.dictAt;let#[o,es,ho,h1,h2,h3,h4,h5]:=id qB;refine wpAny_pyIter_dict V7 qB ?_;have I2:=I1.YR ha ho;refine#[s1.heap.objs.size,[s1.heap.objs.size],_,_,_,rfl,I2.kept λb o e=>aaq _ e,ahm a _ kv h1 h2 h3 h4 h5,#[_,abp _ rfl,rfl,rfl],λb hb=>?_,q o λo u z=>by rw[I1.base.jv a o u z] at ha;ext ha];have e:b=s1.heap.objs.size:=by simpa using hb
 subst e;apply I2.rZ (abi _) (I2.aM.fresh (abi _))
def Pf(K:Fr)(f c:Str):TT:=Tc (r_ EJ (r_ (C7 K) (Qs (IB K (qC 1) f) (qC 0)) (tC (.int 0))) (tC (.str c)))
def j9(c:Str)(ps:List ((Key×V)×Str)):List V:=(ps.filter λp=>decide (p.2=c)).map λp=>kV p.1.1
def WC(K:Fr)(i:Nat)(f c:Str):TE:=λU H Q=>∃b C dx fs a ao ss,U[i]? = some (some (.ref b))/\H b=some (.ins C dx fs)/\kg K C/\jb K C f/\fs.lookup f=some (.ref a)/\H a=some (.dK ao)/\(ao.map (·.1)).Nodup/\ao.length<sizeLine/\ao.length=ss.length/\
 (∀(j:Nat) (p:Key×V) (s:Str),ao[j]? = some p->ss[j]? = some s->∃t xs,p.2=.ref t/\cO K H t xs/\fC xs 0=some (.str s))/\∀D,H D=none->Q (.ref D) (upd H D (.lst (j9 c (ao.zip ss))))
def aei{ao:List (Key×V)}{j:Nat}{p:Key×V}(nd:(ao.map (·.1)).Nodup)(e:ao[j]? = some p):fM ao p.1=some p.2:=by
 induction ao generalizing j with
 |nil=>simp at e
 |cons q r ih=>
  let#[n1,n2]:=abo.mp nd;unfold fM;cases j with
  |zero=>ext e;rw[aiE (by simp)];rfl
  |succ j=>
   have e:=e;rw[agU (by simpa using λz:q.1=p.1=>n1 (abn.mpr #[p,ah6 e,z.symm]))];apply ih n2 e
def acw{i:Nat}{f c:Str}{tg iter elt:Expr}{ifs:List Expr}{sc:Scope}{pos:Pos}{M:List Str}(S:mK X M [none,some i] sc)(hc:X.calm=true)(hl:PE X iter (IB X.K (qC i) f))
  (hb:∀s3 H3 fp,PG (fB X M sc s3 H3 fp) tg (ug 0)/\tY (fB X M sc s3 H3 fp) ifs (Pf X.K f c)/\PE (fB X M sc s3 H3 fp) elt (qC 0)) (hs:∀x,foldedSetIterable iter X.env x=pure x:=by intro _;rfl) :
  PE X (.ListComp elt [#[tg,iter,ifs,0]] sc pos) (WC X.K i f c):=by
 intro af s U H Q I h;let#[b,C,dx,fs,a,ao,ss,BN,hB,cl,na,hf,ha,nd,hz,vm,hv,k]:=h;have nba:b≠a:=λz=>by rw[z,ha] at hB;ext hB
 refine cX (Vl S hc (ahd hl) hb hs af s U H (λv H'=>∃o D,(∀o u,X.pG a≠some (.cR o u))/\v=.ref D/\H D=none/\H'=upd (upd H a (.cR o (.dK ao))) D (.lst (j9 c (ao.zip ss)))) I ?_) λv s1 #[x,H',I',r,o,D,h0,e1,hD,e2]=>?_
 .refine#[.ref b,BN,b,C,dx,fs,.ref a,rfl,hB,cl,na,hf,a,ao,rfl,ha,λo h0 D hD=>?_];have k_:D≠a:=λz=>by rw[z,cg] at hD;ext hD
  rw[aP k_] at hD;have hnb:D≠b:=λz=>by rw[z,hB] at hD;ext hD
  refine#[λj m aG H'=>m=ao.length-j/\j<=ao.length/\(∃s0,aG=[s0,some (.ref b)])/\H'=upd (upd H a (.cR o (.dK ao))) D (.lst (j9 c ((ao.zip ss).take j))),#[_,rfl,aeQ _,#[none,by show[none,(U[i]?).join]=_;rw[BN];rfl],rfl],?_]
  rintro j m aG H' ⟨rfl,hj,⟨s0,rfl⟩,rfl⟩
  have ga:upd (upd H a (.cR o (.dK ao))) D (.lst (j9 c ((ao.zip ss).take j))) a=some (.cR o (.dK ao)):=by rw[aP (ahc k_),cg]
  by_cases cY:j<ao.length
  .refine .inr #[#[cY,ga],?_]
   rintro x H2 ⟨rfl,p,hp,rfl⟩
   have NL:=aa8 (vm ▸ cY);let#[t,xs,e1,hq,e2]:=hv j p _ hp NL;have zj:(ao.zip ss)[j]? = some (p,ss[j]'(vm ▸ cY)):=List.getElem?_zip_eq_some.mpr #[hp,NL];have tk:(ao.zip ss).take (j+1)=(ao.zip ss).take j++[(p,ss[j]'(vm ▸ cY))]:=by
    let#[l,e]:=acS.mp zj;rw[List.take_succ_eq_append_getElem l,e]
   have gq:cO X.K (upd (upd H a (.cR o (.dK ao))) D (.lst (j9 c ((ao.zip ss).take j)))) t xs:=by
    have n1:∀{u:HO}{ad:Addr},H ad=some u->(∀z,u≠.dK z)->upd (upd H a (.cR o (.dK ao))) D (.lst (j9 c ((ao.zip ss).take j))) ad=some u:=λ{u ad} e n=>by
     rw[aP (λz=>by rw[z,hD] at e;ext e),aP (λz=>by rw[z,ha] at e;ext e;apply n _ rfl)];apply e
    rcases hq with(h|⟨o',h⟩)|h
    .exact .inl (.inl (n1 h λ_ z=>by ext z))
    .exact .inl (.inr #[o',n1 h λ_ z=>by ext z])
    .exact .inr h
   refine#[.ref b,rfl,b,C,dx,fs,.ref a,rfl,by rw[aP (ahc hnb),aP nba];apply hB,cl,na,hf,kV p.1,rfl,a,p.2,rfl,.inl #[ao,p.1,.inr #[o,ga],rfl,(aei nd hp).symm],?_];refine#[t,xs,0,_,e1,rfl,gq,e2,rfl,?_];refine#[_,rfl,?_]
   by_cases Dq:ss[j]'(vm ▸ cY)=c
   .have:decide (V.str (ss[j]'(vm ▸ cY))=V.str c)=true:=aas (by rw[Dq]);rw[this];dsimp only;rw[if_pos rfl];refine#[_,rfl,_,cg,?_,ao.length-(j+1),by omega,rfl,cY,#[_,rfl],?_]
    .refine ahM ?_ hz;unfold j9;rw[List.length_map];refine aeC (afE _ _) ?_;rw[aiX];omega
    .rw[tk];unfold j9;rw[List.filter_append,adS,agD (by simpa using Dq)]
     funext z
     by_cases h1:z=D
     .rw[h1,cg,cg];rfl
     .rw[aP h1,aP h1,aP h1]
   .have:decide (V.str (ss[j]'(vm ▸ cY))=V.str c)=false:=aaR (λz=>Dq (by injection z));rw[this];dsimp only;rw[aa0 aaH];refine#[ao.length-(j+1),by omega,rfl,cY,#[_,rfl],?_];rw[tk];unfold j9;rw[List.filter_append,agE (by simpa using Dq),List.filter_nil,ack]
  .have ej:j=ao.length:=by omega
   refine .inl #[#[by omega,ga],o,D,h0,rfl,hD,?_];rw[ej,List.take_of_length_le (by rw[List.length_zip];omega)]
 .subst e1 e2;have k_:D≠a:=λz=>by rw[z,ha] at hD;ext hD
  have I2:=I'.ZG (by rw[aP (ahc k_),cg]) h0 (I.ok.hd hc);have e:upd (upd (upd H a (.cR o (.dK ao))) D (.lst (j9 c (ao.zip ss)))) a (.dK ao)=upd H D (.lst (j9 c (ao.zip ss))):=by
   funext z
   by_cases h1:z=a
   .subst h1;rw[cg,aP (ahc k_),ha]
   .rw[aP h1]
    by_cases h2:z=D
    .subst h2;rw[cg,cg]
    .rw[aP h2,aP h2,aP h1]
  rw[e] at I2;apply#[_,_,I2,r,k D hD]
end L2
namespace L2.Ev
open PySem PySem.Spec PyProof.Rows
def nO:D->Option Str
 |.tup (.str s::_)=>some s
 |_=>none
def abq:Key->D
 |.inl k=>.int k
 |.inr x=>.str x
def Ae(c:Str)(ao:List (Key×D)):List D:=(ao.filter λp=>decide ((nO p.2).getD Str.empty=c)).map λp=>abq p.1
def EG(i:Nat)(cn f c:Str):EF:=λY=>match Y[i]? with
 |some (some (.ins U1 es,_))=>match es.lookup f with
  |some (.b_ ao)=>if U1=cn/\(ao.map (·.1)).Nodup/\ao.length<sizeLine/\∀p∈ao,(nO p.2).isSome=true then some (.lst (Ae c ao),.own) else none
  |_=>none
 |_=>none
theorem Pe{K:Fr}{H:Hp}{c:Str}:∀{ao:List (Key×D)}{vs:List (Key×V)},ao.map (·.1)=vs.map (·.1)->aH K H (Ae c ao) (j9 c (vs.zip (ao.map λp=>(nO p.2).getD Str.empty))) []
 |[],[],_=>.nil
 |[],_::_,e=>nomatch e
 |_::_,[],e=>nomatch e
 |p::ao,q::vs,e=>by
  let#[e1,e2]:=List.cons.inj e;have ih:=Pe (K:=K) (H:=H) (c:=c) e2;unfold Ae j9 at ih ⊢;rw[aar,List.zip_cons_cons]
  by_cases h:(nO p.2).getD Str.empty=c
  .rw[agD (by simpa using h),agD (by simpa using h),aar,aar];refine .cons (f1:=[]) ?_ ih;have e1:p.1=q.1:=e1;rw[e1];cases q.1 with
   |inl k=>apply .int k
   |inr x=>apply .str x
  .rw[agE (by simpa using h),agE (by simpa using h)];apply ih
def afA{X:Cx}{pos:Pos}(i:Nat){x cn f c:Str}{C:Addr}{p1 p2:Pos}{tg elt:Expr}{ifs:List Expr}{sc:Scope}{M:List Str}(S:mK X M [none,some i] sc)(hc:X.calm=true)(hC:ClsAt X.K cn C)(na:jb X.K C f)
  (hb:∀s3 H3 fp,PG (fB X M sc s3 H3 fp) tg (ug 0)/\tY (fB X M sc s3 H3 fp) ifs (Pf X.K f c)/\PE (fB X M sc s3 H3 fp) elt (qC 0)) (va:VA X i x:=by walk_at "va") (zm:attributeBase (.Name x p1) f X.env (eval (.Name x p1) X.env)=eval (.Name x p1) X.env:=by rfl) (hs:∀v,foldedSetIterable (.Attribute (.Name x p1) f p2) X.env v=pure v:=by intro _;rfl) :
  FP X (.ListComp elt [#[tg,.Attribute (.Name x p1) f p2,ifs,0]] sc pos) (EG i cn f c):=by
 exists 21,acw S hc (oY va.pe zm) hb hs;unfold EG at e
 split at e
 .rename_i U1 es t h1
  split at e
  .rename_i ao h2
   split at e
   .rename_i h3;let#[rfl,nd,hz,hS]:=h3;ext e;let#[v,fp,BN,r,_]:=ok.sl i _ _ h1;let#[b,dx,fs,g,rfl,rfl,h1,mS,h3,h4]:=r.kP hC.ns;let#[u,gf,h5,h6,_]:=aH.look h3 h4 h2;cases h6 with
    | @b_ a vs _ g0 ha gU rs=>
     refine#[b,C,dx,fs,a,vs,ao.map λp=>(nO p.2).getD Str.empty,BN,h1,hC.cl,na,h5,ha,gU ▸ nd,?_,?_,λj p s hp hs=>?_,λD hD=>?_]
     .have:=congrArg List.length gU;rw[List.length_map,List.length_map] at this;omega
     .have:=congrArg List.length gU;rw[List.length_map,List.length_map] at this;rw[List.length_map,this]
     .rw[abV] at hs;let#[q,hq,rfl]:=abW.mp hs;let#[w,fw,hw,fH,_]:=rs.get (d:=q.2) (by rw[abV,hq];rfl);rw[abV,hp] at hw;have hw:=abH hw;have hq:=hS q (ah6 hq);cases hd:q.2 with
      |tup ds=>
       rw[hd] at hq fH;cases ds with
       |nil=>ext hq
       |cons d0 ds=>
        cases d0 with
        |str s=>
         let#[tt,xs,e1,lZ,r2]:=fH.jf;cases r2 with
         |cons r3 _=>
          let#[e3,_]:=r3.xC;apply#[tt,_,hw.trans e1,lZ,by rw[e3];unfold fC lB;rw[if_pos (by omega),if_pos (by rw[abZ];omega)];rfl]
        |_=>ext hq
      |_=>rw[hd] at hq;ext hq
     .have s2:aN H (upd H D (.lst (j9 c (vs.zip (ao.map λp=>(nO p.2).getD Str.empty))))):=λb o e=>by rw[aP (dh e hD)];apply e
      refine k _ _ [D] s2 (.lst cg (Pe gU)) #[abo.mpr #[(λm=>by ext m),acm],λa m=>?_];cases aaD.mp m;apply hD
   .cases e
  .cases e
 .cases e
def WS{X:Cx}(i:Nat){x:Str}{pos:Pos}(hN:X.N.Nodup)(hi:X.N[i]? = some x:=by rfl)(hx:Loc X.env.scope x:=by first|exact Or.inl rfl|exact Or.inr rfl)(hf:X.fn x=true\/X.env.scope.names.lookup x=some .local:=by first|exact .inl rfl|exact .inr rfl):PG X (.Name x pos) (ug i):=Q0 hN hi hx hf
open PySem PySem.Spec PySem.W PyProof.Rows
section
variable{A:Z->Prop}
abbrev R1{F:MR}(_:∀z,A z->z.DR k c s (pI · F) cm)(z:Z):Prop:=z.MR k c s (pI · F) cm
end
def Z.NR(z:Z)(k:Nat)(s:Stmt)(sp:Frag->Sp)(cm:Bool:=true):Prop:=FN z.P z.w z.K z.mg z.base (f_ z.P z.w) k (gI s) (iQ s) (sp z.K) cm
def Yg{K:Frag}{tab:List (Str×Stmt)}(X:K.In h)(G:h.Ns mainGlobals mg)(t:tab.map (look K)=tab.map want)(i:Nat)(o:Z.DR #[P,w,K,mg,base] k Str.empty s sp cm)(b:BA (gI s) (gI s) s (iQ s):=by walk_at "ba")(e:tab[i]? = some (Str.empty,s):=by rfl):Z.NR #[P,w,K,mg,base] k s sp cm:=RD X G (BS i t e) (λF=>o _ _ F) b
section
variable{A:Z->Prop}
abbrev XE{F:List D->Option Rz}(_:∀z,A z->z.DR k Str.empty s (jt · F) cm)(z:Z):Prop:=z.NR k s (jt · F) cm
end
def VX:D->Option String
 |.int _=>some "int"
 |.str _=>some "str"
 |.tup _=>some "tuple"
 |.c_ _=>some "list"
 |.lst _=>some "list"
 |_=>none
def GY(T T2:String)(d:D):Option D:=(VX d).map λt=>.bl (t==T||t==T2)
def Hx(T T2:String):Prop:=∀K t,t∈["int","str","tuple","list"]->PySem.W.kitAny K (.type t) [.type T,.type T2]=some (t==T||t==T2)
def ahI:Hx "tuple" "list":=by
 intro K t m;simp only[aaA,ac6,ahz] at m;rcases m with rfl|rfl|rfl|rfl<;>rfl
def agL:Hx "int" "str":=by
 intro K t m;simp only[aaA,ac6,ahz] at m;rcases m with rfl|rfl|rfl|rfl<;>rfl
def aes(T T2:String):ic X (.builtin "isinstance") (λxs H Q=>∃x l b,xs=[x,V.ref l]/\H l=some (.tup [V.ty T,V.ty T2])/\Q (.bl b) H/\((∃i,x=.int i/\PySem.W.kitAny X.K (.type "int") [.type T,.type T2]=some b)\/(∃y,x=.str y/\PySem.W.kitAny X.K (.type "str") [.type T,.type T2]=some b)\/
  (∃a ys,x=.ref a/\cO X.K H a ys/\PySem.W.kitAny X.K (.type "tuple") [.type T,.type T2]=some b)\/∃a ys,x=.ref a/\cH X.K H a ys/\PySem.W.kitAny X.K (.type "list") [.type T,.type T2]=some b)):=by
 intro af s U H xs us Q I r h;let#[x,l,b,rfl,hl,q,hx]:=h;let#[u,w',rfl,ru,fH]:=vals2 r;cases(show w'=Value.ref l from fH);let#[_,ay,rv,o,ho,hc,hd,n,pS]:=(show[V.ty T,V.ty T2].length<=sizeLine/\∃ay:List Value,aW [V.ty T,V.ty T2] ay/\l9 s.heap l ay.toArray from I.aM l _ hl)
 have hi:ay=[.type T,.type T2]:=by
  cases rv with
  |cons h1 t1=>
   cases t1 with
   |cons h2 t2=>
    ext t2;ext h1;ext h2;rfl
 subst hi;let#[cl,dd,dat,sl]:=o;ext hc;ext pS;have z:∀tk,EP X af U Q (.bool b) { s with toks:=tk }:=λtk=>#[.bl b,H,I.tok tk,rfl,q]
 rcases hx with⟨i,rfl,e⟩|⟨y,rfl,e⟩|⟨a,ys,rfl,hq,e⟩|⟨a,ys,rfl,hq,e⟩
 .let#[t,rfl]:=ru;apply PySem.W.kia_tup PySem.W.kitx_int I.dJ True.intro ho e (λz=>nomatch z) z
 .let#[t,rfl]:=ru;apply PySem.W.kia_tup PySem.W.kitx_str I.dJ True.intro ho e (λz=>nomatch z) z
 .cases(show u=Value.ref a from ru);let#[ay,_,#[o,h1,h2,_],_]:=I.tuple hq;apply PySem.W.kia_tup PySem.W.kitx_tuple I.dJ #[o,h1,h2] ho e (λz=>nomatch z) z
 .cases(show u=Value.ref a from ru);let#[ay,_,#[o,n,h1,h2,_],_]:=I.list hq;apply PySem.W.kia_tup PySem.W.kitx_list I.dJ #[o,h1,h2] ho e (λz=>nomatch z) z
def Su{T T2:String}{x y:Str}{p p2 p4 p5:Pos}{x1}(hT:Hx T T2)(hm:X.mg "isinstance"=none)(Xo:X.mg x=none)(hmS:X.mg y=none)(ha:FP X a fa)(yi:bootBuiltins x=some (.type T):=by decide +kernel)(hbU:bootBuiltins y=some (.type T2):=by decide +kernel)(hg:Gl X "isinstance":=by rfl)(hgI:Gl X x:=by rfl)(hgS:Gl X y:=by rfl)(hn:x≠"__name__":=by decide)(gX:(x==("__debug__":Str))=false:=by decide)(xU:y≠"__name__":=by decide)(aal:(y==("__debug__":Str))=false:=by decide)
  (hs:starEach [a,.Tuple [.Name x p4,.Name y p5] x1 p2] X.env=[(false,eval a X.env),(false,eval (.Tuple [.Name x p4,.Name y p5] x1 p2) X.env)]:=by rfl) (hpl:(backTo pos (starEach [.Tuple [.Name x p4,.Name y p5] x1 p2] X.env)).any (·.1)=false:=by rfl):FP X (.Call (.Name "isinstance" p) [a,.Tuple [.Name x p4,.Name y p5] x1 p2] [] pos) (e1 (GY T T2) fa):=by
 let#[t,pa,sa]:=ha;have cV:starEach [.Tuple [.Name x p4,.Name y p5] x1 p2] X.env=[(false,eval (.Tuple [.Name x p4,.Name y p5] x1 p2) X.env)]:=rfl;have pc:=dX (Bl (X:=X) (pos:=p4) (v:=.ty T) hgI Xo yi rfl hn gX) (dX (Bl (X:=X) (pos:=p5) (v:=.ty T2) hgS hmS hbU rfl xU aal) fT);exists 21,sD (aes T T2) hg hm (show bootBuiltins "isinstance"=some (.builtin "isinstance") by decide +kernel) (dX pa (dX (Lc pc) fT) (by rw[hs,cV])) (he:=by rw[hs,cV]) (hpl:=hpl);let#[d1,t1,h1,h2,rfl]:=pO e;refine sa ok h1 λH1 v fp s1 r1 _=>?_
 refine#[by show(2:Nat)<=sizeLine;decide,λl hl=>?_];have s2:aN H1 (upd H1 l (.tup [V.ty T,V.ty T2])):=λb o e=>by rw[aP (dh e hl)];apply e
 let#[t,ht,rfl]:=abW.mp h2;refine#[_,l,_,rfl,cg,k _ _ [] (s1.trans s2) (.bl _) .nil,?_];ext d1<;>first|(ext ht;done)|skip
 .cases ht;ext r1;apply .inl #[_,rfl,hT _ _ (by decide)]
 .cases ht;ext r1;apply .inr (.inl #[_,rfl,hT _ _ (by decide)])
 .cases ht;let#[w,xs,rfl,hq,_]:=r1.jf;apply .inr (.inr (.inl #[w,xs,rfl,hq.elim (λh=>.inl (h.elim (λh=>.inl (s2 _ _ h)) λ⟨o,h⟩=>.inr #[o,s2 _ _ h])) .inr,hT _ _ (by decide)]))
 .cases ht;let#[w,xs,f,rfl,hq,_]:=r1.fq;apply .inr (.inr (.inr #[w,xs,rfl,s2.seq hq,hT _ _ (by decide)]))
 .cases ht;let#[w,xs,rfl,hq,_]:=r1.qp;apply .inr (.inr (.inr #[w,xs,rfl,s2.seq hq,hT _ _ (by decide)]))
end L2.Ev
namespace L2
open PySem PySem.Spec PyProof.Rows
def aiJ(x y:Str)(te:TE):TE:=λU H Q=>te U H λv H1=>∃n:Int,v=.int n/\n.natAbs.log2<1920/\Q (.str (Str.empty++x++Str.ofString (toString n)++y)) H1
def aaI(hx:x.length<=1000)(hy:y.length<=1000)(he:PE X e te):PE X (.JoinedStr [.Constant (.str x) j p1,.FormattedValue e (-1) none p2,.Constant (.str y) j2 p4] p3) (aiJ x y te):=by
 intro af s U H Q I h;have l0:(Str.empty++x).length=x.length:=by rw[ajP];show 0+_=_;omega
 refine JoinedStr_many (joinParts_cons (Calls.Constant_str #[by rw[l0,aft];omega,?_]));refine joinParts_cons (FormattedValue_plain (yJ (he af _ U H _ (I.tok _) h) λu s1 v H1 I1 r q=>?_));let#[n,e1,e2,q]:=q;subst e1;let#[t,rfl]:=r;have l1:=int_text_length_le (by decide) e2;have l2:(Str.empty++x++Str.ofString (toString n)).length<=sizeLine:=by
  rw[ajP,l0,PySem.ofString_length,aft];omega
 have l3:(Str.empty++x++Str.ofString (toString n)++y).length<=sizeLine:=by
  rw[ajP,ajP,l0,PySem.ofString_length,aft];omega
 refine formatField_int_small e2 #[l2,?_];refine joinParts_cons (Calls.Constant_str #[l3,?_]);apply joinParts_nil #[.str _,H1,(I1.tok _).tok _,#[_,rfl],q] l3
end L2
namespace L2.Ev
open PySem PySem.Spec PySem.W PyProof.Rows
def Iw(x y:Str):D->Option D
 |.int n=>if n.natAbs<2 ^ 64 then some (.str (Str.empty++x++Str.ofString (toString n)++y)) else none
 |_=>none
def Yx(hx:x.length<=1000)(hy:y.length<=1000)(h:FP X e f):FP X (.JoinedStr [.Constant (.str x) j p1,.FormattedValue e (-1) none p2,.Constant (.str y) j2 p4] p3) (e1 (Iw x y) f):=by
 let#[t,p,q]:=h;refine#[_,aaI hx hy p,@λH0 S z aq Y U H Q d tg ok e0 k=>?_];let#[d1,t1,h1,h2,rfl]:=pO e0;unfold Iw at h2
 split at h2
 .rename_i n;let#[hn,h2]:=ag6.mp h2;ext h2;refine q ok h1 λH1 v fp s1 r1 _=>?_
  ext r1;apply#[n,rfl,Z7 hn,k H1 _ [] s1 (.str _) .nil]
 .cases h2
def abQ{K:Frag}(h:bS P w K mg base dR k f fd ps sp cm):bS P w K mg base (f_ P w) k f fd ps sp cm:=by
 refine#[h.len,λA outer s H args us vs Q E hr e0 hb hv q=>?_];refine ajq (h.run A outer s H args us vs Q E hr e0 hb hv q) λr s' hq=>?_
 cases r with
 |error e=>apply hq.elim
 |ok fl=>ext fl<;>apply hq
def nj(F:MF)(R:List D->Option Rz):MR:=λd ds=>match F d ds with
 |some (r,d1)=>if aE r=true then some (.ok r d1) else none
 |none=>(R (d::ds)).bind fun
  |.er cn=>some (.er cn d)
  |.ok _=>none
def ai3{K:Frag}{sp:Sp}(h1:bS P w K mg base dR k f fd ps sp cm)(h2:bS P w K mg base (f_ P w) k f fd ps (jt K R) cm)
  (hs:∀a ws H Q E d0 aS ds dw r d1,Rep K H d0 (.ref a) aS->aS.Nodup->aH K H ds ws dw->(∀b∈dw,b∉aS)->F d0 ds=some (r,d1)->aE r=true->(∀H' v bC,bf H H'->(∀b o,b∉aS->H b=some o->H' b=some o)->Rep K H' d1 (.ref a) bC->bC.Nodup->(∀b∈bC,b∈aS\/H b=none)->Rep K H' r v []->Q v H')->sp (V.ref a::ws) H Q E) :
  bS P w K mg base (f_ P w) k f fd ps (pI K (nj F R)) cm:=by
 have key:∀vs H Q E,pI K (nj F R) vs H Q E->sp vs H Q E\/jt K R vs H Q E:=λvs H Q E #[a,ws,d0,aS,ds,dw,r,hv,r0,n0,rs,dj,e,q]=>by
  unfold nj at e;cases hF:F d0 ds with
  |some p=>
   let#[r1,d1]:=p;rw[hF] at e;dsimp only at e
   by_cases hi:aE r1=true
   .rw[if_pos hi] at e;ext e;rw[hv];apply .inl (hs a ws H Q E d0 aS ds dw r1 d1 r0 n0 rs dj hF hi q)
   .rw[aa0 hi] at e;ext e
  |none=>
   rw[hF] at e;let#[z,hR,e]:=acY.mp e;ext z<;>ext e
   apply .inr #[d0::ds,aS++dw,_,hv ▸ .cons r0 rs,hR,λH' C sm hC=>q H' C aS (bf.of sm) (λb o _ e=>sm b o e) (r0.same sm) n0 (λb m=>.inl m) hC]
 refine#[λvs H Q E q=>(key vs H Q E q).elim (h1.len vs H Q E) (h2.len vs H Q E),λA outer s H args us vs Q E hr e0 hb hv q=>?_];apply(key vs H Q E q).elim ((abQ h1).run A outer s H args us vs Q E hr e0 hb hv) (h2.run A outer s H args us vs Q E hr e0 hb hv)
def aaX{K:Frag}(h1:bS P w K mg base dR k f fd ps (eU K F) cm)(h2:bS P w K mg base (f_ P w) k f fd ps (jt K R) cm):bS P w K mg base (f_ P w) k f fd ps (pI K (nj F R)) cm:=
 ai3 h1 h2 λa ws H Q E d0 aS ds dw r d1 r0 n0 rs dj hF _ q=>#[a,ws,d0,aS,ds,dw,r,d1,rfl,r0,n0,rs,dj,hF,q]
def A_(fo fk fd:EF):EF:=λY=>match fo Y,fk Y,fd Y with
 |some (.fY es,.sh o),some (.tup ls,_),some (dn,.own)=>(jc ls).bind λks=>if ks.all (λk=>k.isLeft)=true/\ks≠[] then some ((bB es ks).getD dn,.sh o) else none
 |_,_,_=>none
def WM(hu:X.A.units+1<cLine)(ni:wm X.K=true)(ha:FP X o fo)(hb:FP X e fk)(hc:FP X f fd)(mm:M2 X o "get" apos e f gG:=by apply#[rfl,rfl,rfl,rfl]):FP X (.Call (.Attribute o "get" apos) [e,f] [] gG) (A_ fo fk fd):=by
 let#[ta,pa,sa]:=ha;let#[tb,pb,sb]:=hb;let#[tc,pc,sc]:=hc;exists 20,GV hu pa pb pc mm;unfold A_ at e
 split at e
 .rename_i es o ls t2 dn e1 iS e3;let#[ks,Jh,e]:=acY.mp e;let#[#[zD,k_],e]:=ag6.mp e;ext e;refine sa ok e1 λH1 x f1 s1 r1 g1=>?_
  cases r1 with
  | @fY l ao _ g0 h gU rs=>
   refine#[l,rfl,.inr #[ao,.inl h],?_];refine sb (ok.same s1) iS λH2 y f2 s2 r2 _=>?_
   let#[bL,xs,rfl,K6,Gg]:=r2.jf;obtain rfl:=aH.keys Gg Jh;have B_:=QH K6 ni zD k_;refine sc (ok.same (s1.trans s2)) e3 λH3 zv f3 s3 r3 g3=>?_
   refine#[fM ao ks,.inr #[ao,ks,bL,.inl (s3 _ _ (s2 _ _ h)),rfl,(Tk.aE B_ (.of s3)),rfl],?_];let#[h1,h2]:=qX (k:=ks) gU rs;cases hv:bB es ks with
   |some dv=>
    let#[v,f,lX,rv,sub]:=h1 _ hv;rw[lX];apply q H3 v f ((s1.trans s2).trans s3) (by rw[hv];apply(rv.same s2).same s3) (dQ.sub (λa j e=>(ok.zd a j e).1) g1 λa m=>aaf _ (sub a m))
   |none=>
    rw[h2 hv];refine q H3 zv f3 ((s1.trans s2).trans s3) (by rw[hv];apply r3) λa m j e=>?_
    let#[w,ew]:=(ok.zd a j e).1;have:=g3.2 a m;rw[s2 _ _ (s1 _ _ ew)] at this;ext this
 .cases e
def O6{z:Z}{F:MF}{R:List D->Option Rz}(h1:z.D j c s (eU · F))(h2:z.DR i c s (jt · R))(l1:j<=k:=by decide)(l2:i<=k:=by decide):z.DR k c s (pI · (nj F R)):=λa b G=>aaX ((h1 a b G).mono l1) ((h2 a b G).mono l2)
def An(f0:EF)(j:Nat):XR:=λY=>(f0 Y).bind λp=>(Y[j]?).bind fun
 |some (d,.own)=>if aE p.1=true then some (.ok (.tup [p.1,d]) (rS Y j)) else none
 |_=>none
def TR(j:Nat){y:Str}{p1:Pos}{x1}(h0:FP X.gJ a f0)(va:VA X.gJ j y:=by walk_at "va")(hs:starEach [a,.Name y p1] X.env=(false,eval a X.env)::starEach [.Name y p1] X.env:=by rfl)(cV:starEach [.Name y p1] X.env=[(false,eval (.Name y p1) X.env)]:=by rfl):
  FE X (.Tuple [a,.Name y p1] x1 pos) (An f0 j):=by
 classical
 let#[t0,p0,q0]:=h0;refine#[_,aiA (Lc (dX p0 (dX va.pe fT cV) hs)),@λH0 S z aq Y U H Q E r ok e k=>?_];unfold An at e;let#[#[d0,t],e0,e]:=acY.mp e;let#[w,e1,e]:=acY.mp e;cases w with
 |none=>ext e
 |some w=>
 let#[d,tg]:=w;cases tg with
 |own=>
  have e:(if aE d0=true then some (ER.ok (D.tup [d0,d]) (rS Y j)) else none)=some r:=e
  by_cases hi:aE d0=true
  .rw[if_pos hi] at e;ext e;refine q0 ok e0 λH1 v0 g0 s1 r0 _=>?_
   have hn:=r0.aE hi;subst hn;let#[v,fj,hv,rj,zz]:=ok.sl j _ _ e1;refine#[v,hv,by show(2:Nat)<=_;apply agF (z8 (by decide)),λc hc=>?_];let#[z',bu]:=ok.out e1 rj zz.2;have sc:aN H1 (upd H1 c (.tup [v0,v])):=λb o e=>by rw[aP (dh e hc)];apply e
   have sa:=s1.trans sc;refine k z' _ _ _ ([]++(fj++[])) bu (λb o e=>?_) (.tup (cO.of cg) (.cons (r0.same sc) (.cons (rj.same sa) .nil))) #[?_,λb m=>?_]
   .by_cases m:b∈fj
    .rw[show(if b∈fj then none else H b)=none from if_pos m] at e;ext e
    .exact sa b o ((aa0 m).symm.trans e)
   .rw[List.nil_append,ack];apply zz.1
   .rw[List.nil_append,ack] at m;apply if_pos m
  .rw[aa0 hi] at e;ext e
 |_=>ext e
def Ft(i:Nat)(fv:EF):SF:=λY=>(Y[i]?).bind fun
 |some (.tup [d0,.lst es],.own)=>(fv Y).bind λp=>if(aE d0&&(aE p.1&&aQ es&&decide (es.length<sizeLine)))=true then some (.nx (cz Y i (.tup [d0,.lst (es++[p.1])]))) else none
 |_=>none
def agj(i:Nat){n:Int}(hv:FP X a fv)(va:VA X i x:=by walk_at "va")(hn:n=1:=by rfl)(hs:starEach [a] X.env=[(false,eval a X.env)]:=by rfl)
  (jN:attributeBase (.Subscript (.Name x p) (.Constant (.int n) j pc) p1) "append" X.env (eval (.Subscript (.Name x p) (.Constant (.int n) j pc) p1) X.env)=eval (.Subscript (.Name x p) (.Constant (.int n) j pc) p1) X.env:=by rfl)
  (jM:((backTo p3 (starEach [a] X.env)).all (λx=>!x.1)&&(backToKw p3 (keywordEach [] X.env)).all (λx=>x.1.isSome)&&decide ([a].length+([]:List Keyword).length+(if([]:List Keyword).isEmpty then 0 else 1)<30))=true:=by rfl)
  (jR:(p2.endLine==p3.line)=true:=by rfl) (jo:swapsWith (.Call (.Attribute (.Subscript (.Name x p) (.Constant (.int n) j pc) p1) "append" p2) [a] [] p3) none pos.line X.env=pure false:=by rfl) :
  fG X (.Expr (.Call (.Attribute (.Subscript (.Name x p) (.Constant (.int n) j pc) p1) "append" p2) [a] [] p3) pos) (Ft i fv):=by
 subst hn;let#[tv,kU,sv]:=hv;exists 25,xQ (um PySem.F.plainAttrs_list PySem.F.slot_list_append PySem.F.type_list_append BR (C6 Jo va.pe CH (by apply λ_ _=>rfl)) (dX kU fT hs) jN jM jR hs rfl) jo;unfold Ft at e;let#[w,h1,e]:=acY.mp e
 split at e
 .rename_i d0 es;let#[#[d,td],hv1,e]:=acY.mp e;let#[hc,e]:=ag6.mp e;ext e;let#[c0,hc]:=(aav _ _).mp hc;let#[c1,c3]:=(aav _ _).mp hc;let#[c1,c2]:=(aav _ _).mp c1;let#[v,fp,c9,r0,zz]:=ok.sl i _ _ h1;refine#[v,c9,?_];cases r0 with
  | @tup p xs _ _ hq rs=>
  cases rs with
  | @cons _ v0 _ vs f0 fr r0 rs=>
  cases rs with
  | @cons _ v1 _ _ f1 _ r1 rs=>
  ext rs;have hn:=r0.aE c0;subst hn;cases r1 with
  | @lst l2 ys _ f' h rs=>
  have AE:=rs.aE c2;subst AE;refine#[p,_,1,_,rfl,rfl,hq,rfl,.inl #[rfl,_,cH.of h],?_];refine sv ok hv1 λH2 w fd s2 rv gv=>?_
  have AE:=rv.aE c1;subst AE;have mQ:=s2 _ _ h;refine#[_,ys,w,rfl,rfl,mQ,by rw[<- rs.length];apply aau c3,?_];have im:bf H2 (upd H2 l2 (.lst (ys++[w]))):=bf.upd mQ rfl;have kk:∀c o,c∉[l2]->H c=some o->upd H2 l2 (.lst (ys++[w])) c=some o:=λc o nn e=>by rw[aP λq=>nn (by rw[q];apply aah)];apply s2 c o e
  have Bm:=(bf.of s2).trans im;let#[z',bu]:=ok.put (bC:=[l2]) h1 c9 zz Bm (λc o nn e=>kk c o (λq=>nn q) e)
   (.tup (bf.M6 Bm hq) (.cons (f1:=[]) (r0.frame (λa m=>nomatch m) Bm) (.cons (.lst cg (aH.append (rs.frame (λa m=>nomatch m) Bm) (aH.cons (rv.frame (λa m=>nomatch m) im) .nil))) .nil))) zz.1 (λc m=>.inl m)
  apply q z' U _ bu (.refl _ _)
 .cases e
def xS(fz:aR->Option (Bool×aR))(ft:TF):aR->Option (Bool×aR):=λY=>(fz Y).bind λp=>if p.1=true then(ft p.2).map λb=>(b,p.2) else some p
def afI(ha:tS X a fz)(hb:FW X (.BoolOp .And (b::r) pos) ft):tS X (.BoolOp .And (a::b::r) pos) (xS fz ft):=by
 let#[t,p,q]:=ha;let#[t',p',q']:=hb;refine#[_,(Fp p p').pt,@λH0 S z aq Y U H Q c Y' ok e k=>?_];let#[w,h,e]:=acY.mp e;refine q ok h λz1 H1 cG=>?_
 let#[b,aT]:=w;cases b with
 |false=>
  ext e;rw[aa0 aaH];apply k z1 H1 cG
 |true=>
  let#[b,h2,e]:=abW.mp e;ext e;rw[if_pos rfl];apply q' cG h2 λH2 s2=>k z1 H2 (cG.same s2)
end L2.Ev
namespace K66
open PySem L2 L2.Ev
local macro_rules | `(tactic| walk_at "s")=>`(tactic| apply #[#[rfl,rfl,rfl,by decide +kernel,rfl,by decide +kernel,by decide +kernel],rfl,rfl,by decide])
set_option hygiene false
local macro_rules | `(tactic| exists 1,$a)=>`(tactic| apply Z.oF (by walk_at "s") fun _ _ _ _ _ _ _ _ hr nd=>by apply $a)
local macro_rules | `(tactic| exists 2,$a)=>`(tactic| apply Z.oM (by walk_at "s") rfl fun _ _ _ _ _ _ _ hr nd=>by apply $a)
local macro_rules | `(tactic| exists 3,$a)=>`(tactic| apply Z.oP (by walk_at "s") rfl fun _ _ _ _ _ _ _ hr nd=>by apply $a)
local macro_rules | `(tactic| exists 5,$a)=>`(tactic| apply Z.oR (by walk_at "s") fun _ _ _ _ _ _ _ hr nd=>by apply $a)
set_option hygiene true
def eV{z:Z}(E:En L z):ClsAt z.K "Changes" (cA z.K "Changes"):=E.c _ rfl
def aI{z:Z}(E:En L z):ClsAt z.K "Gate" (cA z.K "Gate"):=E.c _ rfl
def jh{z:Z}(E:En L z):ClsAt z.K "Tally" (cA z.K "Tally"):=E.c _ rfl
set_option hygiene false
local macro_rules|`($s:str $a*)=>do
 let r:="ƈNO# Ƈ'UB)C ƆG$#&$ ƅŢ;ņ Ƅ?-3 ƃ-<WKŚ#1$#8$ ƂřŒś( Ɓř8$*$I#+*(( ƀ%4% ſ$#=( žíŗ&ÐÒÑ#& Ž0.< żA,œ#& Żŋ²# źep¬Ŝ¡»NOŜ ŹÊ&NO, Ÿ2l)ÔÕm ŷA,ŉ Ŷ0.b% ŵ$#+ Ŵ#&#+ ųVŗ Ų.<Èïŭ@ŭ-3@? ű$*$HT$*ŌŇ1Ō( Ű$#8( ů-3_? ŮJyf; ŭ9cŕ& Ŭ+$#&( ū;>Û&,'/%* ŪHQMň#Œ(* ũ¹4%*I Ũ$H#&IZ*#+* ŧ(?. Ŧ0.7 ť¶)Þß·$# ŤªNO#+#& ţ4%ń Ţ;ņT( šA,'â¶)·#& Š2ã)äåæś ş>¦t&, ŞA,ň#& ŝWKQMň Ŝ#+ń ś$#1 Ś2À)ÍÎÁ$ řŅ# Ř$*$wx%( ŗ4%# Ŗq%P:D0P:Y0P:^ ŕ'/%# ŔA,'|l)m#& œ'«¤)¥ Œ&$#+ őŅI#&ZZ*#1#1Ō Ő2`)­®a$# ŏ:&R% Ŏ2Â)ÃÄÅ$#1$ ōA,'o`)a#& Ō$*$*( ŋ-3G$@$ Ŋ-³%´%µ%§%$ ŉ'UB)C# ň'L5)6 Ň2B)[]C$# ņ>S&,'/% Ņ25)EF6$ ń9,'/%#&".splitOn " "|>.foldl (init:=s.getString) fun s e=>match e.toList with|c::w=>s.replace (toString c) (String.ofList w)|_=>s
 let T:="#ai1 $ak2 %rfl0 &00 'E0 (aA0 )hr.m0 *aC0 +10 ,aI1 -aK1 .aO2 /E.n1 0nd0 120 2aU6 3aX1 4E.b1 5p.G0 6p.b0 7bP3 830 9bO3 :bY2 ;cC2 <cj3 =40 >cK1 ?cJ0 @cB0 AcQ6 Bq.G0 Cq.b0 D50 Ep.m0 Fp.kp0 GdF1 Hcu2 Id_2 Jfm1 KeX1 Lp.t0 MeV1 NfL1 Ohr0 PfZ2 QfX7 Raau1 Sgu4 TgQ1 Uq.t0 Viw2 Wiy1 XfE1 Y60 ZiP2 [q.m0 ]q.kp0 ^70 _iN0 `u.G0 au.b0 bjE4 cjh1 diW3 eFW.ft1 fjW0 g80 hjU0 ikO2 jlE2 klA1 lv.G0 mv.b0 nhr.units0 ou.t0 pn62 qnI2 rnW0 snY0 tlN6 uqz2 vn92 wqu1 xE.i1 ypA0 zk72 {qg1 |v.t0 }rB2 ~rA1 ¡qF1 ¢qU1 £qM2 ¤y.G0 ¥y.b0 ¦l81 §E.e1 ¨uy2 ©rm1 ªuo3 «y.t0 ¬uI2 ­u.m0 ®u.kp0 ¯vU2 °xW3 ±90 ²xX2 ³vV5 ´E.x1 µE.g1 ¶g.G0 ·g.b0 ¸Av4 ¹yx3 ºx_2 »zk3 ¼zg2 ½100 ¾110 ¿yO2 Àh.G0 Áh.b0 Âa0.G0 Ãa0.m0 Äa0.kp0 Åa0.b0 ÆC53 ÇEi3 ÈEj2 ÉCy4 ÊBQ6 ËCU2 ÌEa2 Íh.m0 Îh.kp0 ÏJv0 ÐHQ3 ÑKR0 ÒKc0 ÓEc3 Ôv.m0 Õv.kp0 ÖKN1 ×F11 ØE.t1 Ù40000 ÚFY.fz1 ÛGX4 ÜHH0 ÝIA3 Þg.m0 ßg.kp0 àj.G0 áj.b0 âg.t0 ãl.G0 äl.m0 ål.kp0 æl.b0 çGC4 èR_2 éSJ4 êRk2 ëSa2 ìSS1 íUa3 îTf2 ïPF2 ðO43 ñVh2 òM74 óPa2 ôT33 õPU2 öNx1 ÷Tr2 øNV2 ùRp3 úE.ni1 ûVi4 üE.ct1 ýQS2 þMh1 ÿTR2 Āj.t0 ām.G0 Ăm.m0 ăm.kp0 Ąm.b0 ąpv1 ĆVU0 ćPp1 ĈNr0 ĉaiq3 Ċadp0 ċWr4 ČadC4 čWB2 ĎaaN2 ďaiu2 ĐV53 đafS3 ĒXU4 ēWe2 ĔaiF4 ĕaa63 ĖX32 ėabt3 ĘY_1 ęacR2 Ěaam3 ěaeT2 Ĝags3 ĝaao2 Ğado3 ğaiB9 ĠYx3 ġabh2 ĢYy< ģUh7 ĤWM5 ĥaak3 Ħaek7 ħaaE1 Ĩagv4 ĩa1.t0 Īa1.G0 īa1.b0 ĬaiY5 ĭacL0 ĮafP0 įagj2 İWS2 ıSG1 ĲMC4 ĳJi0 ĴC64 ĵJo0 ĶOf4 ķoY2 ĸCH0 ĹQL0 ĺjV1 Ļh.t0 ļy.m0 Ľy.kp0 ľaex3 ĿafI2 ŀabP7 Łj.m0 łj.kp0 ŃNc1".splitOn " "|>.map (·.toList);let mut k:=a.toList.reverse;let mut t:List Lean.Term:=[]
 for c in r.toList.reverse do
  if c=='!' then t:=k.head!::t;k:=k.tail! else if let some (_::e):=T.find? (·.head?==some c) then
   let n:=String.ofList e.dropLast;let m:=e.getLast!.toNat-48;let h:Lean.Term:=if e.head!.isDigit then ⟨Lean.Syntax.mkNumLit n⟩ else ⟨Lean.mkIdent n.toName⟩
   t:=(if m==0 then h else ⟨Lean.Syntax.mkApp h (t.take m).toArray⟩)::t.drop m
 pure t.head!
set_option hygiene true
def Jb:=λ(z:Z) (E:En L z)=>(by exists 1,".<u#+ų&-3HŴƄ*" 0:z.D 1 Str.empty (top 52) (a_ · (bJ 2 2 _)))
abbrev zR:=fF Jb
def Ek:=wF Jb
def Ff:=λ(z:Z) (E:En L z)=>(by exists 1,"-3¨¨Z¨#&**#+#1" 0:z.D 1 Str.empty (top 53) (a_ · (bJ 3 3 _)))
abbrev zI:=fF Ff
def zL:=wF Ff
def IX:=λ(z:Z) (E:En L z/\Ek z/\zL z)=>(by let#[E,p,q]:=E;exists 1,".7+ř&$*(Ŧ1ř&$*(Ŧ8I*Ň+$*$HT$*$*ŌŇ+Ō(Ŧ=I*Ň+űŦDI*Ň1ű0-3G$#8$#=$#D$I#DŇ1Ō(" 0:z.D 2 Str.empty (top 56) (a_ · (bJ 1 6 _)))
abbrev adx:=fF IX
def VJ:=wF IX
def LQ:=λ(z:Z) (E:En L z)=>(by exists 1,"-3vçĆ4%ŗ&vćçĈ4%ŗ&©ĉ#+#&#1" 0:z.D 1 Str.empty (top 11) (a_ · (bJ 3 3 _)))
abbrev oB:=fF LQ
def Ad:=wF LQ
def JI:=λ(z:Z) (E:En L z/\Ad z)=>(by let#[E,p]:=E;exists 1,"-3vř+Ř©ř&$*ŵ(" 0:z.D 2 Str.empty (top 45) (a_ · (bJ 2 2 _)))
abbrev adH:=fF JI
def Mq:=wF JI
def T9:=λ(z:Z) (E:En L z)=>(by exists 2,"J>S&M'/%T(" 0:z.D 1 "Changes" (inClass (top 25) 0) (eU · (runM 1 1 _)))
def Oj:=wI T9
def Jq:=λ(z:Z) (E:En L z/\Mq z/\Ad z/\Oj z)=>(by let#[E,p,q,u]:=E;exists 2,";dWe}KŇ+Ř}KŇ1Ř~Kř8ſŮņGŵś$#8ſ;ņ!ŢƅÏ;ņĊƅ_Ţƅ*Jņ*" (Od (eV E).ns u.M u.G hr.m (E.m rfl) u.b):z.D 3 "Gate" (inClass (top 50) 0) (eU · (runM 5 5 _)))
abbrev OA:=fO Jq
def YS:=wI Jq
def Lj:=λ(z:Z) (E:En L z/\zL z/\Ek z)=>(by let#[E,p,q]:=E;exists 1,".7+ċƀèių&**ŅŇ&$*(Ō0-3éƀ*#+" 0:z.D 2 Str.empty (top 54) (a_ · (bJ 1 2 _)))
abbrev ae7:=fF Lj
def abw:=wF Lj
def Je:=λ(z:Z) (E:En L z/\Ek z)=>(by let#[E,p]:=E;exists 1,".<uIZ*#+*ų&-3GŨŨŨŧ71Iř&$¨#+*(ZZ*#+#+0-3Gś$I#1Z*#+$I#1ZZ*#+#+(" 0:z.D 2 Str.empty (top 55) (a_ · (bJ 2 3 _)))
abbrev aha:=fF Je
def Xu:=wF Je
def Ep:=λ(z:Z) (E:En L z)=>(by exists 1,"-3jţ" 0:z.D 1 "Gate" (inClass (top 50) 10) (a_ · (bJ 1 1 _)))
abbrev ZX:=fF Ep
def OH:=wG Ep
def Ia:=λ(z:Z) (E:En L z/\zL z)=>(by let#[E,p]:=E;exists 1,".7+ÏŶê4%ř&Ō:10-<zř&Ō*.78őŦ=¨II#8*ő*0-¸+NOőG$#8ſ-¸+NOőG$*$I*¨I#&#1ë**(-3!" (ja (M:=["_law_slot","_law_edits_here"]) (js:=[none,some 1]) (gW rfl (by kernel_rfl)) rfl ("XÆ%ŗ+" 0) (by decide) λs3 H3 fp=>#["ŏ" 0,mV,"ƆHŤ*$HŤ*(" 0]):z.D 2 Str.empty (top 57) (a_ · (bJ 1 5 _)))
abbrev Qv:=fF Ia
def agW:=wF Ia
def IM:=λ(z:Z) (E:En L z/\zL z/\OH z/\agW z)=>(by let#[E,p,q,u]:=E;exists 1,".7Dř1ŌŦYŷ&Žepz#+*¡u#D*.7^ìÐÑÒ!0ŋř8Ō$#^$ìŐ=(ŧ<u#D*.7gČƀ4%$*$I*ƁŽe}u#D*~Çn#YT(-7gH#Yř8$*$ųY(0?ŋ#g$HT$@$@$@$@$@$@$@(ř=Ōŧ<z#D*ŋƁƄčT$G$@($G$@((i#D*" (ja (M:=["_law_one","_law_b"]) (js:=[none,some 3]) (gW rfl (by kernel_rfl)) rfl ("ũ#+*" 0) (by decide) λs3 H3 fp=>#["ŏ" 0,"kzŅI#+Z#&#&Ō*" 0,ai 0]):z.D 3 Str.empty (top 58) (a_ · (bJ 5 9 _)))
abbrev acg:=fF IM
def ais:=wF IM
def KQ:=λ(z:Z) (E:En L z)=>(by exists 1,"-3Óƀ!" (ja (M:=["low","high"]) (js:=[none,none]) (gW rfl (by kernel_rfl)) rfl ("ž" 0) (by decide) λs3 H3 fp=>#["q%PŏP:+R%r" 0,mV,"ĎŴ" 0]):z.D 1 Str.empty (top 12) (a_ · (bJ 1 1 _)))
abbrev adO:=fF KQ
def SX:=wF KQ
def LF:=λ(z:Z) (E:En L z)=>(by exists 1,"-3V4%9Mŕ&" 0:z.D 1 "Changes" (inClass (top 25) 2) (a_ · (bJ 1 1 _)))
abbrev LJ:=fF LF
def L5:=wG LF
def KE:=λ(z:Z) (E:En L z/\Ad z/\L5 z)=>(by let#[E,p,q]:=E;exists 1,"-3ř+$*$AMŉ&(" 0:z.D 2 "Changes" (inClass (top 25) 9) (a_ · (bJ 2 2 _)))
abbrev xB:=fF KE
def su:=wG KE
def G7:=λ(z:Z) (E:En L z/\Ad z/\SX z)=>(by let#[E,p,q]:=E;exists 1,".b%X#&q%P:+0P:10P:80r.<We}Kř+Ř~Kř1Řů-<epWKř8Ř¡z#1#8ů-32B)[]C$!(" (ja (M:=["edit"]) (js:=[none]) (gW rfl (by kernel_rfl)) rfl (fE (ai 0)) (by decide) λs3 H3 fp=>#["ŏ" 0,mV,"H#&*" 0]):z.D 2 Str.empty (top 18) (a_ · (bJ 1 4 _)))
abbrev aaB:=fF G7
def Zm:=wF G7
def L_:=λ(z:Z) (E:En L z/\Ad z/\SX z/\su z/\Zm z)=>(by let#[E,p,q,u,v]:=E;exists 1,".<WKř+Řů.<epWKÓƀ!¡WKŇ1(ů-3vďų8wx%©ŸŰ" (ja (M:=["lean","self"]) (js:=[none,some 0]) (gW rfl (by kernel_rfl)) rfl (fE (ai 2)) (by decide) λs3 H3 fp=>#["ŏ" 0,mV,"QM'o`)a#Ŭ" 0]):z.D 3 "Changes" (inClass (top 25) 11) (a_ · (bJ 4 4 _)))
abbrev aiv:=fF L_
def Z5:=wG L_
def JV:=λ(z:Z) (E:En L z/\Z5 z/\L5 z)=>(by let#[E,p,q]:=E;exists 2,";dŝ#ŒśŰŮdÈAMŉ&wx%Ů>É&M'/%Gŵ$ºŗ1$º4%!(J¢AMŉ&" (ja (M:=["edit"]) (js:=[none]) (gW rfl (by kernel_rfl)) rfl (fE (ai 3)) (by decide) λs3 H3 fp=>#["ŏ" 0,mV,"ºŗ&" 0]):z.D 4 "Changes" (inClass (top 25) 1) (eU · (runM 4 4 _)))
abbrev D6:=fO JV
def af2:=wO JV
def IE:=λ(z:Z) (E:En L z)=>(by exists 1,"-3vîŜvîŜ©ĐNOŜ" 0:z.D 1 "Gate" (inClass (top 50) 19) (a_ · (bJ 2 2 _)))
abbrev ab8:=fF IE
def abD:=wG IE
def EW:=λ(z:Z) (E:En L z/\L5 z/\abD z)=>(by let#[E,p,q]:=E;exists 1,"-3!" (ja (M:=["number","self"]) (js:=[none,some 0]) (gW rfl (by kernel_rfl)) rfl ("ũAMňń*" 0) (by decide) λs3 H3 fp=>#["ŏ" 0,"kKQ,ŉŬ" 0,ai 0]):z.D 2 "Gate" (inClass (top 50) 8) (a_ · (bJ 1 1 _)))
abbrev CV:=fF EW
def vQ:=wG EW
def Ge:=λ(z:Z) (E:En L z/\su z)=>(by let#[E,p]:=E;exists 1,".<ŝ#Œ(-sƄH9Mŕ&i#+*" 0:z.D 3 "Changes" (inClass (top 25) 10) (a_ · (bJ 2 2 _)))
abbrev adf:=fF Ge
def GO:=wG Ge
def LX:=λ(z:Z) (E:En L z/\GO z)=>(by let#[E,p]:=E;exists 1,"-3j4%Ū" 0:z.D 4 "Changes" (inClass (top 25) 4) (a_ · (bJ 2 2 _)))
abbrev CW:=fF LX
def Er:=wG LX
def JZ:=λ(z:Z) (E:En L z/\vQ z/\Er z)=>(by let#[E,p,q]:=E;exists 2,"J>b%XŞ:+0.!-<Ö#1-Źŕ+G$@$H#1*(?" (Aq 2 (hN:=nd) (M:=["lean","self"]) (js:=[none,some 0]) (gW rfl (by kernel_rfl)) rfl ("XQMƇńŵ(" 0) (by decide) λs3 H3 fp=>#["ŏ" 0,"k»ƈ&9,ŕ+" 0,ai 0]):z.D 5 "Gate" (inClass (top 50) 24) (eU · (runM 1 3 _)))
abbrev Ic:=fO JZ
def WL:=wO JZ
def K5:=λ(z:Z) (E:En L z)=>(by exists 1,"ŲŲ.<ÈV4%ŭŭ-3@Ƅ@" 0:z.D 1 "Tally" (inClass (top 44) 3) (a_ · (bJ 1 1 _)))
abbrev Fw:=fF K5
def JG:=wG K5
def ID:=λ(z:Z) (E:En L z/\JG z)=>(by let#[E,p]:=E;exists 1,"-3ðđNOŜAcňĒNOń#+!@" (by apply λ_ _=>rfl):z.D 2 "Gate" (inClass (top 50) 21) (a_ · (bJ 2 2 _)))
abbrev B8:=fF ID
def HS:=wG ID
def Gx:=λ(z:Z) (E:En L z)=>(by exists 1,"-3º4%£ńñń#+" 0:z.D 1 "Gate" (inClass (top 50) 20) (a_ · (bJ 2 2 _)))
abbrev yo:=fF Gx
def K0:=wG Gx
def E9:=λ(z:Z) (E:En L z/\HS z/\K0 z)=>(by let#[E,p,q]:=E;exists 1,".b%ũVţ*:+0-<ēQ,ň#&$Q,ŉŒ((×Ø%-{+Ƅh" 0:z.D 3 "Gate" (inClass (top 50) 11) (a_ · (bJ 1 2 _)))
abbrev ud:=fF E9
def vH:=wG E9
def G4:=λ(z:Z) (E:En L z)=>(by exists 1,"-3Ĕƀ!h" (ja (M:=["slot","old","new","values"]) (js:=[none,none,none,some 0]) (gW rfl (by kernel_rfl)) rfl (fE (ai 1)) (by decide) λs3 H3 fp=>#["q%PŏP:+R%P:1R%r" 0,"k¯òƈ8#&*#+" 0,ai 0]):z.D 1 Str.empty (top 19) (a_ · (bJ 2 2 _)))
abbrev Il:=fF G4
def K7:=wF G4
def K_:=λ(z:Z) (E:En L z)=>(by exists 1,"-3!" (ja (M:=["slot","values"]) (js:=[none,some 0]) (gW rfl (by kernel_rfl)) rfl ("XÆ%ŗ&" 0) (by decide) λs3 H3 fp=>#["ŏ" 0,"k¯Ť*" 0,"ƆŤ(" 0]):z.D 1 Str.empty (top 20) (a_ · (bJ 1 1 _)))
abbrev YM:=fF K_
def aeo:=wF K_
def T5:=λ(z:Z) (E:En L z/\K7 z/\aeo z)=>(by let#[E,p,q]:=E;exists 1,".71°%ŗ&ŶX#+:8Ŧ=ř1ŰŽ¼#=h-s?-b%X#8Ŗ0r-¸1ƈD#^-3Ň1(" 0:z.D 2 Str.empty (top 17) (a_ · (bJ 2 8 _)))
def ZK:=wF T5
def LR:=λ(z:Z) (E:En L z/\GO z)=>(by let#[E,p]:=E;exists 1,"-3j4%Ū" 0:z.D 4 "Changes" (inClass (top 25) 5) (a_ · (bJ 2 2 _)))
abbrev zC:=fF LR
def zJ:=wG LR
def F7:=λ(z:Z) (E:En L z/\ZK z/\zJ z)=>(by let#[E,p,q]:=E;exists 1,"-3ŅT($!(" (ja (M:=["number","changes"]) (js:=[none,some 0]) (gW rfl (by kernel_rfl)) rfl (fE (ai 1)) (by decide) λs3 H3 fp=>#["ŏ" 0,mV,"QMŉŬ" 0]):z.D 5 Str.empty (top 26) (a_ · (bJ 2 2 _)))
abbrev Vk:=fF F7
def Ip:=wF F7
def GB:=λ(z:Z) (E:En L z/\Ip z)=>(by let#[E,p]:=E;exists 1,"-3°ƀř&$£jŗ+jŗ1(" 0:z.D 6 Str.empty (top 33) (a_ · (bJ 3 3 _)))
abbrev ac3:=fF GB
def N_:=wF GB
def L7:=λ(z:Z) (E:En L z/\GO z)=>(by let#[E,p]:=E;exists 1,"-3Ū" 0:z.D 4 "Changes" (inClass (top 25) 3) (a_ · (bJ 2 2 _)))
abbrev BX:=fF L7
def aad:=wG L7
def YG:SF:=(h_ (Jf 0 (aj 1) (gZ (au (e1 CI (bT "Changes" "rank_of" BX (aj 1) (au (aj 0) aB))) (au (aj 0) aB)))))
def Fo:=λ(z:Z) (E:En L z/\aad z)=>(by let#[E,p]:=E;intro f fd F;let#[oc,od,kV,doc,pm,an,cd0,ct,sP,rfl,lk,_]:=id F.ex;apply E_ (N:=["changes","numbers"]) F #[rfl,rfl,rfl,by decide +kernel,rfl,by decide +kernel,by decide +kernel] λaZ A outer s H E' hr=>by apply(aK (aX (abE (x:="number") (y:="changes") 0 (E.b rfl) (ai 1) #[rfl,rfl,rfl,by decide +kernel,rfl,rfl,by decide +kernel,λ_ _ _ _ _ _ _=>rfl] lk (congrArg (λc=>some (c,_,_)) aZ.2.symm) (bR.depth (k:=0) (bR.in1 (bR.in1 hr.m))) (λf c' s H=>(dF (ak (Nc (fX (eV E) p.t p.G (bR.deeper (bR.in1 (bR.in1 hr.m)) _) p.b (ai 1) (ak (ai 0) aA))) (ak (ai 0) aA))))))):z.D 8 Str.empty (top 32) (a_ · (bJ 2 2 YG)))
abbrev OI:=fF Fo
def Rv:=wF Fo
def Hl:=λ(z:Z) (E:En L z/\K7 z/\zJ z)=>(by let#[E,p,q]:=E;exists 1,"-3óř+$QMŉ&ś((h" 0:z.D 5 Str.empty (top 34) (a_ · (bJ 3 3 _)))
abbrev EB:=fF Hl
def Vq:=wF Hl
def Gn:=λ(z:Z) (E:En L z/\Rv z/\Vq z)=>(by let#[E,p,q]:=E;exists 1,".b%Xř&ś(:80-<KŇŒŰ-{8Ƅh" 0:z.D 9 Str.empty (top 31) (a_ · (bJ 3 4 _)))
abbrev Cg:=fF Gn
def adL:=wF Gn
def HF:=λ(z:Z) (E:En L z/\Er z)=>(by let#[E,p]:=E;exists 1,".7=°ƀ!0-3!" (ja (M:=["number"]) (js:=[none]) (gW rfl (by kernel_rfl)) rfl ("X£jŗ+jŗ1" 0) (by decide) λs3 H3 fp=>#["ŏ" 0,mV,"Ɔ_(" 0]) (ja (M:=["number","changes","here"]) (js:=[none,some 0,some 4]) (gW rfl (by kernel_rfl)) rfl (fE (ai 3)) (by decide) λs3 H3 fp=>#["ŏ" 0,"kKÓƀ!" (ja (M:=["lean","here"]) (js:=[none,some 2]) (X5 (by decide +kernel)) rfl ("XQMň#Ŭ" 0) (by decide) λs3 H3 fp=>#["ŏ" 0,mV,"ĕNOŴ" 0]),ai 0]):z.D 5 Str.empty (top 28) (a_ · (bJ 4 5 _)))
abbrev Cr:=fF HF
def GH:=wF HF
def JE:=λ(z:Z) (E:En L z/\N_ z/\adL z/\GH z/\zJ z)=>(by let#[E,p,q,u,v]:=E;exists 1,".7Djŗ1ŦYjŗ8Ŧ^Ƃ0.ôÙuųD#=.7gŇ&$#^$ŐŒ$#D$#Y((ŽË#gh-{D?.ÌD#g.ĖY#g-b%XQM'|l)m#&$#g(q%P:±0P:½0P:¾0r-¸^ƈ±#¾-{D" 0:z.D 10 Str.empty (top 30) (a_ · (bJ 5 12 _)))
abbrev Ma:=fF JE
def agI:=wF JE
def L1:=λ(z:Z) (E:En L z/\vH z/\K0 z/\HS z)=>(by let#[E,p,q,u]:=E;exists 2,";dÇnŞ*J¢_f;>7+Q,ŉ&$*(0;>Ź'/%Hń*G$@$ºţŵ$Q,'o`)a#Œ((ŢJ¢_" 0:z.D 4 "Gate" (inClass (top 50) 26) (eU · (runM 1 2 _)))
abbrev S6:=fO L1
def XW:=wO L1
def La:=λ(z:Z) (E:En L z/\Ip z)=>(by let#[E,p]:=E;exists 1,"-3Ņń$ń(" 0:z.D 6 "Gate" (inClass (top 50) 13) (a_ · (bJ 1 1 _)))
abbrev aiI:=fF La
def acN:=wG La
def LO:=λ(z:Z) (E:En L z/\K7 z)=>(by let#[E,p]:=E;exists 1,"-3Ņ°%ŗŒ(" 0:z.D 2 Str.empty (top 16) (a_ · (bJ 2 2 _)))
abbrev Fi:=fF LO
def TN:=wF LO
def Iz:=λ(z:Z) (E:En L z/\GH z/\vQ z/\acN z/\TN z/\zJ z)=>(by let#[E,p,q,u,v,y]:=E;exists 2,";dÖńJ¢_f;>7+Ņń$ń$T($ŷ&(0;>71ō0;>b%X#+:80-Źŕ8G$@$Ÿś$QMœńŰ((J¢ėn#+T(" 0:z.D 7 "Gate" (inClass (top 50) 27) (eU · (runM 1 4 _)))
abbrev LS:=fO Iz
def aaS:=wO Iz
def EK:=λ(z:Z) (E:En L z/\vH z/\agI z/\vQ z/\XW z/\aaS z)=>(by let#[E,p,q,u,v,y]:=E;exists 2,";dËŞhJņ2B)[]C$ń$ń$ń$ō$Hń*(fJĘęt&,'|l)mt&,œ" 0:z.D 11 "Gate" (inClass (top 50) 25) (eU · (runM 1 1 _)))
abbrev mE:=fO EK
def aih:=wO EK
def LV:=λ(z:Z) (E:En L z/\HS z)=>(by let#[E,p]:=E;exists 1,"-3vĚnŜ©ěQ,ň#Œ(@" 0:z.D 3 "Gate" (inClass (top 50) 29) (a_ · (bJ 2 2 _)))
abbrev WI:=fF LV
def ahU:=wG LV
def JQ:SF:=(bN (dG 1 (e2 bU (aj 0) (eC (.int 0)))) (bN (dG 2 (aj 1)) (bN (jl (rY (aj 0) (e1 (nG (some 1) none) (aj 0))) (gT (dD (gN 3) (dD (gN 4) kJ))) (dg (tV (e2 tW (e2 g7 (aj 4) (aj 3)) (e2 g7 (aj 2) (aj 1)))) (bN (dG 1 (aj 3)) (dG 2 (aj 4))) eS)) (h_ (e2 oDiv (e2 iz (aj 1) (aj 2)) (eC (.int 2)))))))
def Kf:=λ(z:Z) (E:En L z)=>(by exists 1,".7+H#&*Ŧ1#+Ŷžq%P:80P:=0r-<õi#=#8i#1#+.7+#80-71#=0ƄèI#+#1*" 0:z.D 1 Str.empty (top 40) (a_ · (bJ 1 5 JQ)))
abbrev Ag:=fF Kf
def acy:=wF Kf
def IV:SF:=(bN (dG 4 (p_ (tV (e2 iV (aj 1) (eC .aJ))) (e2 iz (aj 0) (eC (.int 1))) (aj 1))) (bN (dG 5 (gK [none,some 4] (fV (aj 2)) (gN 0) (tV (e2 oLt (aj 0) (aj 1))) (aj 0))) (bN (jg (tV (e2 oLt (e1 gH (aj 5)) (e2 CZ (aj 3) (e2 g7 (aj 4) (eC (.int 1)))))) (bN (dg (jr (tV (e2 iV (aj 1) (eC .aJ))) (tV (e2 (fW true) (aj 0) (aj 5)))) (k9 5 (aj 0)) (k9 5 (cI Ag (au (e2 gx (e2 gx (iI (au (eC (.int 0)) aB)) (aj 5)) (iI (au (aj 4) aB))) aB)))) (dG 5 (e1 mH (aj 5)))) 4000) (nJ 5))))
def J6:=λ(z:Z) (E:En L z/\acy z)=>(by let#[E,p]:=E;exists 1,".7=ðË#+hI#&*#+0.!.ôÙuųDé%ŗ8i#=*.<e}Ë#+h~¿#&#D-ÌD#&-ÌDŅ££T$*(#DTſ(-7DÆ%ŗD0-{D" (Aq 5 (hN:=nd) (M:=["place","end"]) (js:=[none,some 4]) (gW rfl (by kernel_rfl)) rfl (fE (ai 2)) (by decide) λs3 H3 fp=>#["ŏ" 0,"kuŴ" 0,ai 0]):z.D 2 Str.empty (top 39) (a_ · (bJ 4 6 IV)))
abbrev EC:=fF J6
def aa2:=wF J6
def FO:=λ(z:Z) (E:En L z/\ahU z/\K0 z/\aa2 z/\vH z)=>(by let#[E,p,q,u,v]:=E;exists 1,".7+Vţ0.!-3!" (Aq 2 (hN:=nd) (M:=["place","self"]) (js:=[none,some 0]) (gW rfl (by kernel_rfl)) rfl ("ũ#+*" 0) (by decide) λs3 H3 fp=>#["ŏ" 0,"kKQ,ň#+$Q,ŉŬ(" 0,ai 0]) (ja (M:=["place","self"]) (js:=[none,some 0]) (gW rfl (by kernel_rfl)) rfl ("XŐ+$Ŕś$Hń*(" 0) (by decide) λs3 H3 fp=>#["ŏ" 0,mV,"Q,ŉŬ" 0]):z.D 4 "Gate" (inClass (top 50) 28) (a_ · (bJ 1 3 _)))
abbrev ain:=fF FO
def adJ:=wG FO
def Lm:=λ(z:Z) (E:En L z/\WL z/\aih z/\adJ z)=>(by let#[E,p,q,u]:=E;exists 2,";şň;>ĜÙĝWKńöt&,Ƈ-¦t&,ňJņō" 0:z.D 12 "Gate" (inClass (top 50) 23) (eU · (runM 1 1 _)))
abbrev q_:=fO Lm
def uX:=wO Lm
def HA:=λ(z:Z) (E:En L z/\af2 z/\uX z)=>(by let#[E,p,q]:=E;exists 2,";>Ğ=Úğ&,'/%MňŵśŰ0;şƇJ¢#=" 0:z.D 13 "Gate" (inClass (top 50) 1) (eU · (runM 4 5 _)))
abbrev Ol:=fO HA
def ah4:=wO HA
def Gm:=λ(z:Z) (E:En L z/\su z/\uX z)=>(by let#[E,p,q]:=E;exists 2,";dŝńŵ(ŮdźŮd¬ŜJņñń²ń#+f;>Źŕ+G$@(ūJşƇ" 0:z.D 13 "Gate" (inClass (top 50) 2) (eU · (runM 2 2 _)))
abbrev v7:=fO Gm
def IJ:=λ(z:Z) (E:En L z/\su z)=>(by let#[E,p]:=E;exists 5,".<ŝńŵ(Ŋ÷!#+ŧ<źŊĠ!!#+(?Ü" (by decide) (by decide +kernel) (by decide +kernel):z.DR 3 "Gate" (inClass (top 50) 2) (jt · (lW 2 2 _)))
abbrev CB:=fR IJ
def PD:=λ(z:Z) (E:(En L z/\su z/\uX z)/\(En L z/\su z))=>(O6 (Gm z E.1) (IJ z E.2):z.DR 13 "Gate" (inClass (top 50) 2) (pI · (nj v7 CB)))
def adA:=R1 PD
def JW:=λ(z:Z) (E:En L z/\JG z)=>(by let#[E,p]:=E;exists 2,";dø#+×Ø%Ůd¯Acň#&@Ů>É&cŕ+J¢Acň#&" 0:z.D 2 "Tally" (inClass (top 44) 1) (eU · (runM 2 2 _)))
abbrev EO:=fO JW
def PK:=wO JW
def HZ:=λ(z:Z) (E:En L z/\Mq z)=>(by let#[E,p]:=E;exists 2,";dWKř+ś(Ů>S&cŕ+;>S&cŕ1J>S&c'/%T(" 0:z.D 3 "Tally" (inClass (top 44) 0) (eU · (runM 3 3 _)))
abbrev ue:=fO HZ
def D7:=wI HZ
def Lu:=λ(z:Z) (E:En L z)=>(by exists 2,";ņġńių+Vţ;ņjŗ+J>É&,ŕ+" 0:z.D 1 "Gate" (inClass (top 50) 22) (eU · (runM 2 2 _)))
abbrev sQ:=fO Lu
def Ul:=wO Lu
def E1:=λ(z:Z) (E:En L z/\PK z/\D7 z/\Ul z/\uX z)=>(by let#[E,p,q,u,v]:=E;exists 2,";dùnŜJyfĢNOú%,'/%cň!ū;d¯#=@J>É&,'/%Gŵſf;dz#=@J>¦Úģ&,'o`)aŵ(f;ş'|l)mJ¢#=0" (KL (jh E).ns q.M q.G hr.m (E.m rfl) q.b (ak (cu (bO (aI E) (E.n rfl) (ai 0)) aC) (ak (cu (bO (aI E) (E.n rfl) (ai 0)) aC) aA))):z.D 13 "Gate" (inClass (top 50) 3) (eU · (runM 3 5 _)))
abbrev v9:=fO E1
def EV:=λ(z:Z) (E:En L z/\JG z)=>(by let#[E,p]:=E;exists 5,".<ø#+×Ø%Ŋ@ŧ<¯Acň#&@Ŋ@(?Ü" 0:z.DR 2 "Tally" (inClass (top 44) 1) (jt · (lW 2 2 _)))
abbrev QX:=fR EV
def RQ:=wR EV
def E6:=λ(z:Z) (E:En L z/\D7 z/\RQ z)=>(by let#[E,p,q]:=E;exists 5,".<ùnŜŊ@ŧ78ĤNOú%ń#+!0.ĥ=Ħcŉ8ś(0Ü" (KL (jh E).ns p.M p.G hr.m (E.m rfl) p.b (ak (cu (bO (aI E) (E.n rfl) (ai 0)) aC) (ak (cu (bO (aI E) (E.n rfl) (ai 0)) aC) aA))):z.DR 5 "Gate" (inClass (top 50) 3) (jt · (lW 3 5 _)))
abbrev Be:=fR E6
def Uo:=λ(z:Z) (E:(En L z/\PK z/\D7 z/\Ul z/\uX z)/\(En L z/\D7 z/\RQ z))=>(O6 (E1 z E.1) (E6 z E.2):z.DR 13 "Gate" (inClass (top 50) 3) (pI · (nj v9 Be)))
def Y4:=R1 Uo
def Iu:=λ(z:Z) (E:En L z/\uX z)=>(by let#[E,p]:=E;exists 2,"ƅ_ūJşň" 0:z.D 13 "Gate" (inClass (top 50) 4) (eU · (runM 1 1 _)))
abbrev U8:=fO Iu
def Zk:=wO Iu
def GS:=λ(z:Z) (E:En L z/\uX z)=>(by let#[E,p]:=E;exists 2,";ņ_Jşň" 0:z.D 13 "Gate" (inClass (top 50) 5) (eU · (runM 1 1 _)))
abbrev Uv:=fO GS
def afm:=wO GS
def LY:=λ(z:Z) (E:En L z/\ah4 z/\adA z/\Y4 z/\Zk z/\afm z)=>(by let#[E,p,q,u,v,y]:=E;exists 3,";>71_0;>û!!ü%§%Jħ1" (λaf R=>(aK (cj (k7 (cu (ai 1) aC) cB) (aK (l8 (FY.fz (Uh 0 (aI E) p.t p.G hr.m p.b (ak (cu (ai 1) aC) (ak (N9 (E.b rfl) (cu (ai 1) aC)) (ak (N9 (E.b rfl) (cu (ai 1) aC)) aA))))))) (aK (cj (k7 (cu (ai 1) aC) cB) (aK (Ey (S4 0 (aI E) q.t q.G hr.m q.b (ak (cu (ai 1) aC) aA)))) (aK (cj (k7 (cu (ai 1) aC) cB) (aK (Ey (S4 0 (aI E) u.t u.G hr.m u.b (ak (cu (ai 1) aC) (ak (cu (ai 1) aC) aA))))) (aK (cj (k7 (cu (ai 1) aC) cB) (aK (l8 (lN 0 (aI E) v.t v.G hr.m v.b))) (aK (l8 (lN 0 (aI E) y.t y.G hr.m y.b)))))))))))) (λa=>(aK (bP 2 iN nd))):z.D 14 Str.empty (top 59) (rJ · (runM 2 3 _)))
abbrev As:=fP LY
def afF:=wP LY
def Ex:=λ(z:Z) (E:En L z)=>(by exists 1,"-3jţ" 0:z.D 1 "Gate" (inClass (top 50) 6) (a_ · (bJ 1 1 _)))
abbrev BJ:=fF Ex
def Eh:=wG Ex
def Ib:=λ(z:Z) (E:En L z)=>(by exists 1,"-3jţ" 0:z.D 1 "Gate" (inClass (top 50) 7) (a_ · (bJ 1 1 _)))
abbrev Du:=fF Ib
def Cf:=wG Ib
def JN:=λ(z:Z) (E:En L z)=>(by exists 1,"-3!" (ja (M:=["number","self"]) (js:=[none,some 0]) (gW rfl (by kernel_rfl)) rfl ("XÆ%ţ" 0) (by decide) λs3 H3 fp=>#["ŏ" 0,mV,"ƆªNO9,ŕ+#&(" 0]):z.D 1 "Gate" (inClass (top 50) 9) (a_ · (bJ 1 1 _)))
abbrev NQ:=fF JN
def G2:=wG JN
def KG:=λ(z:Z) (E:En L z)=>(by exists 1,"-3ń" 0:z.D 1 "Gate" (inClass (top 50) 12) (a_ · (bJ 1 1 _)))
abbrev A4:=fF KG
def U0:=wG KG
def Lq:=λ(z:Z) (E:En L z)=>(by exists 1,".78ÏŶX#+:=0-b%XHH#&i#=**Ŗ0r-¸8ƈD#^.b%X#1Ŗ0r-<¯òƈ8#D*#Y-{DƄh" 0:z.D 1 Str.empty (top 60) (a_ · (bJ 3 8 _)))
abbrev vW:=fF Lq
def Oe:=wF Lq
def Im:=λ(z:Z) (E:En L z/\Oe z)=>(by let#[E,p]:=E;exists 1,".7=*ŦDH#&i#8*ŶX#1:Y0.ýH#&i#Y*q%P:^0P:g0P:±0r.7½vÝn!T(©óřŒ$#±(h0-<e}K#½~epõ#^H#D*¡e}z#^H#D*~u#Y#8-7=I#=*0?-{=" (ja (M:=["_law_one","_law_there"]) (js:=[none,some 1]) (gW rfl (by kernel_rfl)) rfl (fE (ai 8)) (by decide) λs3 H3 fp=>#["ŏ" 0,"k¿Ŵ" 0,ai 0]):z.D 2 Str.empty (top 61) (a_ · (bJ 4 11 _)))
abbrev WN:=fF Im
def YH:=wF Im
def Jr:=λ(z:Z) (E:En L z/\Eh z/\Cf z/\G2 z/\U0 z/\vH z/\Oe z/\YH z/\vQ z)=>(by let#[E,p,q,u,v,y,g,h,j]:=E;exists 1,".78ŞŦ=ŷ&ŦD°ƀōŽ¬#1#8Ż8#1ŧ<»ƈ1#DŋªƈD#1ŧ<¬#1#=Ż=#1ŧ<KŔ-3G$@ŧ!.<Çn#YT(-þÿY@?.<¼żhŋżŧ7^2ť+$£#8#=$HH#+i#1**(Ž¼#^hŋ#^(?ŋŚ#+$£#8#=$A,'Āà)á#&ś((" (Aq 6 (hN:=nd) (M:=["_law_one","_law_line","_law_laid"]) (js:=[none,some 3,some 4]) (gW rfl (by kernel_rfl)) rfl ("XHH#+i#1**" 0) (by decide) λs3 H3 fp=>#["ŏ" 0,"ke}¿Ŵ~¿#&#1" 0,ai 0]):z.D 4 Str.empty (top 62) (a_ · (bJ 3 8 _)))
abbrev abC:=fF Jr
def abJ:=wF Jr
def KY:=λ(z:Z) (E:En L z/\Oj z)=>(by let#[E,p]:=E;exists 1,".7+!0.Ĩ+M'/%9Mŕ&-{+" (Od (eV E).ns p.M p.G hr.m (E.m rfl) p.b):z.D 3 "Changes" (inClass (top 25) 8) (a_ · (bJ 1 2 _)))
abbrev ace:=fF KY
def V3:=wG KY
def F2:=λ(z:Z) (E:En L z/\V3 z)=>(by let#[E,p]:=E;exists 1,"-3AMňń" 0:z.D 4 "Gate" (inClass (top 50) 17) (a_ · (bJ 1 1 _)))
abbrev Dt:=fF F2
def IW:=wG F2
def Ld:=λ(z:Z) (E:En L z/\N_ z/\GH z/\Vq z)=>(by let#[E,p,q,u]:=E;exists 1,".7=Ƃ0-3!" (ja (M:=["number","changes","values"]) (js:=[none,some 0,some 4]) (gW rfl (by kernel_rfl)) rfl ("XŇŒśŰ" 0) (by decide) λs3 H3 fp=>#["ŏ" 0,"kKŐ+ś$#&(" 0,ai 0]):z.D 7 Str.empty (top 29) (a_ · (bJ 4 5 _)))
abbrev ZR:=fF Ld
def ahj:=wF Ld
def JL:=λ(z:Z) (E:En L z/\U0 z/\IW z/\Eh z/\Cf z/\Er z/\vH z/\TN z/\zJ z/\Ip z/\Rv z/\ahj z/\vQ z)=>(by let#[E,p,q,u,v,y,g,h,j,l,m,a0,a1]:=E;exists 1,".<KŞ-3G$@ŧ71ŷ&Ŧ8£ōŔ0.!.<Ö#=-þÿ=@?.<¼šhŋšŧ7DŚŠŰ$QM'Āà)á#1ŵ((Ž¼#Dhŋ#Dŧ7Y2ā)ĂăĄś$Ŏō$Ŕ$A,'ĩĪ)ī#&((0ŻY#+(" (Aq 4 (hN:=nd) (M:=["lean","row"]) (js:=[none,some 3]) (gW rfl (by kernel_rfl)) rfl ("XQMœ#1ŵ(" 0) (by decide) λs3 H3 fp=>#["ŏ" 0,"k¿Ŵ" 0,ai 0]):z.D 9 Str.empty (top 37) (a_ · (bJ 2 7 _)))
abbrev wY:=fF JL
def afC:=wF JL
def JY:=λ(z:Z) (E:En L z/\su z/\IW z/\Eh z/\G2 z/\Cf z/\afC z)=>(by let#[E,p,q,u,v,y,g]:=E;exists 1,".<ŝŷŒ(-s?.71ōŽ¬#+#1Ż1#+ŧ78°ƀŔŽ»ƈ+#8ŋªƈ8#+ŧ7=żŽ¬#+#=Ż=#+(Ƅ2ťŒ(" 0:z.D 10 Str.empty (top 36) (a_ · (bJ 2 5 _)))
abbrev vC:=fF JY
def w_why:=wF JY
def wV(G:List D->Option D):SF:=(bN (dg (tV (e1 (GY "tuple" "list") (aj 0))) (h_ (e1 tG (gK [none] (fV (aj 0)) (gN 0) oN (cI G (au (aj 0) aB))))) eS) (h_ (qV (e1 (GY "int" "str") (aj 0)) (e1 UB (e1 (AZ "bool") (aj 0))))))
def afl:List D->Option D:=bJ 1 1 (wV λ_=>none)
def aiD:List D->Option D:=bJ 1 1 (wV afl)
def ae2:List D->Option D:=bJ 1 1 (wV aiD)
def ZS:List D->Option D:=bJ 1 1 (wV ae2)
abbrev MA:List D->Option D:=ZS
def abx{z:Z}(E:En L z){f:Addr}{fd:FuncData}(ag7:z.mg (gI (top 63))=some (.ref f))(acP:PySem.W.keepIn z.K (.ref f)=true)(Wx:Binds z.K fd (iQ (top 63)) [])(F:jj z.K (gI (top 63)) (gI (top 63)) (top 63) f fd):bS z.P z.w z.K z.mg z.base dR 5 f fd (iQ (top 63)) (a_ z.K MA):=by
 have sc:nC ["_law_thing"] (iQ (top 63)) (di (top 63)):=#[rfl,rfl,rfl,by decide +kernel,rfl,by decide +kernel,by decide +kernel]
 have st:∀(k:Nat) G,bS z.P z.w z.K z.mg z.base dR (k+1) f fd (iQ (top 63)) (a_ z.K G)->bS z.P z.w z.K z.mg z.base dR (k+1+1) f fd (iQ (top 63)) (a_ z.K (bJ 1 1 (wV G))):=λk G ab3=>E_ F sc λaZ A outer s H E' hr=>(aO (cj (eX (Su ahI (E.b rfl) (E.b rfl) (E.b rfl) (ai 0))) (aK (aX (Ec rfl (E.b rfl) (ja (M:=["_law_part"]) (js:=[none]) (gW rfl (by kernel_rfl)) rfl (fE (ai 0)) (by decide) λs3 H3 fp=>#[(bY 0 (aau rfl)),mV,(aU ab3 (hr.mono (by omega)) ag7 acP Wx (ak (ai 0) aA))])))) cJ) (aK (aX (n9 (Su agL (E.b rfl) (E.b rfl) (E.b rfl) (ai 0)) (rm (Pp (GC Nr (E.b rfl) (E.b rfl) (ai 0))))))))
 apply(st 3 _ (st 2 _ (st 1 _ (st 0 _ (ZY F sc)))))
def QE(z:Z):Prop:=z.N 5 (top 63) (a_ · MA)
def FD:=λ(z:Z) (E:En L z/\abJ z/\w_why z/\QE z)=>(by let#[E,p,q,u]:=E;exists 1,".78ƂŦ=Ň&ś(ŽepWKĬĭĮ4%ŗ=pWKŐ=(¡Çn#=#8ů.<zH#=*@-į=*ƄÝnŇ&ś(#8" 0:z.D 11 Str.empty (top 64) (a_ · (bJ 3 5 _)))
abbrev adT:=fF FD
def Z_:=wF FD
def HN:=λ(z:Z) (E:En L z)=>(by exists 1,".7+VţŦ1V4%!0-3Gŵ$iVţ#+$ńś$ń(" (afA (M:=["number","self"]) 0 (gW rfl (by kernel_rfl)) rfl (aI E) (E.n rfl) λs3 H3 fp=>#["İ&R%" 0,"ıĲĳĴĵĶNOķą+!ą&!ĸ!Ĺĺ!" (by rfl) (by apply λ_ _=>rfl) (by apply λ_ _=>rfl) _,pv 0]):z.D 1 "Gate" (inClass (top 50) 18) (a_ · (bJ 1 3 _)))
abbrev XC:=fF HN
def Xe:=wG HN
def KW:=λ(z:Z) (E:En L z/\Xe z/\vH z/\OH z/\G2 z/\vQ z/\Cf z/\Eh z)=>(by let#[E,p,q,u,v,y,g,h]:=E;exists 1,"-3G$A,'ĻÀ)Á#&$š$ż$Ŕ$ō$ŷ&$Ş(" 0:z.D 4 Str.empty (top 66) (a_ · (bJ 1 1 _)))
abbrev ab5:=fF KW
def ahY:=wF KW
def HJ:=λ(z:Z) (E:En L z/\su z/\IW z)=>(by let#[E,p,q]:=E;exists 5,".<ŝŷŒ(Ŋ÷!#+ŧs.s.s.s.s.s-s" (by decide):z.DR 5 Str.empty (top 36) (jt · (lW 2 5 _)))
abbrev Gj:=fR HJ
def Xs:=XE HJ
def Hs:=λ(z:Z) (E:En L z/\Xs z)=>(by let#[E,p]:=E;exists 1,".71_0.û!!ü%§%-{1" (λaf R=>(aK (Ey (VQ p.G hr.m p.m p.kp p.b (ak (ai 0) (ak (ai 1) aA)))))) (λa=>(aK (bP 2 iN nd))):z.D 6 Str.empty (top 65) (a_ · (bJ 2 3 _)))
abbrev OT:=fF Hs
def abI:=wF Hs
def o_law:=λ(z:Z) (E:En L z/\VJ z/\YS z/\abw z/\Xu z/\ais z/\afF z/\Z_ z/\zL z/\ahY z/\Ek z/\abI z)=>(by let#[E,p,q,u,v,y,g,h,j,l,m,a0]:=E;exists 1,".7+ř&(Ŧ1!Ŧ8T(Ŷê4%Ő&(:=0.ýŸ$#&ſŖ0r.7g2¤)ļĽ¥ś$ų8$#D$#Y$#^(0.ľĿöÚŀ1ťg(~zH#g*@-Ì8G$H#g*$H#g*$H#g*(?ƃI*2à)Łłá$#Y$*$ų8((ů.7±Š(Ŷũų8*:½0ƃ#½(ů.7¾IIų8*¨2ā)ĂăĄ$#&$*(ë**ŽepWKŎ*(pWKŎIų8*(¡WKŎ#¾(ů-3vŎŃ#¾(©ÝnŠ(#±" (KL (aI E).ns q.M q.G hr.m (E.m rfl) q.b (ak (cu (ai 1) aC) (ak (cu (ai 1) aC) (ak (cu (ai 1) aC) (ak (cu (ai 1) aC) aA))))):z.D 15 Str.empty (top 67) (a_ · (bJ 1 12 _)))
abbrev yP:=fF o_law
end K66
namespace K66
open PySem L2 L2.Ev
abbrev sS(d:D):Slot:=some (d,.sh [])
abbrev sW(d:D):Slot:=some (d,.own)
def cT{Y:aR}{f:EF}{d:D}(h:f Y=sW d):h_ f Y=some (.rt d):=by rw[Ds,h];rfl
def DU{v a b:Int}:oB [.int v,.int a,.int b]=some (.bl (decide (a<=v)&&decide (v<=b))):=by
 refine bg rfl (cT ?_);show(match some (D.bl (decide (a<=v))) with|some (.bl true)=>some (D.bl (decide (v<=b)),Tag.own)|some (.bl false)=>sW (.bl false)|_=>none)=_;cases decide (a<=v)<;>rfl
def iL(l:List Int):D:=.lst (l.map D.int)
abbrev Ed:=Int×Int×Int
def dT(p:Ed):D:=.tup [.int p.1,.int p.2.1,.int p.2.2]
def eL(E:List Ed):D:=.lst (E.map dT)
theorem yI:∀E:List Ed,aQ (E.map dT)=true
 |[]=>rfl
 |p::r=>by rw[aar];unfold aQ;rw[yI r];rfl
theorem SI:∀bs:List Bool,nF (bs.map D.bl)=some bs
 |[]=>rfl
 |b::r=>by rw[aar];unfold nF;rw[SI r];rfl
def Hw{bs:List Bool}:tG (.lst (bs.map D.bl))=some (.bl (bs.all id)):=by
 show(nF (bs.map D.bl)).map (λbs=>D.bl (bs.all id))=_;rw[SI];rfl
theorem mX{α β:Type}(f:α->β):∀l:List α,l.filterMap (λx=>some (f x))=l.map f
 |[]=>rfl
 |a::l=>by rw[afr,aar];show _::_=_;rw[mX f l]
abbrev g2:GF:=gT (dD (gN 0) (dD (gN 1) kJ))
def size_le{n:Nat}(h:n<=10000):n<sizeLine:=by unfold sizeLine;lia
def Va{k:Nat}(hk:k<=ds.length):cutD ds (some (k:Int)) none=ds.drop k:=by
 unfold cutD;rw[HT.Gb,HT.GJ,Nat.min_eq_left hk,List.take_of_length_le (by rw[List.length_drop];apply abi _)]
def QI{k:Nat}(hk:k<=ds.length):cutD ds none (some (k:Int))=ds.take k:=by
 unfold cutD;rw[HT.Gb,HT.GJ,Nat.min_eq_left hk];rfl
def agB{ds:List D}:cutD ds (some 1) none=ds.drop 1:=by
 cases ds with
 |nil=>rfl
 |cons a r=>apply Va (by simp)
def qj:List Int->Bool
 |x::y::r=>decide (x<y)&&qj (y::r)
 |_=>true
theorem Nu:∀l:List Int,((l.zip (l.drop 1)).map λp=>decide (p.1<p.2)).all id=qj l
 |[]=>rfl
 |[_]=>rfl
 |x::y::r=>by
  have ih:=Nu (y::r);show(decide (x<y)&&(((y::r).zip ((y::r).drop 1)).map λp=>decide (p.1<p.2)).all id)=_;rw[ih];rfl
theorem J8:∀{l},l.Pairwise (· < ·)->qj l=true
 |[],_=>rfl
 |[_],_=>rfl
 |x::y::r,h=>by
  let#[h1,h2]:=aee.mp h;show(decide (x<y)&&qj (y::r))=true;rw[J8 h2,aas (h1 y aah)];rfl
def yT(h:e Y=some (.c_ ds,t)):fV e Y=some (ds,t):=by unfold fV;rw[h]
def OJ{l:List Int}(hl:l.length<=100):adO [iL l]=some (.bl (qj l)):=by
 have q1:e1 (nG (some 1) none) (aj 0) [sS (iL l)]=sW (iL (l.drop 1)):=cE rfl (by
  show(if aQ (l.map D.int)=true then some (D.lst (cutD (l.map D.int) (some 1) none)) else none)=_;rw[if_pos (dY l),agB,<- List.map_drop];rfl)
 have hz:rY (aj 0) (e1 (nG (some 1) none) (aj 0)) [sS (iL l)]=some (((l.zip (l.drop 1)).map λp=>D.tup [.int p.1,.int p.2]),jL [(iL l,.sh []),(iL (l.drop 1),.own)]):=by
  unfold rY;rw[q1];show(if(aQ (l.map D.int)&&aQ ((l.drop 1).map D.int))=true then some (((l.map D.int).zip ((l.drop 1).map D.int)).map λp=>D.tup [p.1,p.2],jL [(iL l,.sh []),(iL (l.drop 1),.own)]) else none)=_;rw[if_pos (by rw[dY,dY];rfl),List.zip_map,adz];rfl
 refine bg rfl (cT (cE (kG (k:=λd=>match d with | .tup [.int a,.int b]=>some (.bl (decide (a < b))) | _=>none) hz (by rw[List.length_map,List.length_zip];apply size_le (by lia)) (λd m=>by
  let#[#[a,b],mi,rfl]:=abn.mp m;apply sF rfl rfl (aF rfl rfl AI))) ?_))
 rw[agR,<- Nu,<- Hw,adz];apply congrArg (λz=>tG (.lst z)) (mX (λp:Int×Int=>D.bl (decide (p.1<p.2))) _)
def wA(hi:it Y=some (ds,.sh []))(h:cU g (.sh []) f ds Y=some (.nx Y')):jl it g f Y=some (.nx Y'):=xm hi h
def Vu(hi:it Y=some (ds,.sh []))(h:cU g (.sh []) f ds Y=some (.rt r)):jl it g f Y=some (.rt r):=Bh hi h
def inR(v a b:Int):Bool:=decide (a<=v)&&decide (v<=b)
def lD(p:Ed):Bool:=inR p.1 0 999&&inR p.2.1 0 1000000000&&inR p.2.2 0 1000000000&&!(p.2.1==p.2.2)
def vL(E:List Ed):Bool:=E.all lD&&qj (E.map (·.1))
abbrev gE:GF:=gT (dD (gN 1) (dD (gN 2) (dD (gN 3) kJ)))
def bE:SF:=(bN (dg (kZ (jr (tV (cI oB (au (aj 1) (au (eC (.int 0)) (au (eC (.int 999)) aB))))) (tV (cI oB (au (aj 2) (au (eC (.int 0)) (au (eC (.int 1000000000)) aB))))))) (h_ (eC (.bl false))) eS) (dg (lY (kZ (tV (cI oB (au (aj 3) (au (eC (.int 0)) (au (eC (.int 1000000000)) aB)))))) (tV (e2 oEq (aj 2) (aj 3)))) (h_ (eC (.bl false))) eS))
def ym(h:aj i Y=some (.int v,t)):tV (cI oB (au (aj i) (au (eC (.int a)) (au (eC (.int b)) aB)))) Y=some (inR v a b):=
 bA (bZ (ps:=[(.int v,t),(.int a,.own),(.int b,.own)]) (by rw[bG,h];rfl) DU)
def rE(L:D)(a b c:Int):aR:=[sS L,sW (.int a),sW (.int b),sW (.int c)]
def b_E{L:D}{a b c:Int}:bE (rE L a b c)=some (if lD (a,b,c)=true then .nx (rE L a b c) else .rt (.bl false)):=by
 have w1:tV (cI oB (au (aj 1) (au (eC (.int 0)) (au (eC (.int 999)) aB)))) (rE L a b c)=some (inR a 0 999):=ym rfl;have w2:tV (cI oB (au (aj 2) (au (eC (.int 0)) (au (eC (.int 1000000000)) aB)))) (rE L a b c)=some (inR b 0 1000000000):=ym rfl;have w3:tV (cI oB (au (aj 3) (au (eC (.int 0)) (au (eC (.int 1000000000)) aB)))) (rE L a b c)=some (inR c 0 1000000000):=ym rfl;have w4:tV (e2 oEq (aj 2) (aj 3)) (rE L a b c)=some (b==c):=rfl;have c1:=v_ w1 w2;have c2:=qt (show kZ (tV (cI oB (au (aj 3) (au (eC (.int 0)) (au (eC (.int 1000000000)) aB))))) (rE L a b c)=some (!inR c 0 1000000000) by rw[Ga,w3];rfl) w4;unfold bE lD;rw[jH,iR,Ga,c1];cases inR a 0 999<;>cases inR b 0 1000000000<;>try rfl
 show Di _ (eS _)=_;rw[adI,pU,iR,c2];cases inR c 0 1000000000<;>cases(b==c)<;>rfl
theorem SA{L:D}:∀{E:List Ed} {s1 s2 s3},∃sC yQ uq,cU gE (.sh []) bE (E.map dT) [sS L,s1,s2,s3]=some (if E.all lD=true then .nx [sS L,sC,yQ,uq] else .rt (.bl false))
 |[],s1,s2,s3=>#[s1,s2,s3,rfl]
 |(a,b,c)::E,s1,s2,s3=>by
  let#[t1,t2,t3,ih]:=SA;refine#[t1,t2,t3,?_];rw[aar];show(match bE (rE L a b c) with|some (.nx aY)=>cU gE (.sh []) bE (E.map dT) aY|some (.ct aY)=>cU gE (.sh []) bE (E.map dT) aY|some (.bk aY)=>some (.nx aY)|some (.rt r)=>some (.rt r)|some (.er raw cn aY)=>some (.er raw cn aY)|none=>none)=_;rw[b_E,ajN];cases lD (a,b,c) with
  |true=>rw[if_pos rfl,Bool.true_and];apply ih
  |false=>rfl
def iF(h:sf Y=some (.rt d)):bN sf sg Y=some (.rt d):=by rw[jH,h];rfl
def NX{js:List (Option Nat)}{it:IF}{g:GF}{te:EF}{Y:aR}{t:Tag}{l:List Int}{p:Int->Bool}(hi:it Y=some (l.map D.int,t))(hl:l.length<=10000)(h:∀x∈l,jQ g oN te (jK js Y) (.int x)=some (some (.bl (p x)))):
  e1 tG (gK js it g oN te) Y=sW (.bl (l.all p)):=by
 have hc:=kG (k:=λd=>match d with | .int x=>some (.bl (p x)) | _=>none) hi (by rw[List.length_map];apply size_le hl) (λd m=>by
  let#[x,mx,rfl]:=abn.mp m;apply h x mx)
 rw[xM,hc,GZ,agR];have e:l.filterMap ((λd=>match d with|D.int x=>some (D.bl (p x))|_=>none) ∘ D.int)=(l.map p).map D.bl:=by
  rw[adz];apply mX (λx=>D.bl (p x)) _
 rw[e,Hw,ajt];rfl
def f_are{E:List Ed}(hl:E.length<=100):aaB [eL E]=some (.bl (vL E)):=by
 let#[t1,t2,t3,xY]:=SA;refine bg rfl ?_;unfold vL;cases ha:E.all lD with
 |false=>
  rw[ha] at xY;apply iF (Vu rfl xY)
 |true=>
  rw[ha] at xY;refine sq (wA rfl xY) (cT (bZ (ps:=[(iL (E.map λp:Ed=>p.1),.own)]) ?_ (OJ (by rw[List.length_map];apply hl))));rw[bG,kG (k:=λd=>match d with | .tup [.int a,.int _,.int _]=>some (.int a) | _=>none) rfl (by rw[List.length_map];apply size_le (by lia)) (λd m=>by
   let#[#[a,b,c],mi,rfl]:=abn.mp m;apply sF rfl rfl rfl),agR]
  unfold iL;rw[adz,show E.filterMap ((λd=>match d with|D.tup [.int a,.int _,.int _]=>some (D.int a)|_=>none) ∘ dT)=E.map (D.int ∘ (·.1)) from mX (λp:Ed=>D.int p.1) _];rfl
abbrev Ch:=Int×List Int×List Ed
def ent(c:Ch):D:=.tup [.int c.1,.tup (c.2.1.map D.int),.tup (c.2.2.map dT)]
def obj(C:List Ch):D:=.ins "Changes" [("entries",.lst (C.map ent))]
def EZ(c:Ch):aE (ent c)=true:=by
 unfold ent;show aQ [.int c.1,.tup (c.2.1.map D.int),.tup (c.2.2.map dT)]=true;unfold aQ;unfold aQ;unfold aQ;unfold aQ;show(aE (.int c.1)&&(aQ (c.2.1.map D.int)&&(aQ (c.2.2.map dT)&&true)))=true;rw[dY,yI];rfl
theorem JH:∀C:List Ch,aQ (C.map ent)=true
 |[]=>rfl
 |c::r=>by rw[aar];unfold aQ;rw[JH r,EZ];rfl
def kT{Y:aR}{cn m:Str}{F:List D->Option D}{fo:EF}{g:AF}{es:List (Str×D)}{t:Tag}{ps:List (D×Tag)}{d:D}(h:fo Y=some (.ins cn es,t))(hm:es.lookup m=none)(hg:g Y=some ps)(hF:F (.ins cn es::ps.map (·.1))=some d):
  bT cn m F fo g Y=sW d:=by
 unfold bT;rw[h];dsimp only;rw[if_pos #[rfl,hm],hg,abR,hF];rfl
def u_(h:(mm==("entries":Str))=false):([("entries",d)]:List (Str×D)).lookup mm=none:=by simp only[List.lookup,h]
def ML(C:List Ch):LJ [obj C]=some (.int C.length):=bg rfl (cT (cE rfl (by rw[x8,List.length_map])))
def JX{C:List Ch}{Y:aR}{t:Tag}{i:Nat}(h:aj i Y=some (obj C,t)):bT "Changes" "many" LJ (aj i) aB Y=sW (.int C.length):=
 kT h (u_ (by decide)) yl (ML C)
def lS{C:List Ch}{Y:aR}{t t2:Tag}{i:Nat}{mm:Str}{F:List D->Option D}{fa:EF}{x d:D}(h:aj i Y=some (obj C,t))(ha:fa Y=some (x,t2))(hF:F [obj C,x]=some d)(hm:(mm==("entries":Str))=false:=by decide):
  bT "Changes" mm F (aj i) (au fa aB) Y=sW d:=
 kT (ps:=[(x,t2)]) h (u_ hm) (by rw[bG,ha,yl,DG]) hF
def wo(C:List Ch)(m:Int):xB [obj C,.int m]=some (.bl (inR m 1 C.length)):=
 bg rfl (cT (bZ (ps:=[(.int m,.sh []),(.int 1,.own),(.int C.length,.own)]) (by rw[bG,bG,bG,JX rfl];rfl) DU))
def nu(n:Nat)(r:Int)(l:List Int)(E:List Ed):Bool:=inR r 0 9&&(l.all (λx=>inR x 1 n)&&qj l)&&(decide ((E.length:Int)<=20)&&vL E)
def sX{fa fb:EF}{Y:aR}{b c:Bool}{t:Tag}(h1:fa Y=some (.bl b,t))(h2:fb Y=sW (.bl c)):qV fa fb Y=sW (.bl (b&&c)):=by
 rw[afH,h1];ext b
 .rfl
 .exact h2
def aiW{C:List Ch}{r:Int}{l:List Int}{E:List Ed}(hl:l.length<=100)(hE:E.length<=100):aiv [obj C,.int r,iL l,eL E]=some (.bl (nu C.length r l E)):=by
 have q1:=kN (ym (Y:=[sS (obj C),sS (.int r),sS (iL l),sS (eL E)]) (i:=1) (a:=0) (b:=9) rfl);have q2:=qt (kN (bA (NX (js:=[none,some 0]) (it:=fV (aj 2)) (g:=gN 0) (te:=bT "Changes" "has" xB (aj 1) (au (aj 0) aB)) (Y:=[sS (obj C),sS (.int r),sS (iL l),sS (eL E)]) (iO rfl) (by lia) (λx mx=>sF rfl rfl (lS rfl rfl (wo C x)))))) (kN (bA (bZ (g:=au (aj 2) aB) rfl (OJ hl))));refine bg rfl ?_;unfold nu;cases h0:inR r 0 9 with
 |false=>rw[h0] at q1;apply o8 q1 (iF rfl)
 |true=>
  rw[h0] at q1;refine bV q1 ?_;cases h1:l.all λx=>inR x 1 C.length with
  |false=>rw[h1] at q2;apply o8 q2 (iF rfl)
  |true=>
   cases h2:qj l with
   |false=>rw[h1,h2] at q2;apply o8 q2 (iF rfl)
   |true=>
    rw[h1,h2] at q2;apply bV q2 (cT (sX (c:=vL E) (aF (cE rfl (by unfold eL;rw[x8,List.length_map])) rfl adw) (bZ rfl (f_are hE))))
def Df{i:Nat}{cn f:Str}{fv:EF}{Y:aR}{d:D}{t:Tag}{es:List (Str×D)}{ds:List D}(h1:fv Y=some (d,t))(h2:Y[i]? = some (sW (.ins cn es)))(hl:es.lookup f=some (.lst ds))(hc:(aE d&&aQ ds&&decide (ds.length<sizeLine))=true):
  DP i cn f fv Y=some (.nx (cz Y i (.ins cn (e_ f (.lst (ds++[d])) es)))):=by
 unfold DP;rw[h1,h2];dsimp only;rw[if_pos rfl,hl];dsimp only;rw[if_pos hc]
def ie(h:f Y=some (.nx Y')):lI f Y=some (.nx Y'):=by unfold lI;rw[h]
def iZ(hl:ds.length+1=n)(h:b (yS N d0 ds)=some (.rt (.tup [r,d1]))):runM n N b d0 ds=some (r,d1):=by unfold runM;rw[if_pos hl,h]
def ahB{C:List Ch}{r:Int}{l:List Int}{E:List Ed}(hl:l.length<=100)(hE:E.length<=100)(hm:nu C.length r l E=true)(hC:C.length<60):D6 (obj C) [.int r,iL l,eL E]=some (.int (C.length+1),obj (C++[(r,l,E)])):=by
 refine iZ rfl ?_;refine bV (kN (b:=true) (bA (kT rfl (u_ (by decide)) rfl ((aiW hl hE).trans (by rw[hm]))))) ?_;refine bV (bA (aF (JX rfl) rfl (by rw[adh,aaR (by lia)]))) ?_;refine sq (Y':=[sW (obj (C++[(r,l,E)])),sS (.int r),sS (iL l),sS (eL E)]) ((ie (Df (d:=ent (r,l,E)) (t:=.sh []) ?_ rfl rfl (by rw[EZ,JH,aas (by rw[List.length_map];apply size_le (by lia))];rfl))).trans ?_) ?_
 .rw[nQ,bG,bG,bG,cE rfl K3,cE (d:=eL E) (t:=.own) ?_ (if_pos (yI E))]
  .rfl
  .refine(kG (iO rfl) (by rw[List.length_map];apply size_le (by lia)) (λd m=>by
    let#[#[a,b,c],mx,rfl]:=abn.mp m;apply sF rfl rfl rfl)).trans ?_
   rw[mX (λd:D=>d),List.map_id'];rfl
 .unfold obj;rw[adS];rfl
 .show v8 _ _ _=_;unfold v8;rw[JX rfl,aaY];rfl
def m6{i:Int}(h1:-1000<=i)(h2:i<=1000):small i=true:=by
 unfold small;rw[aas (show -(2 ^ 62)<=i by lia),aas (show i<2 ^ 62 by lia)];rfl
def cN(a:Int)(n:Nat):List Int:=(List.range n).map λi:Nat=>a+(i:Int)
def jT{a x:Int}{n:Nat}:x∈cN a n↔a<=x/\x<a+n:=by
 unfold cN;rw[abn];constructor
 .rintro⟨i,m,rfl⟩
  have:=ajR.mp m
  lia
 .intro h;apply#[(x-a).toNat,ajR.mpr (by lia),by lia]
def G_(a:Int)(n:Nat):(cN a n).Pairwise (· < ·):=by
 unfold cN;rw[ajh];apply List.pairwise_lt_range.imp (λh=>by lia)
def yq(h:f Y=some (.int i,t))(h2:g Y=some (.int j,t2))(hi:small i=true)(hj:small j=true):pW f g Y=some ((cN i (j-i).toNat).map D.int,.own):=by
 unfold pW;rw[h,h2];dsimp only;rw[if_pos (by rw[hi,hj];rfl)];unfold cN;rw[adz];rfl
theorem iW(p:Int->Bool)(f:Int->Int):∀l:List Int,l.filterMap (λx=>if p x=true then some (D.int (f x)) else none)=((l.filter p).map f).map D.int
 |[]=>rfl
 |a::r=>by
  rw[afr]
  by_cases hp:p a=true
  .rw[agD hp,if_pos hp,iW p f r];rfl
  .rw[agE hp,aa0 hp,iW p f r]
def aeZ{js:List (Option Nat)}{it:IF}{g:GF}{tt:TF}{te:EF}{Y:aR}{t:Tag}{l:List Int}{p:Int->Bool}{f:Int->Int}(hi:it Y=some (l.map D.int,t))(hl:l.length<=10000)(h:∀x∈l,jQ g tt te (jK js Y) (.int x)=some (if p x=true then some (.int (f x)) else none)):
  gK js it g tt te Y=sW (iL ((l.filter p).map f)):=by
 have hc:=kG (k:=λd=>match d with | .int x=>if p x=true then some (.int (f x)) else none | _=>none) hi (by rw[List.length_map];apply size_le hl) (λd m=>by
  let#[x,mx,rfl]:=abn.mp m;apply h x mx)
 rw[hc]
 congr 3
 clear hc h hi hl;rw[agR];apply iW p f l
def lean(L:List (List Int))(m:Int):List Int:=if 1<=m then(L[(m-1).toNat]?).getD [] else[]
abbrev sec(C:List Ch):List (List Int):=C.map (·.2.1)
def ah8{α:Type}{f:α->D}{L:List α}{m:Int}{l:α}(h1:1<=m)(h2:m<=L.length)(h:L[(m-1).toNat]? = some l):fC (L.map f) (m-1)=some (f l):=by
 unfold fC lB;rw[List.length_map];rw[if_pos (by omega),if_pos (by omega),abR,abV,h];rfl
def ch(L:List Ch)(m:Int):Ch:=(L[(m-1).toNat]?).getD (0,[],[])
def Pr{L:List Ch}{m:Int}(h1:1<=m)(h2:m<=L.length):L[(m-1).toNat]? = some (ch L m):=by
 unfold ch;rw[aa8 (by lia)];rfl
def oj{L:List Ch}{m:Int}(h1:1<=m)(h2:m<=L.length):(ch L m).2.1=lean (sec L) m:=by
 unfold ch lean sec;rw[if_pos h1,abV,aa8 (by lia)];rfl
def K4{L:List Ch}{m:Int}(h1:1<=m)(h2:m<=L.length):adf [obj L,.int m]=some (ent (ch L m)):=
 bg rfl (bV (kN (b:=true) (bA (lS rfl rfl ((wo L m).trans (by unfold inR;rw[aas h1,aas h2];rfl))))) (cT (aF rfl rfl (wD (ah8 h1 h2 (Pr h1 h2)) (EZ _)))))
def JD{L:List Ch}{m:Int}(h1:1<=m)(h2:m<=L.length):CW [obj L,.int m]=some (iL (lean (sec L) m)):=
 bg rfl (cT (cE (aF (lS rfl rfl (K4 h1 h2)) rfl (if_pos (show aE (D.tup _)=true by simp only[aE,dY]))) (by rw[MG,oj h1 h2];rfl)))
def b8(L:List Ch)(m:Int):List Ed:=(ch L m).2.2
def yg{L:List Ch}{m:Int}(h1:1<=m)(h2:m<=L.length):zC [obj L,.int m]=some (eL (b8 L m)):=
 bg rfl (cT (cE (aF (lS rfl rfl (K4 h1 h2)) rfl (if_pos (show aE (D.tup _)=true from yI _))) (if_pos (yI _))))
def Nj{e:EF}{Y:aR}{n:Nat}{t:Tag}(h:e Y=some (.int n,t))(hs:n<=1000):ze e Y=some ((cN 0 n).map D.int,.own):=by
 rw[ir1 h (m6 (by lia) (by lia)),Int.toNat_natCast];unfold cN;rw[adz];rfl
def z_{l:List Int}:l.any (· == m)=decide (m∈l):=by
 by_cases h:m∈l
 .rw[aas h];apply aeJ.mpr #[m,h,by simp]
 .rw[aaR h,aik];intro e;let#[y,my,ey]:=aeJ.mp e;apply h (by rw[<- (ahF.mp ey)];apply my)
def vj:x∈eK l↔x∈l:=(qN l).mem_iff
structure II(E:List Ed)(n:Nat):Prop where
 so:(E.map (·.1)).Pairwise (·<=·)
 ln:E.length<=n
def G8(h:n<4096):n<sizeLine:=by unfold sizeLine;lia
theorem o9:∀ps:List (Int×Int×Int),aQ (ps.map dT)=true
 |[]=>rfl
 |p::r=>by rw[aar];unfold aQ;rw[o9 r];rfl
def nA(es:List (Int×Int))(p:Int×Int×Int):Bool:=!((cM es p.1).getD 0==p.2.1)
def bad(es:List (Int×Int))(E:List (Int×Int×Int)):List Int:=(E.filter (nA es)).map (·.1)
def nV:List Int->D
 |[]=>.aJ
 |x::_=>.int x
def aii:∀{x} {l},(x::l).Pairwise (·<=·)->kM (x::l)=x
 |x,l,h=>by
  let#[h1,h2]:=LH (l:=x::l) (by simp);have h3:=h2 x aah;rcases aaA.mp h1 with e|m
  .exact e
  .have:=(aee.mp h).1 _ m;lia
def kW(es:List (Int×Int)):D->Option D
 |.tup [.int a,.int b,.int c]=>if nA es (a,b,c)=true then some (.int a) else none
 |_=>none
def Xr:∀p,kW es (dT p)=if nA es p=true then some (D.int p.1) else none
 |(_,_,_)=>rfl
def K2(hE:II E n)(hn:n<64)(w:List D->D)(hw:fV (aj 1) [some (cZ es,.sh []),some (w (E.map dT),.sh [])]=some (E.map dT,.sh [])):Il [cZ es,w (E.map dT)]=some (nV (bad es E)):=by
 have hc:=kG (js:=[none,none,none,some 0]) (g:=gT (dD (gN 0) (dD (gN 1) (dD (gN 2) kJ)))) (tt:=tV (e2 jA (e3 mZ (aj 3) (aj 0) (eC (.int 0))) (aj 1))) (te:=aj 0) (k:=kW es) hw (by rw[List.length_map];apply G8 (by have:=hE.ln;lia)) (λd m=>by
  let#[#[a,b,c],mi,rfl]:=abn.mp m;show _=some (if nA es (a,b,c)=true then some (D.int a) else none);have ht:(tV (e2 jA (e3 mZ (aj 3) (aj 0) (eC (.int 0))) (aj 1))) [some (.int a,.own),some (.int b,.own),some (.int c,.own),some (cZ es,.sh [])]=some (nA es (a,b,c)):=by
   rw[wg,kj,PY];show Ev.kV (k2 jA ((mZ (cZ es) (.int a) (.int 0)).map _) _)=_;rw[P7];rfl
  by_cases h:nA es (a,b,c)=true
  .rw[if_pos h];apply tO (aT:=[some (.int a,.own),some (.int b,.own),some (.int c,.own),some (cZ es,.sh [])]) rfl (by rw[ht,h]) rfl rfl
  .rw[aa0 h];apply BE (aT:=[some (.int a,.own),some (.int b,.own),some (.int c,.own),some (cZ es,.sh [])]) rfl (by rw[ht,aik.mpr h]))
 have hb:(E.map dT).filterMap (kW es)=(bad es E).map D.int:=by
  clear hc hw hE;unfold bad
  induction E with
  |nil=>rfl
  |cons p r ih=>
   rw[aar,afr,ajE,Xr]
   by_cases h:nA es p=true
   .rw[if_pos h,if_pos h];dsimp only;rw[ih];rfl
   .rw[aa0 h,aa0 h];apply ih
 rw[hb] at hc;have hs:(bad es E).Pairwise (·<=·):=by
  unfold bad;have:=hE.so;rw[ajh] at this ⊢;apply this.filter _
 refine bg rfl (cT (aF hc rfl ?_));show(match fN ((bad es E).map D.int) with|some []=>if aE .aJ=true then some D.aJ else none|some (n::r)=>some (D.int (kM (n::r)))|none=>none)=_;rw[uJ];cases e:bad es E with
 |nil=>rfl
 |cons x l=>
  dsimp only;rw[aii (by rw[<- e];apply hs)];rfl
def uc(es:List (Int×Int)):List Int:=(eK (es.map (·.1))).filter λk=>!((cM es k).getD 0==0)
def nz(es:List (Int×Int)):List (Int×Int):=(uc es).map λk=>(k,(cM es k).getD 0)
def kS(es:List (Int×Int)):D->Option D
 |.int i=>if(!((cM es i).getD 0==0))=true then some (dP (i,(cM es i).getD 0)) else none
 |_=>none
def ac2(hl:es.length<64):YM [cZ es]=some (.lst ((nz es).map dP)):=by
 have hs:(e1 mH (aj 0)) [sS (cZ es)]=sW (.lst ((eK (es.map (·.1))).map D.int)):=by
  rw[xM];show(mH (cZ es)).map _=_;rw[Ye (by omega)];rfl
 have hc:=kG (js:=[none,some 0]) (g:=gN 0) (tt:=tV (e2 jA (e2 kc (aj 1) (aj 0)) (eC (.int 0)))) (te:=gZ (au (aj 0) (au (e2 kc (aj 1) (aj 0)) aB))) (k:=kS es)
   (iO hs) (by rw[List.length_map,A3,List.length_map];apply G8 (by omega)) (λd m=>by
  let#[i,mi,rfl]:=abn.mp m;let#[w,hw]:=uS.mpr (vj.mp mi);have hg:=afx hw;show _=some (if(!((cM es i).getD 0==0))=true then some (dP (i,(cM es i).getD 0)) else none);have ht:(tV (e2 jA (e2 kc (aj 1) (aj 0)) (eC (.int 0)))) [sS (.int i),sS (cZ es)]=some (!((cM es i).getD 0==0)):=by
   rw[wg,kj,kj];show Ev.kV (k2 jA ((kc (cZ es) (.int i)).map _) _)=_;rw[hg,hw];rfl
  by_cases h:(!((cM es i).getD 0==0))=true
  .rw[if_pos h];refine tO (aT:=[sS (.int i),sS (cZ es)]) (tg:=.sh []) rfl (by rw[ht,h]) ?_ rfl;rw[nQ,bG,bG,kj];show Option.map _ (ng _ (ng ((kc (cZ es) (.int i)).map _) _))=_;rw[hg,hw];rfl
  .rw[aa0 h];apply BE (aT:=[sS (.int i),sS (cZ es)]) rfl (by rw[ht,aik.mpr h]))
 refine(bg rfl (cT hc)).trans ?_
 congr 2
 unfold nz uc;generalize eK (es.map (·.1))=l;clear hs hc
 induction l with
 |nil=>rfl
 |cons x r ih=>
  rw[aar,afr,ajE]
  by_cases h:(!((cM es x).getD 0==0))=true
  .rw[if_pos h,show kS es (.int x)=some (dP (x,(cM es x).getD 0)) from if_pos h];dsimp only;rw[ih];rfl
  .rw[aa0 h,show kS es (.int x)=none from aa0 h];apply ih
def gz(es:List (Int×Int))(E:List (Int×Int×Int)):List (Int×Int):=E.foldl (λm p=>gY m p.1 p.2.2) es
theorem M1:∀(E) (es),(gz es E).length<=es.length+E.length
 |[],es=>abi _
 |p::r,es=>by
  have h:=M1 r (gY es p.1 p.2.2);have h2:=T6 (es:=es) (k:=p.1) (v:=p.2.2);show(gz (gY es p.1 p.2.2) r).length<=es.length+(r.length+1)
  lia
theorem Sv:∀(E) (es),(es.map (·.1)).Nodup->((gz es E).map (·.1)).Nodup
 |[],_,h=>h
 |p::r,es,h=>Sv r _ (Ni h)
theorem JP:∀(E) (es) (k),(E.map (·.1)).Nodup->(∀p∈E,p.1=k->cM (gz es E) k=some p.2.2)/\(k∉E.map (·.1)->cM (gz es E) k=cM es k)
 |[],es,k,_=>#[λp m=>(nomatch m),λ_=>rfl]
 |q::r,es,k,h=>by
  let#[h1,h2]:=abo.mp h;let#[a,b]:=JP r (gY es q.1 q.2.2) k h2;refine#[λp m e=>?_,λm=>?_]
  .rcases aaA.mp m with rfl|m
   .show cM (gz (gY es p.1 p.2.2) r) k=_;rw[b (by rw[<- e];apply h1),BO,if_pos e.symm]
   .exact a p m e
  .show cM (gz (gY es q.1 q.2.2) r) k=_;rw[aar] at m;rw[b λx=>m (aaf _ x),BO,aa0 λx=>m (by rw[x];apply aah)]
abbrev iY:=List (Int×Int)
theorem A8(S:iY->Slot->Slot->Slot->aR)(hg:∀v x y z (p:Ed),g (dT p) t (S v x y z)=some (S v (sW (.int p.1)) (sW (.int p.2.1)) (sW (.int p.2.2))))(hf:∀v (p:Ed),v.length<sizeLine->f (S v (sW (.int p.1)) (sW (.int p.2.1)) (sW (.int p.2.2)))=some (.nx (S (gY v p.1 p.2.2) (sW (.int p.1)) (sW (.int p.2.1)) (sW (.int p.2.2))))):
  ∀{E} {v} {x y z},v.length+E.length<4096->∃x' y' z',cU g t f (E.map dT) (S v x y z)=some (.nx (S (gz v E) x' y' z'))
 |[],_,x,y,z,_=>#[x,y,z,rfl]
 |p::E,v,x,y,z,hl=>by
  rw[abZ] at hl;let#[x',y',z',ih]:=A8 S hg hf (E:=E) (v:=gY v p.1 p.2.2) (by have:=T6 (es:=v) (k:=p.1) (v:=p.2.2);lia);apply#[x',y',z',(lC (hg ..) (hf _ _ (G8 (by lia)))).trans ih]
def z9(S L:D)(es:List (Int×Int))(s3 s4 s5 s6 s7:Slot):aR:=[sS S,sS L,sW (cZ es),s3,s4,s5,s6,s7]
abbrev RL:GF:=gT (dD (gN 5) (dD (gN 6) (dD (gN 7) kJ)))
abbrev Qj:SF:=ly 2 (aj 5) (aj 7)
def O5:k∈uc es↔(cM es k).getD 0≠0:=by
 unfold uc;rw[acW];refine#[λh=>by simpa using h.2,λh=>#[vj.mpr (uS.mp ?_),by simpa using h]];cases e:cM es k with
 |none=>rw[e] at h;apply absurd rfl h
 |some v=>apply#[v,rfl]
def Vn(h:(es.map (·.1)).Nodup):(uc es).Nodup:=((qN _).nodup_iff.mpr h).sublist afv
def Ur:(nz es).map (·.1)=uc es:=by
 unfold nz;rw[adz];apply List.map_id' _
theorem F_(f:Int->Int)(k:Int):∀l:List Int,cM (l.map λk=>(k,f k)) k=if k∈l then some (f k) else none
 |[]=>rfl
 |x::r=>by
  have ih:=F_ f k r;rw[aar];unfold cM at ih ⊢;rw[adQ]
  by_cases hx:x=k
  .rw[aas hx,if_pos (by rw[hx];apply aah),hx];rfl
  .rw[aaR hx];dsimp only;rw[ih];have:(k∈x::r)↔k∈r:=#[λm=>(aaA.mp m).elim (λe=>absurd e.symm hx) id,aaf _]
   simp only[this]
def afK(k:Int):(cM (nz es) k).getD 0=(cM es k).getD 0:=by
 unfold nz;rw[F_]
 by_cases h:k∈uc es
 .rw[if_pos h];rfl
 .rw[aa0 h];have:=mt O5.mpr h;simp only[ne_eq,Decidable.not_not] at this;rw[this];rfl
def Gk(h:(es.map (·.1)).Nodup)(k:Int):(cM (i8 (nz es)) k).getD 0=(cM es k).getD 0:=by
 rw[Ti (by rw[Ur];apply Vn h),afK]
def agl(ps:List (Int×Int)):((i8 ps).map (·.1)).Nodup:=by
 have go:∀(ps m:List (Int×Int)),(m.map (·.1)).Nodup->((ps.foldl (λm p=>gY m p.1 p.2) m).map (·.1)).Nodup:=by
  intro ps
  induction ps with
  |nil=>intro m h;apply h
  |cons p r ih=>intro m h;apply ih _ (Ni h)
 apply go ps [] acm
theorem sub_len[DecidableEq α]:∀{l m:List α},l.Nodup->(∀x∈l,x∈m)->l.length<=m.length
 |[],m,_,_=>aeQ _
 |a::l,m,h,s=>by
  let#[ha,hl]:=abo.mp h;have ma:=s a aah;have:=sub_len (m:=m.erase a) hl λx mx=>(List.mem_erase_of_ne λe=>ha (by rw[<- e];apply mx)).mpr (s x (aaf _ mx))
  rw[List.length_erase_of_mem ma] at this;have:=List.length_pos_of_mem ma;rw[abZ];omega
def agX(h:k∈(gY es a c).map (·.1)):k=a\/k∈es.map (·.1):=by
 let#[w,e]:=uS.mpr h;rw[BO] at e
 split at e
 .rename_i q;apply .inl q
 .exact .inr (uS.mp #[w,e])
theorem MS{S:List Int}:∀{E} {es},(∀p∈E,p.1∈S)->(∀k∈es.map (·.1),k∈S)->∀k∈(gz es E).map (·.1),k∈S
 |[],es,_,h=>h
 |p::E,es,hE,h=>MS (es:=gY es p.1 p.2.2) (λq m=>hE q (aaf _ m)) λk m=>(agX m).elim (λe=>by rw[e];apply hE p aah) (h k)
def fJ:iY->List (List Ed)->Option iY
 |v,[]=>some v
 |v,E::r=>if bad v E=[] then fJ (gz v E) r else none
structure Kb(Sl:List Int)(v:iY):Prop where
 sl:Sl.length<=60
 nd:(v.map (·.1)).Nodup
 ks:∀k∈v.map (·.1),k∈Sl
def Kb.len{v:iY}(h:Kb Sl v):v.length<=60:=by
 have:=sub_len h.nd h.ks;rw[List.length_map] at this;apply aeC this h.sl
def Kb.nil(h:Sl.length<=60):Kb Sl []:=#[h,.nil,λk m=>nomatch m]
structure Ee(Sl:List Int)(E:List Ed):Prop where
 ed:II E 20
 nd:(E.map (·.1)).Nodup
 sl:∀p∈E,p.1∈Sl
theorem Kb.gz{v:iY}(h:Kb Sl v)(e:Ee Sl E):Kb Sl (gz v E):=#[h.sl,Sv E v h.nd,MS e.sl h.ks]
abbrev U9(Z:SF):SF:=bN (dG 4 (cI Il (au (aj 2) (au (aj 3) aB)))) (bN (dg (tV (e2 xw (aj 4) (eC .aJ))) Z eS) (jl (fV (aj 3)) RL Qj))
def Xy{Z:SF}{S L:D}(hE:II E 20)(hb:bad v E=[])(hl:v.length<=3000):∃t5 t6 t7,U9 Z (z9 S L v (some (eL E,.sh [])) s4 s5 s6 s7)=some (.nx (z9 S L (gz v E) (some (eL E,.sh [])) (some (.aJ,.own)) t5 t6 t7)):=by
 have hle:=hE.ln;let#[t5,t6,t7,lp]:=A8 (g:=RL) (f:=Qj) (λv x y z=>z9 S L v (some (eL E,.sh [])) (some (.aJ,.own)) x y z) (λ_ _ _ _ _=>rfl) (λv p h=>Ky rfl rfl rfl h) (E:=E) (v:=v) (by lia);apply#[t5,t6,t7,cP (d:=.aJ) (bZ rfl (by show Il [cZ v,.lst (E.map dT)]=_;rw[K2 hE (by lia) D.lst rfl,hb];rfl)) (sq rfl (wA rfl lp))]
theorem Ml{Z:SF}{S L:D}:∀{Es} {v v'} {s3 s4 s5 s6 s7},(∀E∈Es,Ee Sl E)->fJ v Es=some v'->Kb Sl v->
  ∃t3 t4 t5 t6 t7,cU (gN 3) (.sh []) (U9 Z) (Es.map eL) (z9 S L v s3 s4 s5 s6 s7)=some (.nx (z9 S L v' t3 t4 t5 t6 t7))/\Kb Sl v'
 |[],v,v',s3,s4,s5,s6,s7,_,h,k=>by
  ext h;apply#[s3,s4,s5,s6,s7,rfl,k]
 |E::Es,v,v',s3,s4,s5,s6,s7,hE,h,k=>by
  unfold fJ at h
  by_cases hb:bad v E=[]
  .rw[if_pos hb] at h;have Qz:=hE E aah;let#[t5,t6,t7,hs]:=Xy Qz.ed hb (by have:=k.len;lia);let#[u3,u4,u5,u6,u7,ih,k']:=Ml (λE' m=>hE E' (aaf _ m)) h (k.gz Qz);apply#[u3,u4,u5,u6,u7,(lC rfl hs).trans ih,k']
  .rw[aa0 hb] at h;ext h
def dS(ps:iY):D:=.lst (ps.map dP)
def fQ(C:List Ch)(row:List Int):List (List Ed):=row.map (b8 C)
abbrev Row(C:List Ch)(ns:List Int):Prop:=∀x∈ns,1<=x/\x<=(C.length:Int)
structure GoodC(Sl:List Int)(C:List Ch):Prop where
 ln:C.length<=60
 sl:Sl.length<=60
 ed:∀m,Ee Sl (b8 C m)
 bd:∀m x,1<=m->m<=(C.length:Int)->x∈lean (sec C) m->1<=x/\x<m
 few:∀m,(lean (sec C) m).length<=60
def zc{C:List Ch}{row:List Int}(g:GoodC Sl C)(hb:Row C row)(hl:row.length<=100)(h:fJ [] (fQ C row)=some v):Vk [obj C,iL row]=some (dS (nz v))/\Kb Sl v:=by
 have hE:∀E∈fQ C row,Ee Sl E:=λE m=>by
  let#[x,_,rfl]:=abn.mp m;apply g.ed x
 let#[t3,t4,t5,t6,t7,xY,kv]:=Ml hE h (Kb.nil g.sl);have hc:=kG (js:=[none,some 0]) (it:=fV (aj 1)) (Y:=[sS (obj C),sS (iL row)]) (g:=gN 0) (tt:=oN) (te:=bT "Changes" "edits_of" zC (aj 1) (au (aj 0) aB)) (k:=λd=>match d with | .int x=>some (eL (b8 C x)) | _=>none) (iO rfl) (by rw[List.length_map];apply size_le (by lia)) (λd m=>by
  let#[x,mx,rfl]:=abn.mp m;let#[h1,h2]:=hb x mx;apply sF rfl rfl (lS rfl rfl (yg h1 h2)))
 rw[agR,show(row.filterMap ((λd=>match d with|D.int x=>some (eL (b8 C x))|_=>none) ∘ D.int))=(fQ C row).map eL from(mX _ _).trans (by unfold fQ;rw[adz];rfl)] at hc;apply#[bg rfl (cT (bZ (by rw[bG,bG];show ng _ (ng (gK _ _ _ _ _ [sS (obj C),sS (iL row)]) _)=_;rw[hc];rfl) (bg rfl (cP rfl (sq (wA rfl xY) (cT (bZ (ps:=[(cZ v,.sh [2])]) rfl (ac2 (by have:=kv.len;lia))))))))),kv]
abbrev gV(es:iY)(k:Int):Int:=(cM es k).getD 0
def eW(C:List Ch)(v:iY)(m:Int):Bool:=(bad v (b8 C m)).isEmpty
def R7:eW C v m=true↔bad v (b8 C m)=[]:=List.isEmpty_iff
def Sz:iV (nV l) .aJ=some (.bl l.isEmpty):=by ext l<;>rfl
def qd{l:List Int}(hi:it Y=some (l.map D.int,t))(hl:l.length<=10000)(hr:∀x,gN 0 (.int x) (.sh []) (jK js Y)=some (sS (.int x)::r))(h:∀x∈l,tt (sS (.int x)::r)=some (p x)):
  gK js it (gN 0) tt (aj 0) Y=sW (iL (l.filter p)):=by
 have:=aeZ (tt:=tt) (te:=aj 0) hi hl (λx mx=>by
  by_cases hp:p x=true
  .rw[if_pos hp];apply tO (hr x) (by rw[h x mx,hp]) rfl rfl
  .rw[aa0 hp];apply BE (hr x) (by rw[h x mx,aik.mpr hp]))
 rw[List.map_id'] at this;apply this
def VZ(h1:fv Y=some (.int n,t))(h2:Y[i]? = some (sW (iL ns)))(hm:n∈ns):zS i fv Y=some (.nx (cz Y i (iL (ns.erase n)))):=by
 unfold zS;rw[h1,h2];unfold iL;dsimp only;rw[uJ];dsimp only;rw[if_pos hm]
def kB(k:Int):Key×D:=(Sum.inl k,.bl true)
def dB(ks:List Int):D:=.b_ (ks.map kB)
def add(ks:List Int)(k:Int):List Int:=if k∈ks then ks else ks++[k]
def acE:x∈add ks k↔x∈ks\/x=k:=by
 unfold add
 by_cases h:k∈ks
 .rw[if_pos h];apply#[.inl,λe=>e.elim id λe=>by rw[e];apply h]
 .rw[aa0 h,abc,aaD]
def Mw{ks:List Int}:((ks.map kB).any λkv=>decide (kv.1=(Sum.inl k:Key)))=decide (k∈ks):=by
 induction ks with
 |nil=>simp
 |cons a r ih=>
  rw[aar,ajj,ih];have:decide ((kB a).1=(Sum.inl k:Key))=decide (a=k):=by
   apply ajF.mpr wQ
  rw[this]
  by_cases h:a=k
  .subst h;simp
  .simp[h,ahc h]
def acj{ks:List Int}:lO false (.int x) (dB ks)=some (.bl (decide (x∈ks))):=by
 show some (D.bl (if false=true then _ else(bB (ks.map kB) (Sum.inl x:Key)).isSome))=_;rw[aa0 aaH,<- Mw];unfold bB;rw[aic]
 congr 2
 rw[aim,List.find?_isSome,aeJ]
def ae8{ks:List Int}:putD (ks.map kB) (Sum.inl k:Key) (.bl true)=(add ks k).map kB:=by
 unfold putD add;rw[Mw]
 by_cases h:k∈ks
 .rw[if_pos (aas h),if_pos h,adz];refine ahx λa _=>?_
  show(if(Sum.inl a:Key)=Sum.inl k then((Sum.inl a:Key),D.bl true) else kB a)=kB a
  split<;>rfl
 .rw[aa0 (by simpa using h),aa0 h,adS];rfl
def adds(m l:List Int):List Int:=l.foldl add m
theorem Vm:∀{l m} {x},x∈adds m l↔x∈m\/x∈l
 |[],m,x=>by simp[adds]
 |a::l,m,x=>by
  have:=Vm (l:=l) (m:=add m a) (x:=x);show x∈adds (add m a) l↔_;rw[this,acE,aaA,or_assoc]
def qE(x:Int):D:=.tup [.int x,.bl true]
theorem Q8:∀l:List Int,jw (l.map qE)=some (l.map kB)
 |[]=>rfl
 |p::r=>by
  rw[aar];show(match iU (.int p),jw (r.map qE) with|some k,some ps=>if aE (.bl true)=true then some ((k,D.bl true)::ps) else none|_,_=>none)=_;rw[Q8 r];rfl
theorem NZ:∀(l m),(l.map kB).foldl (λm p=>putD m p.1 p.2) (m.map kB)=(adds m l).map kB
 |[],_=>rfl
 |p::r,m=>by rw[aar,afz];show(r.map kB).foldl _ (putD (m.map kB) (Sum.inl p:Key) (.bl true))=_;rw[ae8];apply NZ r _
def ad3:xK (.lst (l.map qE))=some (dB (adds [] l)):=by
 show(jw (l.map qE)).map _=_;rw[Q8];show some (D.b_ ((l.map kB).foldl (λm p=>putD m p.1 p.2) []))=_;rw[show([]:List (Key×D))=([]:List Int).map kB from rfl,NZ];rfl
def f7(C:List Ch)(there:List Int)(m:Int):Bool:=(lean (sec C) m).all λx=>decide (x∈there)
def tw{g:SF}(Y':aR)(h:g Y'=r)(e:Y=Y':=by rfl):g Y=r:=by rw[e,h]
def Q_(h:f Y=some (iL a,t))(h2:g Y=some (iL b,t2))(hl:a.length+b.length<=1000):e2 gx (e1 vp f) (e1 vp g) Y=sW (iL (a++b)):=
 aF (cE h u9) (cE h2 u9) (xP (by rw[aft];lia))
def J4(g:GoodC Sl C){a b wt:List Int}(hl:a.length+b.length<=1000)(hw:Row C wt)(BL:wt.length<=1000):Cr [obj C,iL a,iL b,iL wt]=some (iL (wt.filter (f7 C (a++b)))):=by
 refine bg rfl (cP (cE (t:=.own) ?_ ad3) (tw [sS (obj C),sS (iL a),sS (iL b),sS (iL wt),sW (dB (adds [] (a++b)))] (cT (qd (iO rfl) (by lia) (λx=>rfl) (λx qG=>?_)))))
 .refine(kG (k:=λd=>match d with | .int x=>some (qE x) | _=>none) (iO (Q_ rfl rfl hl)) (by rw[List.length_map,aaY];apply size_le (by lia)) (λd m=>by
   let#[x,qG,rfl]:=abn.mp m;apply tO rfl rfl rfl rfl)).trans ?_
  rw[agR,show((a++b).filterMap ((λd=>match d with|D.int x=>some (qE x)|_=>none) ∘ D.int))=(a++b).map qE from mX qE _]
 .let#[h1,h2]:=hw x qG;refine bA (NX (iO (lS rfl rfl (JD h1 h2))) (by have:=g.few x;lia) (λy my=>sF rfl rfl (aF rfl rfl ?_)));rw[acj,show decide (y∈adds [] (a++b))=decide (y∈a++b) from ajF.mpr (by rw[Vm];simp)]
def TV(g:GoodC Sl C)(hl:a.length+b.length<=100)(hb:Row C (a++b))(h:fJ [] (fQ C (a++b))=some v):ac3 [obj C,iL a,iL b]=some (cZ (i8 (nz v))):=
 bg rfl (cT (cE (bZ (ps:=[(obj C,.sh []),(iL (a++b),.own)]) (by rw[bG,bG];show ng _ (ng (e2 gx _ _ [sS (obj C),sS (iL a),sS (iL b)]) _)=_;rw[Q_ rfl rfl (by lia)];rfl) (zc g hb (by rw[aaY];lia) h).1) ME))
def Lf(h:∀k,gV u k=gV v k)(E:List Ed):bad u E=bad v E:=by
 unfold bad
 congr 1
 refine List.filter_congr λp _=>?_
 unfold nA;have:=h p.1;unfold gV at this;rw[this]
def RZ(g:GoodC Sl C)(h1:1<=m)(h2:m<=(C.length:Int)):EB [obj C,cZ v,.int m]=some (.bl (eW C v m)):=
 bg rfl (cT (aF (bZ (ps:=[(cZ v,.sh []),(eL (b8 C m),.own)]) (by rw[bG,bG];show ng _ (ng (bT _ _ _ _ _ [sS (obj C),sS (cZ v),sS (.int m)]) _)=_;rw[lS rfl rfl (yg h1 h2)];rfl) (K2 (g.ed m).ed (by lia) D.lst rfl)) rfl Sz))
def Zx{L:List Ch}{m:Int}(h1:1<=m)(h2:m<=L.length):BX [obj L,.int m]=some (.int (ch L m).1):=
 bg rfl (cT (aF (lS rfl rfl (K4 h1 h2)) rfl rfl))
abbrev kf:EF:=gZ (au (e1 CI (bT "Changes" "rank_of" BX (aj 1) (au (aj 0) aB))) (au (aj 0) aB))
abbrev pr(C:List Ch):Int->Int×Int:=wZ kf (obj C)
def EL{C:List Ch}{x:Int}(h1:1<=x)(h2:x<=C.length):sJ kf (obj C) x=some (-(ch C x).1,x):=by
 unfold sJ;have e:e1 CI (bT "Changes" "rank_of" BX (aj 1) (au (aj 0) aB)) [sW (.int x),sS (obj C)]=sW (.int (-(ch C x).1)):=cE (lS rfl rfl (Zx h1 h2)) rfl;show(match gZ _ _ with|some (.tup [.int a,.int b],_)=>some (a,b)|_=>none)=_;rw[nQ,bG,e];rfl
def Lx(h:Row C ns)(hn:ns.Nodup):(ns.map (pr C)).Nodup:=by
 have tP:∀x∈ns,pr C x=(-(ch C x).1,x):=λx m=>by
  show(sJ kf (obj C) x).getD _=_;rw[EL (h x m).1 (h x m).2];rfl
 unfold List.Nodup;rw[ajh];refine hn.imp_of_mem λ{a b} ma mb ne e=>ne ?_
 rw[tP a ma,tP b mb] at e;apply(Prod.mk.injEq .. ▸ e).2
def NK(h:Row C ns)(hn:ns.Nodup)(hl:ns.length<64):OI [obj C,iL ns]=some (iL (iM (pr C) ns)):=by
 refine bg rfl (cT ?_);show(match fN (ns.map D.int) with|some ns=>if ns.length<64/\(ns.map (pr C)).Nodup/\∀n∈ns,(sJ kf (obj C) n).isSome=true then some (D.lst ((iM (pr C) ns).map D.int),Tag.own) else none|none=>none)=_;rw[uJ];dsimp only;rw[if_pos #[hl,Lx h hn,λx m=>by rw[EL (h x m).1 (h x m).2];rfl]];rfl
def Oh:Option Int->D
 |none=>.aJ
 |some x=>.int x
def zw:SF:=dg (tV (cI EB (au (aj 0) (au (aj 1) (au (aj 3) aB))))) (nJ 3) eS
theorem Ob(g:GoodC Sl C):∀{l} {s3},Row C l->match l.find? (eW C v) with
  |some x=>cU (gN 3) (.sh []) zw (l.map D.int) [sS (obj C),sS (cZ v),sS N,s3]=some (.rt (.int x))
  |none=>∃t3,cU (gN 3) (.sh []) zw (l.map D.int) [sS (obj C),sS (cZ v),sS N,s3]=some (.nx [sS (obj C),sS (cZ v),sS N,t3])
 |[],s3,_=>#[s3,rfl]
 |x::l,s3,h=>by
  let#[h1,h2]:=h x aah;have q:tV (cI EB (au (aj 0) (au (aj 1) (au (aj 3) aB)))) [sS (obj C),sS (cZ v),sS N,sS (.int x)]=some (eW C v x):=bA (bZ rfl (RZ g h1 h2));have ih:=Ob g (v:=v) (N:=N) (s3:=sS (.int x)) λy m=>h y (aaf _ m)
  rw[adQ];cases hf:eW C v x with
  |true=>
   rw[hf] at q;apply HB (aT:=[sS (obj C),sS (cZ v),sS N,sS (.int x)]) rfl (by unfold zw;rw[iR,q];rfl)
  |false=>
   rw[hf] at q;have e:=lC (g:=gN 3) (t:=.sh []) (f:=zw) (ds:=l.map D.int) (Y:=[sS (obj C),sS (cZ v),sS N,s3]) (aT:=[sS (obj C),sS (cZ v),sS N,sS (.int x)]) rfl (by unfold zw;rw[iR,q];rfl);dsimp only;rw[aar,e];apply ih
def agJ(g:GoodC Sl C)(h:Row C ns)(hn:ns.Nodup)(hl:ns.length<64):Cg [obj C,cZ v,iL ns]=some (Oh ((iM (pr C) ns).find? (eW C v))):=by
 have hi:fV (cI OI (au (aj 0) (au (aj 2) aB))) [some (obj C,.sh []),some (cZ v,.sh []),some (iL ns,.sh []),none]=some ((iM (pr C) ns).map D.int,.own):=iO (bZ rfl (NK h hn hl));have lp:=Ob g (v:=v) (N:=iL ns) (l:=iM (pr C) ns) (s3:=none) λx m=>h x ((qP ns).mem_iff.mp m)
 refine bg rfl ?_;cases e:(iM (pr C) ns).find? (eW C v) with
 |none=>
  rw[e] at lp;let#[t3,lp]:=lp;apply sq (wJ hi lp) rfl
 |some x=>
  rw[e] at lp;apply iF (OW hi lp)
theorem TU:∀{row} {v v'} {m},fJ v (fQ C row)=some v'->bad v' (b8 C m)=[]->fJ v (fQ C (row++[m]))=some (gz v' (b8 C m))
 |[],v,v',m,h,hb=>by
  ext h;show(if bad v (b8 C m)=[] then fJ (gz v (b8 C m)) [] else none)=_;rw[if_pos hb];rfl
 |x::r,v,v',m,h,hb=>by
  have h:(if bad v (b8 C x)=[] then fJ (gz v (b8 C x)) (fQ C r) else none)=some v':=h;show(if bad v (b8 C x)=[] then fJ (gz v (b8 C x)) (fQ C (r++[m])) else none)=_
  by_cases NO:bad v (b8 C x)=[]
  .rw[if_pos NO] at h ⊢;apply TU h hb
  .rw[aa0 NO] at h;ext h
def ah0(h1:c Y=some true)(h2:b Y=some (.nx Y')):jg c b (n+1) Y=jg c b n Y':=by rw[jg,h1];dsimp only;rw[h2]
def adD(h1:c Y=some false):jg c b (n+1) Y=some (.nx Y):=by rw[jg,h1]
def Wf(h1:c Y=some true)(h2:b Y=some (.rt d)):jg c b (n+1) Y=some (.rt d):=by rw[jg,h1];dsimp only;rw[h2]
abbrev cF:TF:=tV (e2 oLt (e1 gH (aj 5)) (aj 4))
abbrev bF:SF:=(bN (dG 8 (cI Cg (au (aj 0) (au (aj 7) (au (cI Cr (au (aj 0) (au (aj 1) (au (aj 5) (au (aj 6) aB))))) aB))))) (bN (dg (tV (e2 iV (aj 8) (eC .aJ))) (nJ 5) eS) (bN (k9 5 (aj 8)) (bN (zS 6 (aj 8)) (jl (fV (bT "Changes" "edits_of" zC (aj 0) (au (aj 8) aB))) (gT (dD (gN 9) (dD (gN 10) (dD (gN 11) kJ)))) (ly 7 (aj 9) (aj 11)))))))
def rF(C:List Ch)(ln ld wt:List Int)(w:Int)(told left:List Int)(u:iY)(s8 s9 eO l5:Slot):aR:=[sS (obj C),sS (iL ln),sS (iL ld),sS (iL wt),sS (.int w),sW (iL told),sW (iL left),sW (cZ u),s8,s9,eO,l5]
def tP(h1:1<=x)(h2:x<=(C.length:Int)):pr C x=(-(ch C x).1,x):=by
 show(sJ kf (obj C) x).getD _=_;rw[EL h1 h2];rfl
def ag1(h1:1<=x)(h2:x<=(C.length:Int))(h:ch C x=(r,[],[])):f7 C there x=true:=by
 unfold f7;rw[<- oj h1 h2,h];rfl
def afW(h:ch C x=(r,[],[])):eW C v x=true:=by
 unfold eW b8;rw[h];rfl
def aeL(hr:Row C left)(h:∀x∈left,ch C x=(r,[],[]))(s:left.Pairwise (· < ·)):left=iM (pr C) left:=
 R5 (.refl _) (Lx hr (s.imp λh=>by lia)) (s.imp_of_mem λ{a b} ma mb q=>by
  rw[tP (hr a ma).1 (hr a ma).2,tP (hr b mb).1 (hr b mb).2,h a ma,h b mb];apply aas (.inr #[rfl,q]))
def T_(hr:Row C left)(h:∀x∈left,ch C x=(r,[],[]))(s:left.Pairwise (· < ·)):(iM (pr C) (left.filter (f7 C there))).find? (eW C v)=left.head? :=by
 rw[List.filter_eq_self.mpr λx m=>ag1 (hr x m).1 (hr x m).2 (h x m),<- aeL hr h s];cases left with
 |nil=>rfl
 |cons y l=>rw[aiE (afW (h y aah))];rfl
structure Fl(C:List Ch)(ln told left:List Int)(w:Int)(ex:List Int):Prop where
 nd:ex.Nodup
 sub:∀x∈ex,x∈left
 le:((told++ex).length:Int)<=w\/ex=[]
 fst:∀x r,ex=x::r->∃v,fJ [] (fQ C (ln++told))=some v/\f7 C (ln++told) x=true/\eW C v x=true
 pl:∀r,(∀x∈left,ch C x=(r,[],[]))->left.Pairwise (· < ·)->ex=left.take (w-(told.length:Int)).toNat
 run:∃v,fJ [] (fQ C (ln++(told++ex)))=some v/\(w<=((told++ex).length:Int)\/∀x∈left,x∉ex->f7 C (ln++(told++ex)) x=true->eW C v x=false)
def abX(g:GoodC Sl C):∀{n} {told left} {u v} {s8 s9 eO l5},Row C left->left.Nodup->left.length<64->ln.length+told.length+left.length<=1000->fJ [] (fQ C (ln++told))=some v->(∀k,gV u k=gV v k)->Kb Sl u->left.length<n->
  ∃ex,bN (jg cF bF n) (nJ 5) (rF C ln ld wt w told left u s8 s9 eO l5)=some (.rt (iL (told++ex)))/\Fl C ln told left w ex:=by
 intro n
 induction n with
 |zero=>intros;omega
 |succ n ih=>
  intro told left u v s8 s9 eO l5 hr nd hl hs hv hu ku hn;have c1:cF (rF C ln ld wt w told left u s8 s9 eO l5)=some (decide ((told.length:Int)<w)):=bA (aF (cE rfl (by show some (D.int (told.map D.int).length)=_;rw[List.length_map])) rfl rfl)
  by_cases hw:(told.length:Int)<w
  .rw[aas hw] at c1;have ef:eW C u=eW C v:=funext λx=>by unfold eW;rw[Lf hu]
   have q1:cI Cg (au (aj 0) (au (aj 7) (au (cI Cr (au (aj 0) (au (aj 1) (au (aj 5) (au (aj 6) aB))))) aB))) (rF C ln ld wt w told left u s8 s9 eO l5)=sW (Oh ((iM (pr C) (left.filter (f7 C (ln++told)))).find? (eW C v))):=by
    refine bZ (ps:=[(obj C,.sh []),(cZ u,.sh [7]),(iL (left.filter (f7 C (ln++told))),.own)]) ?_ ?_
    .rw[bG,bG,bG,bZ rfl (J4 g (by lia) hr (by lia))];rfl
    .show Cg [obj C,cZ u,_]=_;rw[agJ g (λx m=>hr x (acW.mp m).1) (nd.sublist afv) (ahM (afE _ _) hl),ef]
   have pm:=λx=>(qP (pr:=pr C) (left.filter (f7 C (ln++told)))).mem_iff (a:=x)
   cases hb:(iM (pr C) (left.filter (f7 C (ln++told)))).find? (eW C v) with
   |none=>
    rw[hb] at q1;refine#[[],iF ((Wf c1 (cP q1 (iF rfl))).trans (by rw[ack])),.nil,(λx m=>nomatch m),.inr rfl,(λx r e=>nomatch e),(λr p s=>by
     rw[T_ hr p s] at hb;cases left with
     |nil=>rw[List.take_nil]
     |cons y l=>ext hb),v,by rw[ack];apply hv,.inr λx m _ hf=>?_]
    rw[ack] at hf;have:=ahR.mp hb x ((pm x).mpr (acW.mpr #[m,hf]));simpa using this
   |some x=>
    rw[hb] at q1;have mf:=(pm x).mp (afY hb);have m:=(acW.mp mf).1;have f:=R7.mp (ajg hb);let#[h1,h2]:=hr x m;have hE:=(g.ed x).ed.ln;have hel:=List.length_erase_of_mem m;have hp:=List.length_pos_of_mem m;let#[t9,KD,VC,lp]:=A8 (g:=gT (dD (gN 9) (dD (gN 10) (dD (gN 11) kJ)))) (f:=ly 7 (aj 9) (aj 11)) (λv x' y z=>rF C ln ld wt w (told++[x]) (left.erase x) v (sW (.int x)) x' y z) (λ_ _ _ _ _=>rfl) (λv p h=>Ky rfl rfl rfl h) (E:=b8 C x) (v:=u) (by have:=ku.len;lia);have st:bF (rF C ln ld wt w told left u s8 s9 eO l5)=some (.nx (rF C ln ld wt w (told++[x]) (left.erase x) (gz u (b8 C x)) (sW (.int x)) t9 KD VC)):=by
     refine cP q1 (bV rfl ?_);refine sq ((Ju rfl rfl (size_le (by lia))).trans rfl) ?_;refine sq ((VZ rfl rfl m).trans rfl) ?_;apply wJ (iO (lS rfl rfl (yg h1 h2))) lp
    let#[ex,e,F]:=ih (told:=told++[x]) (s8:=sW (.int x)) (s9:=t9) (eO:=KD) (l5:=VC) (λy my=>hr y (List.mem_of_mem_erase my)) (nd.erase x) (by lia) (by rw[aaY,aeS];lia) (by rw[<- afQ];apply TU hv f) (λk=>by
     let#[a1,a2]:=JP (b8 C x) u k (g.ed x).nd;let#[b1,b2]:=JP (b8 C x) v k (g.ed x).nd;unfold gV
     by_cases mk:k∈(b8 C x).map (·.1)
     .let#[p,mp,rfl]:=abn.mp mk;rw[a1 p mp rfl,b1 p mp rfl]
     .rw[a2 mk,b2 mk];apply hu k) (ku.gz (g.ed x)) (by lia)
    have ea:told++x::ex=told++[x]++ex:=by rw[afQ];rfl
    refine#[x::ex,?_,abo.mpr #[λmx=>(nd.mem_erase_iff.mp (F.sub x mx)).1 rfl,F.nd],λy my=>(aaA.mp my).elim (λe=>e ▸ m) λmy=>List.mem_of_mem_erase (F.sub y my),.inl ?_,(λy r e=>by ext e;apply#[v,hv,(acW.mp mf).2,ajg hb]),(λr p s=>by
     rw[T_ hr p s] at hb;cases left with
     |nil=>ext hb
     |cons y l=>
      ext hb;have k:=F.pl r;rw[List.erase_cons_head,aaY,aeS] at k;rw[show(w-(told.length:Int)).toNat=(w-((told.length+1:Nat):Int)).toNat+1 by lia,List.take_succ_cons];apply congrArg (x::·) (k (λz m=>p z (aaf _ m)) (aee.mp s).2)),?_]
    .rw[jH,ah0 c1 st,<- jH,ea];apply e
    .rw[ea];rcases F.le with h|h
     .exact h
     .rw[h,ack,aaY,aeS];lia
    .rw[ea];let#[v',r1,r2]:=F.run;refine#[v',r1,r2.imp id λr y my ny=>?_];apply r y (nd.mem_erase_iff.mpr #[λe=>ny (e ▸ aah),my]) λq=>ny (aaf _ q)
  .rw[aaR hw] at c1;apply#[[],(sq (adD c1) rfl).trans (by rw[ack];rfl),.nil,(λx m=>nomatch m),.inr rfl,(λx r e=>nomatch e),(λr p s=>by rw[show(w-(told.length:Int)).toNat=0 by lia,List.take_zero]),v,by rw[ack];apply hv,.inl (by rw[ack];lia)]
def X7(g:GoodC Sl C)(hb:Row C (ln++ld))(hr:Row C wt)(nd:wt.Nodup)(hw:wt.length<64)(hl:ln.length+ld.length<=100)(hv:fJ [] (fQ C (ln++ld))=some v):∃ex,Ma [obj C,iL ln,iL ld,iL wt,.int w]=some (iL (ld++ex))/\Fl C ln ld wt w ex:=by
 have kv:=(zc g hb (by rw[aaY];lia) hv).2;have kd:Kb Sl (i8 (nz v)):=#[g.sl,agl _,λk m=>kv.ks k (uS.mp (by
  let#[w,e]:=uS.mpr m;rw[Ti (by rw[Ur];apply Vn kv.nd)] at e;unfold nz at e;rw[F_] at e
  split at e
  .rename_i mk;have:=O5.mp mk;cases h:cM v k with
   |none=>rw[h] at this;apply absurd rfl this
   |some y=>apply#[y,rfl]
  .cases e))]
 let#[ex,e,F]:=abX g (n:=4000) hr nd hw (by lia) hv (Gk kv.nd) kd (by lia);apply#[ex,bg rfl (cP (cE rfl u9) (cP (cE rfl u9) (cP (bZ rfl (TV g hl hb hv)) e))),F]
def best:Int×Int->List (Int×Int)->Int×Int
 |p,[]=>p
 |p,q::r=>best (if p.2-p.1<q.2-q.1 then q else p) r
def pairs(f:List Int):List (Int×Int):=f.zip f.tail
def mid(f:List Int):Int:=let p:=best (f.headD 0,f.headD 0) (pairs f);(p.1+p.2) / 2
theorem CL:∀(l:List (Int×Int)) (p:Int×Int),best p l=p\/best p l∈l
 |[],p=>.inl rfl
 |q::r,p=>by
  unfold best
  by_cases h:p.2-p.1<q.2-q.1
  .rw[if_pos h];rcases CL r q with e|e
   .rw[e];apply .inr aah
   .exact .inr (aaf _ e)
  .rw[aa0 h];rcases CL r p with e|e
   .exact .inl e
   .exact .inr (aaf _ e)
theorem Dr:∀(l:List (Int×Int)) (p:Int×Int),p.2-p.1<=(best p l).2-(best p l).1/\∀q∈l,q.2-q.1<=(best p l).2-(best p l).1
 |[],p=>#[Int.le_refl _,λq m=>nomatch m]
 |x::r,p=>by
  unfold best
  by_cases h:p.2-p.1<x.2-x.1
  .rw[if_pos h];let#[h1,h2]:=Dr r x;refine#[by lia,λq m=>?_];rcases aaA.mp m with rfl|m
   .exact h1
   .exact h2 q m
  .rw[aa0 h];let#[h1,h2]:=Dr r p;refine#[h1,λq m=>?_];rcases aaA.mp m with rfl|m
   .lia
   .exact h2 q m
theorem Fy:∀(r:List Int) (a:Int),(∀q∈pairs (a::r),q.2-q.1<=1)->(a::r).getLastD 0<=a+r.length
 |[],a,_=>by simp
 |b::r,a,h=>by
  have h1:b-a<=1:=h (a,b) (by unfold pairs;apply aah);have h2:=Fy r b λq m=>h q (by unfold pairs at m ⊢;apply aaf _ m)
  have e:(a::b::r).getLastD 0=(b::r).getLastD 0:=by simp[List.getLastD]
  rw[e,abZ]
  lia
abbrev fence(ws:List Int)(e:Int):List Int:=0::(ws++[e])
def Lw(m:q∈pairs f):q.1∈f/\q.2∈f:=by
 unfold pairs at m;let#[h1,h2]:=List.of_mem_zip m;apply#[h1,List.mem_of_mem_tail h2]
def abm(hw:∀x∈ws,1<=x)(hl:(ws.length:Int)<e-1):1<=mid (fence ws e):=by
 have hf:∀x∈fence ws e,0<=x:=λx m=>by
  rcases aaA.mp m with rfl|m
  .exact Int.le_refl _
  .rcases abc.mp m with m|m
   .have:=hw x m;lia
   .cases aaD.mp m;lia
 obtain⟨q,m,hq⟩:∃q∈pairs (fence ws e),2<=q.2-q.1:=by
  refine ajc λhn=>?_
  have:=Fy (ws++[e]) 0 λq m=>by
   refine ajc λh=>hn #[q,m,by lia]
  have q1:(0::(ws++[e])).getLastD 0=e:=by rw[show(0::(ws++[e]))=(0::ws)++[e] from rfl,List.getLastD_concat]
  rw[q1,aaY,aeS] at this
  lia
 have hb:=(Dr (pairs (fence ws e)) ((fence ws e).headD 0,(fence ws e).headD 0)).2 q m;unfold mid;dsimp only;rcases CL (pairs (fence ws e)) ((fence ws e).headD 0,(fence ws e).headD 0) with h|h
 .rw[h] at hb;dsimp only at hb
  lia
 .let#[h1,h2]:=Lw h;have:=hf _ h1
  lia
def Rc(p:Int×Int):D:=.tup [.int p.1,.int p.2]
def rM(f:List Int)(l h:Int)(t1 t2:Tag)(s3 s4:Slot):aR:=[sS (.lst (f.map D.int)),some (.int l,t1),some (.int h,t2),s3,s4]
abbrev bM:SF:=dg (tV (e2 tW (e2 g7 (aj 4) (aj 3)) (e2 g7 (aj 2) (aj 1)))) (bN (dG 1 (aj 3)) (dG 2 (aj 4))) eS
abbrev gM:GF:=gT (dD (gN 3) (dD (gN 4) kJ))
theorem E5:∀(ps:List (Int×Int)) (p:Int×Int) (t1 t2:Tag) (s3 s4:Slot),∃t1' t2' uq AR,cU gM (.sh []) bM (ps.map Rc) (rM f p.1 p.2 t1 t2 s3 s4)=some (.nx (rM f (best p ps).1 (best p ps).2 t1' t2' uq AR))
 |[],p,t1,t2,s3,s4=>#[t1,t2,s3,s4,rfl]
 |q::r,p,t1,t2,s3,s4=>by
  have hc:tV (e2 tW (e2 g7 (aj 4) (aj 3)) (e2 g7 (aj 2) (aj 1))) (rM f p.1 p.2 t1 t2 (sW (.int q.1)) (sW (.int q.2)))=some (decide (p.2-p.1<q.2-q.1)):=rfl
  by_cases h:p.2-p.1<q.2-q.1
  .have hb:bM (rM f p.1 p.2 t1 t2 (sW (.int q.1)) (sW (.int q.2)))=some (.nx (rM f q.1 q.2 (.sh [3]) (.sh [4]) (sW (.int q.1)) (sW (.int q.2)))):=by
    unfold bM;rw[iR,hc,aas h,SK];rfl
   let#[a,b,c,d,hh]:=E5 r q (.sh [3]) (.sh [4]) (sW (.int q.1)) (sW (.int q.2));refine#[a,b,c,d,(lC rfl hb).trans ?_];unfold best;rw[if_pos h];apply hh
  .have hb:bM (rM f p.1 p.2 t1 t2 (sW (.int q.1)) (sW (.int q.2)))=some (.nx (rM f p.1 p.2 t1 t2 (sW (.int q.1)) (sW (.int q.2)))):=by
    unfold bM;rw[iR,hc,aaR h,OB];rfl
   let#[a,b,c,d,hh]:=E5 r p t1 t2 (sW (.int q.1)) (sW (.int q.2));refine#[a,b,c,d,(lC rfl hb).trans ?_];unfold best;rw[aa0 h];apply hh
def ahf(a:Int)(r:List Int):nG (some 1) none (.lst ((a::r).map D.int))=some (.lst (r.map D.int)):=by
 show(if aQ ((a::r).map D.int)=true then some (D.lst (cutD ((a::r).map D.int) (some 1) none)) else none)=_;rw[if_pos (dY _)];have:cutD ((a::r).map D.int) (some 1) none=r.map D.int:=by
  unfold cutD;have e:HT.gA ((a::r).map D.int).length 0 (some 1)=1:=by
   have q:=HT.Gb ((a::r).map D.int).length 0 1;rw[show((1:Nat):Int)=1 from rfl] at q;rw[q,List.length_map,abZ];lia
  rw[HT.GJ,e,aar,List.drop_succ_cons,List.drop_zero,abZ,Nat.add_sub_cancel,List.take_length]
 rw[this]
def abu(a:Int)(r:List Int):Ag [.lst ((a::r).map D.int)]=some (.int (mid (a::r))):=by
 refine bg rfl ?_;show JQ [some (.lst ((a::r).map D.int),.sh []),none,none,none,none]=_;unfold JQ;have q1:dG 1 (e2 bU (aj 0) (eC (.int 0))) [some (.lst ((a::r).map D.int),.sh []),none,none,none,none]=some (.nx [some (.lst ((a::r).map D.int),.sh []),some (.int a,.own),none,none,none]):=by
  have hx:bU (.lst ((a::r).map D.int)) (.int 0)=some (.int a):=wD (by rw[Lg (by lia) (by rw[abZ];lia)];rfl) rfl;rw[pB,kj];show Dm 1 _ ((bU (.lst ((a::r).map D.int)) (.int 0)).map _)=_;rw[hx];rfl
 have q2:dG 2 (aj 1) [some (.lst ((a::r).map D.int),.sh []),some (.int a,.own),none,none,none]=some (.nx (rM (a::r) a a .own (.sh [1]) none none)):=rfl;have hz:rY (aj 0) (e1 (nG (some 1) none) (aj 0)) (rM (a::r) a a .own (.sh [1]) none none)=some ((pairs (a::r)).map Rc,.sh []):=by
  unfold rY;have v0:aj 0 (rM (a::r) a a .own (.sh [1]) none none)=some (.lst ((a::r).map D.int),.sh []):=rfl;have v1:e1 (nG (some 1) none) (aj 0) (rM (a::r) a a .own (.sh [1]) none none)=some (.lst (r.map D.int),.own):=by
   rw[xM,v0];show(nG (some 1) none (.lst ((a::r).map D.int))).map _=_;rw[ahf];rfl
  rw[v0,v1];dsimp only;rw[if_pos (by rw[dY,dY];rfl)];refine congrArg some (Prod.ext ?_ rfl);rw[List.zip_map,adz];rfl
 let#[t1,t2,s3,s4,hl]:=E5 (pairs (a::r)) (a,a) .own (.sh [1]) none none;have hf:jl (rY (aj 0) (e1 (nG (some 1) none) (aj 0))) gM bM (rM (a::r) a a .own (.sh [1]) none none)=some (.nx (rM (a::r) (best (a,a) (pairs (a::r))).1 (best (a,a) (pairs (a::r))).2 t1 t2 s3 s4)):=xm hz hl;rw[jH,q1,pU,jH,q2,pU,jH];rw[hf,pU];unfold mid;rw[show((a::r).headD 0,(a::r).headD 0)=(a,a) from rfl];generalize best (a,a) (pairs (a::r))=p;have v1:aj 1 (rM (a::r) p.1 p.2 t1 t2 s3 s4)=some (.int p.1,LZ 1 t1):=rfl;have v2:aj 2 (rM (a::r) p.1 p.2 t1 t2 s3 s4)=some (.int p.2,LZ 2 t2):=rfl;rw[Ds,kj,kj,v1,v2,zo,Qw,Rn,EH,zo,Qd (by lia) (by lia)];rfl
def kr:Option Int->D
 |none=>.aJ
 |some b=>.int b
def endOf(size:Int):Option Int->Int
 |none=>size+1
 |some b=>b
def pick(size:Int)(bad:Option Int)(e:Int)(ws:List Int):Int:=if(bad.isNone&&!(ws.any (· == size)))=true then size else mid (fence ws e)
def mF(size:Int)(bad:Option Int)(e:Int)(ws:List Int):List Int:=eK (ws++[pick size bad e ws])
def lim(e ck:Int):Int:=if e-1<ck then e-1 else ck
def oU(size:Int)(bad:Option Int)(e ck:Int):Nat->List Int->List Int
 |0,ws=>ws
 |n+1,ws=>if(ws.length:Int)<lim e ck then oU size bad e ck n (mF size bad e ws) else ws
def Vb{bad:Option Int}:(mF size bad e ws).length=ws.length+1:=by unfold mF;rw[A3,aaY];rfl
def Vd(b:Option Int):pL (kr b)=b.isNone:=by ext b<;>rfl
abbrev cW:TF:=tV (e2 oLt (e1 gH (aj 5)) (e2 CZ (aj 3) (e2 g7 (aj 4) (eC (.int 1)))))
abbrev bW:SF:=bN (dg (jr (tV (e2 iV (aj 1) (eC .aJ))) (tV (e2 (fW true) (aj 0) (aj 5)))) (k9 5 (aj 0)) (k9 5 (cI Ag (au (e2 gx (e2 gx (iI (au (eC (.int 0)) aB)) (aj 5)) (iI (au (aj 4) aB))) aB)))) (dG 5 (e1 mH (aj 5)))
def Ci(t:Tag):Prop:=t=.own\/t=.sh []
def rW(size:Int)(bad:Option Int)(kd:D)(ck e:Int)(t4:Tag)(ws:List Int):aR:=[sS (.int size),sS (kr bad),sS kd,sS (.int ck),some (.int e,t4),sW (.lst (ws.map D.int))]
section
variable{size ck e:Int}{bad:Option Int}
def Oc:cW (rW size bad kd ck e t4 ws)=some (decide ((ws.length:Int)<lim e ck)):=by
 show some (decide (((ws.map D.int).length:Int)<(if e-1<ck then e-1 else ck)))=_;rw[List.length_map];rfl
def aid:(tV (e2 (fW true) (aj 0) (aj 5))) (rW size bad kd ck e t4 ws)=some (!(ws.any (· == size))):=by
 rw[wg,kj];show Ev.kV ((fW true (.int size) (.lst (ws.map D.int))).map _)=_;rw[xG];rfl
def afn:(jr (tV (e2 iV (aj 1) (eC .aJ))) (tV (e2 (fW true) (aj 0) (aj 5)))) (rW size bad kd ck e t4 ws)=some (bad.isNone&&!(ws.any (· == size))):=by
 refine v_ ?_ aid;show some (pL (kr bad))=_;rw[Vd]
def NJ(h:Ci t4)(x:Int):cz (rW size bad kd ck e t4 ws) 5 (.lst ((ws++[x]).map D.int))=rW size bad kd ck e t4 (ws++[x]):=by
 rcases h with rfl|rfl<;>rfl
def aeW(hl:ws.length<63):(e2 gx (e2 gx (iI (au (eC (.int 0)) aB)) (aj 5)) (iI (au (aj 4) aB))) (rW size bad kd ck e t4 ws)=sW (.lst ((fence ws e).map D.int)):=by
 have h1:gx (.lst (([0]:List Int).map D.int)) (.lst (ws.map D.int))=some (.lst (([0]++ws).map D.int)):=xP (by unfold PySem.sizeLine;show 1+ws.length<=_;lia);have h2:gx (.lst (([0]++ws).map D.int)) (.lst (([e]:List Int).map D.int))=some (.lst (([0]++ws++[e]).map D.int)):=xP (by unfold PySem.sizeLine;rw[aaY];show 1+ws.length+1<=_;lia);rw[kj,kj];show k2 gx ((gx (.lst (([0]:List Int).map D.int)) (.lst (ws.map D.int))).map _) _=_;rw[h1,Rn];show(gx (.lst (([0]++ws).map D.int)) (.lst (([e]:List Int).map D.int))).map _=_;rw[h2];rfl
def aeb(ht:Ci t4)(hl:ws.length<63):bW (rW size bad kd ck e t4 ws)=some (.nx (rW size bad kd ck e t4 (mF size bad e ws))):=by
 have hz:ws.length<PySem.sizeLine:=by unfold PySem.sizeLine;lia
 have h1:dg (jr (tV (e2 iV (aj 1) (eC .aJ))) (tV (e2 (fW true) (aj 0) (aj 5)))) (k9 5 (aj 0)) (k9 5 (cI Ag (au (e2 gx (e2 gx (iI (au (eC (.int 0)) aB)) (aj 5)) (iI (au (aj 4) aB))) aB))) (rW size bad kd ck e t4 ws)=some (.nx (rW size bad kd ck e t4 (ws++[pick size bad e ws]))):=by
  rw[iR,afn];unfold pick
  by_cases hb:(bad.isNone&&!(ws.any (· == size)))=true
  .rw[hb,SK,if_pos rfl,Ju rfl rfl hz,NJ ht]
  .have yk:(bad.isNone&&!(ws.any (· == size)))=false:=by simpa using hb
   have hm:cI Ag (au (e2 gx (e2 gx (iI (au (eC (.int 0)) aB)) (aj 5)) (iI (au (aj 4) aB))) aB) (rW size bad kd ck e t4 ws)=sW (.int (mid (fence ws e))):=by
    rw[s_call,bG,aeW hl,yl,DG,Ut];simp only[aar,ajS];have:=abu 0 (ws++[e]);rw[aar] at this;rw[this];rfl
   rw[yk,OB,aa0 aaH,Ju hm rfl hz,NJ ht]
 unfold bW;rw[jH,h1,pU,pB,xM];show Dm 5 _ ((mH (.lst ((ws++[pick size bad e ws]).map D.int))).map _)=_;rw[YJ (by rw[aaY];show ws.length+1<64;lia)];rfl
theorem Po(ht:Ci t4)(hh:ck<=60):∀(n:Nat) (ws:List Int) (m:Nat),ck-ws.length<=n->n<m->jg cW bW m (rW size bad kd ck e t4 ws)=some (.nx (rW size bad kd ck e t4 (oU size bad e ck n ws)))
 |_,_,0,_,h=>absurd h (Nat.not_lt_zero _)
 |0,ws,m+1,h,_=>by
  have:¬((ws.length:Int)<lim e ck):=by unfold lim;split<;>lia
  rw[jg,Oc,aaR this];rfl
 |n+1,ws,m+1,h,hm=>by
  rw[jg,Oc];unfold oU
  by_cases hc:(ws.length:Int)<lim e ck
  .have h1:(ws.length:Int)<ck:=by unfold lim at hc;split at hc<;>lia
   rw[aas hc,if_pos hc];dsimp only;rw[aeb ht (by lia)];apply Po ht hh n (mF size bad e ws) m (by rw[Vb];lia) (by lia)
  .rw[aaR hc,aa0 hc]
end
def mY(e:Int)(ks:List Int):List Int:=ks.filter λk=>decide (k<e)
def kI(e:Int):D->Option D
 |.int i=>if decide (i<e)=true then some (.int i) else none
 |_=>none
theorem KO(e:Int):∀ks:List Int,(ks.map D.int).filterMap (kI e)=(mY e ks).map D.int
 |[]=>rfl
 |k::r=>by
  unfold mY;rw[aar,afr,ajE];have hk:kI e (D.int k)=if decide (k<e)=true then some (D.int k) else none:=rfl
  by_cases h:decide (k<e)=true
  .rw[hk,if_pos h,if_pos h,aar];dsimp only;rw[KO e r];rfl
  .rw[hk,aa0 h,aa0 h];apply KO e r
def Z9{js:List (Option Nat)}(hi:it Y=some (ks.map D.int,t))(hj:jK js Y=[none,sS (.int e)])(hl:ks.length<64):
  gK js it (gN 0) (tV (e2 oLt (aj 0) (aj 1))) (aj 0) Y=sW (.lst ((mY e ks).map D.int)):=by
 have hc:=kG (g:=gN 0) (tt:=tV (e2 oLt (aj 0) (aj 1))) (te:=aj 0) (k:=kI e) hi (by rw[List.length_map];unfold PySem.sizeLine;lia) (λd m=>by
  let#[i,mi,rfl]:=abn.mp m;rw[hj];show _=some (if decide (i<e)=true then some (D.int i) else none)
  by_cases h:decide (i<e)=true
  .rw[if_pos h];refine tO rfl ?_ rfl rfl;show some (decide (i<e))=_;rw[h]
  .rw[aa0 h];refine BE rfl ?_;show some (decide (i<e))=_;rw[aik.mpr h])
 rw[hc,KO]
def ahD{bad:Option Int}(h0:aj 0 Y=sS (.int size))(h1:aj 1 Y=sS (kr bad)):∃t,Ci t/\p_ (tV (e2 iV (aj 1) (eC .aJ))) (e2 iz (aj 0) (eC (.int 1))) (aj 1) Y=some (.int (endOf size bad),t):=by
 have hc:tV (e2 iV (aj 1) (eC .aJ)) Y=some bad.isNone:=by
  rw[wg,kj,h1,EH,zo,aif,Vd];rfl
 cases bad with
 |none=>apply#[.own,.inl rfl,by rw[Te (by rw[hc];rfl),kj,h0,EH,zo,Qw];rfl]
 |some b=>apply#[.sh [],.inr rfl,by rw[O7 (by rw[hc];rfl),h1];rfl]
def W(size:Int)(bad:Option Int)(ks:List Int)(ck:Int):List Int:=oU size bad (endOf size bad) ck 100 (mY (endOf size bad) ks)
def YF{bad:Option Int}(hh:ck<=60)(hl:ks.length<64)(kd:D)(hk:fV (aj 2) [some (.int size,.sh []),some (kr bad,.sh []),some (kd,.sh []),some (.int ck,.sh []),none,none]=some (ks.map D.int,.sh []))
  (hk2:∀t,fV (aj 2) [some (.int size,.sh []),some (kr bad,.sh []),some (kd,.sh []),some (.int ck,.sh []),some (.int (endOf size bad),t),none]=some (ks.map D.int,.sh [])) :
  EC [.int size,kr bad,kd,.int ck]=some (.lst ((W size bad ks ck).map D.int)):=by
 refine bg rfl ?_;show IV [some (.int size,.sh []),some (kr bad,.sh []),some (kd,.sh []),some (.int ck,.sh []),none,none]=_;unfold IV;let#[t4,ht,h1]:=ahD (Y:=[some (.int size,.sh []),some (kr bad,.sh []),some (kd,.sh []),some (.int ck,.sh []),none,none]) rfl rfl;have q1:dG 4 (p_ (tV (e2 iV (aj 1) (eC .aJ))) (e2 iz (aj 0) (eC (.int 1))) (aj 1)) [some (.int size,.sh []),some (kr bad,.sh []),some (kd,.sh []),some (.int ck,.sh []),none,none]=some (.nx [some (.int size,.sh []),some (kr bad,.sh []),some (kd,.sh []),some (.int ck,.sh []),some (.int (endOf size bad),t4),none]):=by
  rw[pB,h1];rcases ht with rfl|rfl<;>rfl
 have q2:dG 5 (gK [none,some 4] (fV (aj 2)) (gN 0) (tV (e2 oLt (aj 0) (aj 1))) (aj 0)) [some (.int size,.sh []),some (kr bad,.sh []),some (kd,.sh []),some (.int ck,.sh []),some (.int (endOf size bad),t4),none]=some (.nx (rW size bad kd ck (endOf size bad) t4 (mY (endOf size bad) ks))):=by
  rw[pB,Z9 (hk2 t4) rfl hl];rfl
 have q3:=Po (size:=size) (bad:=bad) (kd:=kd) (e:=endOf size bad) ht hh 100 (mY (endOf size bad) ks) 4000 (by lia) (by lia);rw[jH,q1,pU,jH,q2,pU,jH,q3,pU];rfl
def WJ{bad:Option Int}(hh:ck<=60)(hl:ks.length<64):EC [.int size,kr bad,.lst (ks.map D.int),.int ck]=some (.lst ((W size bad ks ck).map D.int)):=YF hh hl _ rfl λ_=>rfl
theorem Og{bad:Option Int}(hh:ck<=60):∀(n:Nat) (ws:List Int),ws.length<64->(oU size bad e ck n ws).length<64
 |0,ws,h=>h
 |n+1,ws,h=>by
  unfold oU
  split
  .rename_i hc;refine Og hh n _ ?_;rw[Vb];unfold lim at hc
   split at hc<;>lia
  .exact h
def XZ{bad:Option Int}(hh:ck<=60)(hl:ks.length<64):(W size bad ks ck).length<64:=Og hh _ _ (ahM (afE _ _) hl)
structure nM(e:Int)(ws:List Int):Prop where
 so:ws.Pairwise (· < ·)
 bd:∀x∈ws,1<=x/\x<e
theorem between:∀{f:List Int}{q:Int×Int}{x:Int},f.Pairwise (· < ·)->q∈pairs f->x∈f->x<=q.1\/q.2<=x
 |[],q,x,_,m,_=>by ext m
 |[a],q,x,_,m,_=>by ext m
 |a::b::r,q,x,hp,m,mx=>by
  let#[h1,h2]:=aee.mp hp;have hs:pairs (a::b::r)=(a,b)::pairs (b::r):=rfl;rw[hs] at m;rcases aaA.mp m with hq|m'
  .subst hq;rcases aaA.mp mx with hx|qG
   .exact .inl (by show x<=a;lia)
   .rcases aaA.mp qG with hx|mx2
    .exact .inr (by show b<=x;lia)
    .have:=(aee.mp h2).1 x mx2;apply .inr (by show b<=x;lia)
  .rcases aaA.mp mx with hx|qG
   .have:=h1 q.1 (Lw m').1;apply .inl (by lia)
   .exact between h2 m' qG
def agP(h:nM e ws)(he:1<=e):(fence ws e).Pairwise (· < ·):=by
 refine aee.mpr #[λx m=>?_,List.pairwise_append.mpr #[h.so,ajk _ _,λx m y my=>?_]]
 .rcases abc.mp m with m|m
  .have:=h.bd x m;lia
  .cases aaD.mp m;lia
 .cases aaD.mp my;apply(h.bd x m).2
def aeK(h:nM e ws)(hl:(ws.length:Int)<e-1):mid (fence ws e)<e/\mid (fence ws e)∉ws:=by
 have hf:=agP h (by lia);obtain⟨q,m,hq⟩:∃q∈pairs (fence ws e),2<=q.2-q.1:=by
  refine ajc λhn=>?_
  have:=Fy (ws++[e]) 0 λq m=>by
   refine ajc λh=>hn #[q,m,by lia]
  have q1:(0::(ws++[e])).getLastD 0=e:=by rw[show(0::(ws++[e]))=(0::ws)++[e] from rfl,List.getLastD_concat]
  rw[q1,aaY,aeS] at this
  lia
 have hb:=(Dr (pairs (fence ws e)) ((fence ws e).headD 0,(fence ws e).headD 0)).2 q m;unfold mid;dsimp only;rcases CL (pairs (fence ws e)) ((fence ws e).headD 0,(fence ws e).headD 0) with h'|h'
 .rw[h'] at hb;dsimp only at hb
  lia
 .generalize best ((fence ws e).headD 0,(fence ws e).headD 0) (pairs (fence ws e))=p at hb h';have h2:p.2<=e:=by
   have:=(Lw h').2;rcases aaA.mp this with z|z
   .lia
   .rcases abc.mp z with z|z
    .have:=(h.bd _ z).2;lia
    .rw[aaD.mp z];apply Int.le_refl _
  refine#[by lia,λmx=>?_];rcases between hf h' (aaf _ (aaL _ mx)) with z|z<;>lia
section
variable{size ck e:Int}{bad:Option Int}
def aap(h:nM e ws)(he:e=endOf size bad)(hl:(ws.length:Int)<e-1):1<=pick size bad e ws/\pick size bad e ws<e/\pick size bad e ws∉ws:=by
 unfold pick
 split
 .rename_i hc;cases bad with
  |none=>
   have he:e=size+1:=he;refine#[by lia,by lia,λm=>?_];have:ws.any (· == size)=true:=aeJ.mpr #[size,m,aiZ size];rw[this] at hc;ext hc
  |some b=>ext hc
 .let#[h1,h2]:=aeK h hl;apply#[abm (λx m=>(h.bd x m).1) hl,h1,h2]
def YV(h:nM e ws)(he:e=endOf size bad)(hl:(ws.length:Int)<e-1):nM e (mF size bad e ws)/\∀x∈ws,x∈mF size bad e ws:=by
 let#[p1,p2,p3]:=aap h he hl;have hp:(mF size bad e ws).Perm (ws++[pick size bad e ws]):=qN _;have hn:(mF size bad e ws).Nodup:=by
  refine hp.nodup_iff.mpr (adv.mpr #[h.so.imp λcY=>Int.ne_of_lt cY,abo.mpr #[(λm=>by ext m),acm],λa ma b mb e=>?_]);cases aaD.mp mb;apply p3 (e ▸ ma)
 refine#[#[?_,λx m=>?_],λx m=>hp.mem_iff.mpr (aaL _ m)]
 .have hs:(mF size bad e ws).Pairwise (·<=·):=Cw _;apply(List.pairwise_and_iff.mpr #[hs,hn]).imp λh=>by have h1:=h.1;have h2:=h.2;lia
 .rcases abc.mp (hp.mem_iff.mp m) with m|m
  .exact h.bd x m
  .rw[aaD.mp m];apply#[p1,p2]
theorem M8(he:e=endOf size bad):∀(n:Nat) (ws:List Int),nM e ws->nM e (oU size bad e ck n ws)/\∀x∈ws,x∈oU size bad e ck n ws
 |0,ws,h=>#[h,λx m=>m]
 |n+1,ws,h=>by
  unfold oU
  split
  .rename_i hc;have hl:(ws.length:Int)<e-1:=by unfold lim at hc;split at hc<;>lia
   let#[a,b]:=YV h he hl;let#[c,d]:=M8 he n (mF size bad e ws) a;apply#[c,λx m=>d x (b x m)]
  .exact#[h,λx m=>m]
end
def YA{bad:Option Int}(h:ks.Pairwise (· < ·))(h1:∀x∈ks,1<=x):nM (endOf size bad) (W size bad ks ck)/\∀x∈ks,x<endOf size bad->x∈W size bad ks ck:=by
 have hi:nM (endOf size bad) (mY (endOf size bad) ks):=#[h.sublist afv,λx m=>let q:=acW.mp m;#[h1 x q.1,aau q.2]]
 let#[a,b]:=M8 rfl 100 _ hi;apply#[a,λx m hx=>b x (acW.mpr #[m,aas hx])]
def qQ(hl:ds.length+1=n)(h:b (yS N d0 ds)=some (.nx Y))(h0:Y[0]? = some (sW d1)):runM n N b d0 ds=some (.aJ,d1):=by unfold runM;rw[if_pos hl,h];dsimp only;rw[h0]
def hs(h:List Str):D:=.lst (h.map D.str)
def tob(n t:Int)(h:List Str):D:=.ins "Tally" [("need",.int n),("tries",.int t),("heard",hs h)]
def NG(h:1<=n/\n<=t/\t<=20):adH [.int n,.int t]=some (.bl true):=
 bg rfl (cT (sX (b:=true) (bZ rfl (DU.trans (by rw[aas (show(1:Int)<=t by omega),aas h.2.2];rfl))) (bZ rfl (DU.trans (by rw[aas h.1,aas h.2.1];rfl)))))
def Sq(h:1<=n/\n<=t/\t<=20):ue (.ins "Tally" []) [.int n,.int t]=some (.aJ,tob n t []):=
 qQ rfl (bV (kN (bA (bZ (ps:=[(.int n,.sh []),(.int t,.sh [])]) rfl (NG h)))) rfl) rfl
def ZJ:Co (hs h) (.str w)=some (.int (lK w h)):=by
 show(kY (h.map D.str)).map (λys=>D.int (lK w ys))=_;rw[RG];rfl
def abg:gH (hs h)=some (.int h.length):=by unfold hs;rw[x8,List.length_map]
def word(n t:Int)(h:List Str):Str:=if(lK "yes" h:Int) >= n then "yes" else if(lK "no" h:Int) >= n then "no" else if(h.length:Int) >= t then "unsure" else "more"
def Ho:Fw [tob n t h]=some (.str (word n t h)):=by
 have c1:∀w:Str,tV (e2 DI (e2 Co (bQ "Tally" "heard" (aj 0)) (eC (.str w))) (bQ "Tally" "need" (aj 0))) [sS (tob n t h)]=some (decide ((lK w h:Int) >= n)):=λw=>bA (aF (aF rfl rfl ZJ) rfl rfl)
 have c2:tV (e2 DI (e1 gH (bQ "Tally" "heard" (aj 0))) (bQ "Tally" "tries" (aj 0))) [sS (tob n t h)]=some (decide ((h.length:Int) >= t)):=bA (aF (cE rfl abg) rfl rfl);refine bg rfl ?_;unfold word
 by_cases a1:(lK "yes" h:Int) >= n
 .rw[if_pos a1];apply o8 ((c1 _).trans (by rw[aas a1])) (iF rfl)
 .rw[aa0 a1];refine bV ((c1 _).trans (by rw[aaR a1])) ?_
  by_cases a2:(lK "no" h:Int) >= n
  .rw[if_pos a2];apply o8 ((c1 _).trans (by rw[aas a2])) (iF rfl)
  .rw[aa0 a2];refine bV ((c1 _).trans (by rw[aaR a2])) ?_
   by_cases a3:(h.length:Int) >= t
   .rw[if_pos a3];apply o8 (c2.trans (by rw[aas a3])) (iF rfl)
   .rw[aa0 a3];apply bV (c2.trans (by rw[aaR a3])) rfl
theorem U4:∀h:List Str,aQ (h.map D.str)=true
 |[]=>rfl
 |x::h=>by rw[aar];unfold aQ;rw[U4 h];rfl
def aae(hw:w∈(["yes","no","unsure"]:List Str))(hm:word n t h="more")(hl:h.length<=100):EO (tob n t h) [.str w]=some (.str (word n t (h++[w])),tob n t (h++[w])):=by
 have m1:∀h:List Str,bT "Tally" "word" Fw (aj 0) aB [sW (tob n t h),sS (.str w)]=sW (.str (word n t h)):=λh=>kT rfl rfl rfl Ho
 refine iZ rfl (bV ?_ (bV (bA (aF (m1 h) rfl (by rw[hm];rfl))) (sq (Y':=[sW (tob n t (h++[w])),sS (.str w)]) (ie ?_) ?_)))
 .simp only[aaA,ac6,ahz] at hw;rcases hw with rfl|rfl|rfl<;>rfl
 .refine(Df rfl rfl rfl (by rw[U4,List.length_map,aas (size_le (by lia))];rfl)).trans ?_;unfold tob hs;rw[adS];rfl
 .unfold v8;rw[m1 (h++[w])];rfl
def acI(hm:word n t h="more"):(h.length:Int)<t:=by
 unfold word at hm
 split at hm
 .exact absurd hm (by decide +kernel)
 .split at hm
  .exact absurd hm (by decide +kernel)
  .split at hm
   .exact absurd hm (by decide +kernel)
   .omega
abbrev Ta:=List (List Int×List Str)
structure G where
 w:Int
 h:Int
 n:Int
 t:Int
 C:List Ch
 ln:List Int
 ld:List Int
 gr:List (Key×D)
 ta:Ta
 lk:List (List Int)
 ht:Bool
 gw:List (List Int)
 en:List D
 an:Int
 br:Int
def tD(l:List Int):D:=.tup (l.map D.int)
def kL(l:List Int):List Key:=l.map Sum.inl
def pq(n t:Int)(ta:Ta):List (List Key×D):=ta.map λp=>(kL p.1,tob n t p.2)
def gF(g:G):List (Str×D):=[("numbers",.tup [.int g.w,.int g.h,.int g.n,.int g.t]),("known",obj g.C),("on_line",iL g.ln),("laid_ones",iL g.ld),("grounds",.b_ g.gr),("tallies",.fY (pq g.n g.t g.ta)),("looks",.lst (dO g.lk)),("halted",.bl g.ht),("grown",.lst (dO g.gw)),("ended",.lst g.en),("answers",.int g.an),("breaks",.int g.br)]
def gD(g:G):D:=.ins "Gate" (gF g)
def Ef(h:fo Y=some (obj C,t))(ha:fa Y=some (x,t2))(hF:F [obj C,x]=some d)(hm:(mm==("entries":Str))=false:=by decide):bT "Changes" mm F fo (au fa aB) Y=sW d:=
 kT (ps:=[(x,t2)]) h (u_ hm) (by rw[bG,ha,yl,DG]) hF
def fl(h:fo Y=some (gD g,t))(e:(gF g).lookup f=some d:=by rfl):bQ "Gate" f fo Y=some (d,lM t):=by
 unfold bQ;rw[h];show(if("Gate":Str)="Gate" then((gF g).lookup f).map _ else none)=_;rw[if_pos rfl,e];rfl
def eE(h:fo Y=some (gD g,t))(hF:F [gD g]=some d)(hm:(gF g).lookup mm=none:=by rfl):bT "Gate" mm F fo aB Y=sW d:=kT h hm rfl hF
def qO(h:fo Y=some (gD g,t))(ha:fa Y=some (x,t2))(hF:F [gD g,x]=some d)(hm:(gF g).lookup mm=none:=by rfl):bT "Gate" mm F fo (au fa aB) Y=sW d:=
 kT (ps:=[(x,t2)]) h hm (by rw[bG,ha,yl,DG]) hF
def c8(gr:List (Key×D))(x:Int):Bool:=(bB gr (Sum.inl x:Key)).isSome
abbrev kh(g:G)(x:Int):Bool:=c8 g.gr x
def DB(g:G)(x:Int):Bool:=!decide (x∈g.ln)&&(!decide (x∈g.ld)&&!kh g x)
def wj(h:f Y=some (.int x,t))(h2:f2 Y=some (iL l,t2)):e2 (fW true) f f2 Y=sW (.bl (!decide (x∈l))):=
 aF h h2 (by rw[<- z_];apply xG)
def YZ:ab8 [gD g,.int x]=some (.bl (DB g x)):=
 bg rfl (cT (sX (wj rfl (fl rfl)) (sX (wj rfl (fl rfl)) (aF rfl (fl rfl) rfl))))
def wl(g:G):List Int:=(cN 1 g.C.length).filter (DB g)
def nR:(cN a n).length=n:=by unfold cN;rw[List.length_map,ajv]
def vq(hR:g.C.length<=100):CV [gD g]=some (iL (wl g)):=by
 have hi:pW (eC (.int 1)) (e2 iz (bT "Changes" "many" LJ (bQ "Gate" "known" (aj 0)) aB) (eC (.int 1))) [some (gD g,.sh [])]=some ((cN 1 g.C.length).map D.int,.own):=by
  rw[yq rfl (aF (kT (fl rfl) rfl rfl (ML g.C)) rfl rfl) (m6 (by lia) (by lia)) (m6 (by lia) (by lia)),show((g.C.length:Int)+1-1).toNat=g.C.length by lia]
 apply bg rfl (cT (qd hi (by rw[nR];lia) (λx=>rfl) (λx mx=>bA (qO rfl rfl YZ))))
def qY:x∈wl g↔(1<=x/\x<=(g.C.length:Int))/\x∉g.ln/\x∉g.ld/\kh g x=false:=by
 unfold wl;rw[acW,jT];unfold DB;simp only[aav,Bool.not_eq_true',decide_eq_false_iff_not];apply and_congr_left λ_=>by lia
def m9:Row g.C (wl g):=λx m=>(qY.mp m).1
def ach:(wl g).Pairwise (· < ·):=(G_ 1 _).sublist afv
def AY:(wl g).Nodup:=ach.imp (λh=>by lia)
def CY:(wl g).length<=g.C.length:=by
 have:=afE (DB g) (cN 1 g.C.length)
 rwa [nR] at this
def gv{κ α:Type}[DecidableEq κ](es:List (κ×α))(k:κ):Option α:=(es.find? λkv=>decide (kv.1=k)).map (·.2)
def gp{κ α:Type}[DecidableEq κ](es:List (κ×α))(k:κ)(d:α):List (κ×α):=if(es.any λkv=>decide (kv.1=k))=true then es.map (λkv=>if kv.1=k then(kv.1,d) else kv) else es++[(k,d)]
def aiy[DecidableEq κ]{es:List (κ×α)}:gv (gp es k d) k=some d:=by
 unfold gv gp
 by_cases h:(es.any λkv=>decide (kv.1=k))=true
 .rw[if_pos h]
  induction es with
  |nil=>ext h
  |cons a r ih=>
   rw[aar]
   by_cases z:a.1=k
   .rw[if_pos z,aiE (by simpa using z)];rfl
   .rw[aa0 z,agU (by simpa using z)];apply ih (by rw[ajj,aaR z,Bool.false_or] at h;apply h)
 .rw[aa0 h,List.find?_append];have:es.find? (λkv=>decide (kv.1=k))=none:=by
   rw[ahR];intro x m e;apply h (aeJ.mpr #[x,m,e])
  rw[this];simp
def agQ[DecidableEq κ]{es:List (κ×α)}(h:j≠k):gv (gp es k d) j=gv es j:=by
 unfold gv gp
 congr 1
 split
 .rename_i hh;clear hh
  induction es with
  |nil=>rfl
  |cons a r ih=>
   rw[aar]
   by_cases z:a.1=k
   .rw[if_pos z];have:¬a.1=j:=λe=>h (e.symm.trans z)
    rw[agU (by simpa using this),agU (by simpa using this)];apply ih
   .rw[aa0 z]
    by_cases y:a.1=j
    .rw[aiE (by simpa using y),aiE (by simpa using y)]
    .rw[agU (by simpa using y),agU (by simpa using y)];apply ih
 .rw[List.find?_append,agU (by simpa using λe:k=j=>h e.symm)];simp
def aiT{κ:Type}{k:κ}[DecidableEq κ]{es:List (κ×D)}:(bB (putD es k d) k)=some d:=aiy
def acO{κ:Type}{j k:κ}[DecidableEq κ]{es:List (κ×D)}(h:j≠k):bB (putD es k d) j=bB es j:=agQ h
def qR{gr:List (Key×D)}:c8 (putD gr (Sum.inl x) d) y=(decide (y=x)||c8 gr y):=by
 unfold c8
 by_cases h:y=x
 .rw[h,aiT,aas rfl];rfl
 .rw[acO (λe=>by injection e with e;apply h e),aaR h];rfl
def sU:aQ ds=true↔∀d∈ds,aE d=true:=by
 induction ds with
 |nil=>apply#[λ_ d m=>(nomatch m),λ_=>rfl]
 |cons a r ih=>
  unfold aQ;rw[aav,ih];apply#[λh d m=>(aaA.mp m).elim (λe=>e ▸ h.1) (h.2 d),λh=>#[h a aah,λd m=>h d (aaf _ m)]]
def af0[DecidableEq κ]{es:List (κ×D)}(h:aQ (es.map (·.2))=true)(hd:aE d=true):aQ ((putD es k d).map (·.2))=true:=by
 rw[sU] at h ⊢;intro y m;let#[kv,mk,rfl]:=abn.mp m;unfold putD at mk
 split at mk
 .let#[x,mx,rfl]:=abn.mp mk
  split
  .exact hd
  .exact h _ (abn.mpr #[x,mx,rfl])
 .rcases abc.mp mk with mk|mk
  .exact h _ (abn.mpr #[kv,mk,rfl])
  .cases aaD.mp mk;apply hd
def OC[DecidableEq κ]{es:List (κ×α)}:(gp es k d).map (·.1)=if k∈es.map (·.1) then es.map (·.1) else es.map (·.1)++[k]:=by
 unfold gp
 by_cases h:(es.any λkv=>decide (kv.1=k))=true
 .rw[if_pos h,if_pos (by let#[x,m,e]:=aeJ.mp h;apply abn.mpr #[x,m,aau e]),adz];refine ahx λa _=>?_
  show(if a.1=k then(a.1,d) else a).1=a.1
  split<;>rfl
 .rw[aa0 h,aa0 (λm=>by let#[x,m,e]:=abn.mp m;apply h (aeJ.mpr #[x,m,aas e])),adS];rfl
def Bs[DecidableEq κ]{es:List (κ×α)}(h:(es.map (·.1)).Nodup):((gp es k d).map (·.1)).Nodup:=by
 rw[OC]
 split
 .exact h
 .rename_i hk;apply adv.mpr #[h,by simp,λa ma b mb e=>by cases aaD.mp mb;apply hk (e ▸ ma)]
structure Gr(n:Nat)(gr:List (Key×D)):Prop where
 im:aQ (gr.map (·.2))=true
 nd:(gr.map (·.1)).Nodup
 ks:∀k∈gr.map (·.1),∃x:Int,k=Sum.inl x/\x∈cN 1 n
 tp:∀p∈gr,(nO p.2).isSome=true
def KS[DecidableEq κ]{es:List (κ×α)}(m:q∈gp es k d):q∈es\/q=(k,d):=by
 unfold gp at m
 split at m
 .let#[p,mp,rfl]:=abn.mp m
  split
  .rename_i e;apply .inr (by rw[e])
  .exact .inl mp
 .exact(abc.mp m).imp id aaD.mp
def Gr.put(h:Gr n gr)(hx:x∈cN 1 n)(hd:aE d=true)(ht:(nO d).isSome=true:=by rfl):Gr n (putD gr (Sum.inl x) d):=#[af0 h.im hd,Bs h.nd,λk m=>by
 have m:k∈(gp gr (Sum.inl x) d).map (·.1):=m;rw[OC] at m
 split at m
 .exact h.ks k m
 .rcases abc.mp m with m|m
  .exact h.ks k m
  .exact#[x,aaD.mp m,hx],λp m=>(KS m).elim (h.tp p) λe=>by rw[e];apply ht]
def BC(h:c8 gr x=false):putD gr (Sum.inl x) d=gr++[(Sum.inl x,d)]:=by
 unfold putD;rw[aa0];intro q;let#[kv,m,e]:=aeJ.mp q;unfold c8 bB at h;rw[aic] at h;have:=(List.find?_isSome (p:=λkv:Key×D=>decide (kv.1=Sum.inl x))).mpr #[kv,m,e];rw[h] at this;ext this
def cnt(gr:List (Key×D)):Nat:=(Ae "look" gr).length
def j6:List (Key×D)->List Int
 |[]=>[]
 |(.inl x,_)::r=>x::j6 r
 |_::r=>j6 r
theorem xH:∀{gr},(∀k∈gr.map (·.1),∃x:Int,k=Sum.inl x/\x∈cN 1 n)->gr.map (·.1)=(j6 gr).map Sum.inl/\jB gr=some (j6 gr)
 |[],_=>#[rfl,rfl]
 |(k,d)::r,h=>by
  let#[x,e,_]:=h k aah;let#[a,b]:=xH λk m=>h k (aaf _ m)
  have e:=e;subst e;refine#[by rw[aar,a];rfl,?_];show(jB r).map _=_;rw[b];rfl
def aay{l:List Int}:(l.map (Sum.inl:Int->Key)).Nodup↔l.Nodup:=by
 unfold List.Nodup;rw[ajh];apply#[λh=>h.imp λq e=>q (by rw[e]),λh=>h.imp λq e=>q (ajH e)]
def Gr.nK{gr:List (Key×D)}(h:Gr n gr):(j6 gr).Nodup:=aay.mp ((xH h.ks).1 ▸ h.nd)
def Gr.mem{gr:List (Key×D)}(h:Gr n gr):x∈j6 gr↔c8 gr x=true:=by
 have e:=(xH h.ks).1;unfold c8 bB;rw[aic,List.find?_isSome];constructor
 .intro m;have:(Sum.inl x:Key)∈gr.map (·.1):=e ▸ abn.mpr #[x,m,rfl];let#[kv,mk,q]:=abn.mp this;apply#[kv,mk,aas q]
 .rintro⟨kv,mk,q⟩
  have:(Sum.inl x:Key)∈gr.map (·.1):=abn.mpr #[kv,mk,aau q];rw[e] at this;let#[y,my,q]:=abn.mp this;apply ajH q ▸ my
def Gr.bd{gr:List (Key×D)}(h:Gr n gr)(m:c8 gr x=true):x∈cN 1 n:=by
 have:(Sum.inl x:Key)∈gr.map (·.1):=(xH h.ks).1 ▸ abn.mpr #[x,h.mem.mpr m,rfl];let#[y,e,q]:=h.ks _ this;apply ajH e ▸ q
def Gr.len{gr:List (Key×D)}(h:Gr n gr):gr.length<=n:=by
 have:=sub_len h.nK λx m=>h.bd (h.mem.mp m)
 rw[nR] at this;have e:=congrArg List.length (xH h.ks).1;rw[List.length_map,List.length_map] at e
 lia
abbrev vN(ta:Ta)(l:List Int):Option (List Str):=gv ta l
def wd(g:G)(l:List Int):Str:=match vN g.ta l with
 |none=>"more"
 |some h=>word g.n g.t h
theorem xN:∀l:List Int,jc (l.map D.int)=some (kL l)
 |[]=>rfl
 |x::l=>by
  rw[aar];unfold jc;rw[xN l];rfl
theorem CK:∀{a b},kL a=kL b->a=b
 |[],[],_=>rfl
 |[],_::_,e=>by ext e
 |_::_,[],e=>by ext e
 |x::a,y::b,e=>by
  injection e with e1 e2;ext e1;rw[CK e2]
section
variable[DecidableEq κ][DecidableEq Qx]{φ:κ->Qx}{ψ:α->D}{k:κ}
theorem Fb(zB:∀a b,φ a=φ b->a=b):∀es:List (κ×α),bB (es.map λp=>(φ p.1,ψ p.2)) (φ k)=(gv es k).map ψ
 |[]=>rfl
 |p::r=>by
  have ih:=Fb zB r;unfold bB gv at ih ⊢;rw[aar,adQ,adQ,show decide ((φ p.1,ψ p.2).1=φ k)=decide (p.1=k) from ajF.mpr #[zB _ _,λe=>by rw[<- e]]];cases decide (p.1=k) with
  |true=>rfl
  |false=>apply ih
def Rr(zB:∀a b,φ a=φ b->a=b):putD (es.map λp=>(φ p.1,ψ p.2)) (φ k) (ψ d)=(gp es k d).map λp=>(φ p.1,ψ p.2):=by
 unfold putD gp;rw[aji,show es.any ((λkv:Qx×D=>decide (kv.1=φ k)) ∘ λp=>(φ p.1,ψ p.2))=es.any λp=>decide (p.1=k) from congrArg es.any (funext λp=>ajF.mpr #[zB _ _,λe=>by rw[<- e]])]
 split
 .rw[adz,adz];refine ahx λp _=>?_
  simp only[Function.comp]
  by_cases z:p.1=k
  .rw[if_pos (by rw[z]),if_pos z]
  .rw[aa0 λq=>z (zB _ _ q),aa0 z]
 .rw[adS];rfl
end
def Tz(ta:Ta):bB (pq n t ta) (kL l)=(vN ta l).map (tob n t):=Fb (λ_ _=>CK) ta
def Ht:B8 [gD g,tD l]=some (.str (wd g l)):=by
 have v:=Tz (n:=g.n) (t:=g.t) (l:=l) g.ta;have xh:tV (e2 (Jm false) (aj 1) (bQ "Gate" "tallies" (aj 0))) [sS (gD g),sS (tD l)]=some (bB (pq g.n g.t g.ta) (kL l)).isSome:=bA (aF rfl (fl rfl) (by
  show(jc (l.map D.int)).map _=_;rw[xN];rfl))
 refine bg rfl (cT ?_);unfold wd;rw[v] at xh;cases e:vN g.ta l with
 |none=>rw[e] at xh;apply O7 xh
 |some h=>
  rw[e] at xh v;refine(Te xh).trans (kT (t:=.sh []) ?_ rfl rfl Ho);unfold Jg;rw[fl rfl,show aj 1 [sS (gD g),sS (tD l)]=sS (tD l) from rfl];show(jc (l.map D.int)).bind _=_;rw[xN,abR,v];rfl
def je(g:G)(p:Nat):List Int:=g.ln++g.ld.take p
def f_look{p:Nat}(hp:p<=g.ld.length)(hl:g.ln.length+g.ld.length<=1000):yo [gD g,.int p]=some (tD (je g p)):=by
 have hc:xg (bQ "Gate" "laid_ones" (aj 0)) (aj 1) [sS (gD g),sS (.int p)]=sW (iL (g.ld.take p)):=by
  unfold xg;rw[fl rfl,show aj 1 [sS (gD g),sS (.int p)]=sS (.int p) from rfl];show(if aQ (g.ld.map D.int)=true then some (D.lst (cutD (g.ld.map D.int) none (some (p:Int))),Tag.own) else none)=_;rw[if_pos (dY _),QI (by rw[List.length_map];apply hp),<- List.map_take];rfl
 have h1:=aiX (i:=p) (l:=g.ld);apply bg rfl (cT (cE (aF (fl rfl) hc (xP (by rw[aft];lia))) K3))
def bw(s:Str):Bool:=(["no","unsure"]:List Str).any (· == s)
def uP(g:G)(p:Nat):Bool:=bw (wd g (je g p))
def gm(g:G):Option Nat:=((List.range g.ld.length).map (· + 1)).find? (uP g)
def bD:Option Nat->D
 |none=>.aJ
 |some p=>.int p
theorem Sn(hl:g.ln.length+g.ld.length<=1000):∀{ps:List Nat} {s1},(∀p∈ps,p<=g.ld.length)->∃sC,
  cU (gN 1) (.sh []) (dg (tV (e2 (uA false) (bT "Gate" "word_of" B8 (aj 0) (au (bT "Gate" "look_of" yo (aj 0) (au (aj 1) aB)) aB)) (eC (.tup ((["no","unsure"]:List Str).map D.str))))) (nJ 1) eS) (ps.map λp:Nat=>D.int p) [sS (gD g),s1]=some (match ps.find? (uP g) with|none=>.nx [sS (gD g),sC]|some p=>.rt (.int p))
 |[],s1,_=>#[s1,rfl]
 |p::ps,s1,h=>by
  let#[a,e]:=Sn hl (λq m=>h q (aaf _ m));have ht:tV (e2 (uA false) (bT "Gate" "word_of" B8 (aj 0) (au (bT "Gate" "look_of" yo (aj 0) (au (aj 1) aB)) aB)) (eC (.tup ((["no","unsure"]:List Str).map D.str)))) [sS (gD g),sS (.int p)]=some (uP g p):=
   bA (aF (qO rfl (qO rfl rfl (f_look (h p aah) hl)) Ht) rfl rfl)
  refine#[a,?_];rw[adQ];cases eb:uP g p with
  |true=>
   rw[eb] at ht;apply HB (aT:=[sS (gD g),sS (.int p)]) rfl (by rw[iR,ht];rfl)
  |false=>
   rw[eb] at ht;apply(lC (aT:=[sS (gD g),sS (.int p)]) rfl (by rw[iR,ht];rfl)).trans e
def X_(n:Nat):(cN 1 n).map D.int=((List.range n).map (· + 1)).map λp:Nat=>D.int p:=by
 unfold cN;rw[adz,adz];refine ahx λi _=>?_
 show D.int (1+(i:Int))=D.int ((i+1:Nat):Int);rw[show(1+(i:Int))=((i+1:Nat):Int) by lia]
def LP:p∈(List.range n).map (· + 1)↔1<=p/\p<=n:=by
 rw[abn];apply#[λ⟨i,m,e⟩=>by have:=ajR.mp m;lia,λh=>#[p-1,ajR.mpr (by lia),by lia]]
def uK{g:G}(hl:g.ln.length+g.ld.length<=900):ud [gD g]=some (bD (gm g)):=by
 let#[a,e]:=Sn (by lia) (ps:=(List.range g.ld.length).map (· + 1)) (λp m=>(LP.mp m).2);have hi:pW (eC (.int 1)) (e2 iz (e1 gH (bQ "Gate" "laid_ones" (aj 0))) (eC (.int 1))) [some (gD g,.sh []),none]=some (((List.range g.ld.length).map (· + 1)).map λp:Nat=>D.int p,.own):=by
  rw[yq rfl (aF (cE (fl rfl) (by show some (D.int (g.ld.map D.int).length)=_;rw[List.length_map])) rfl rfl) (m6 (by lia) (by lia)) (m6 (by lia) (by lia)),show((g.ld.length:Int)+1-1).toNat=g.ld.length by lia,X_]
 refine bg rfl ?_;unfold gm;cases eb:((List.range g.ld.length).map (· + 1)).find? (uP g) with
 |none=>rw[eb] at e;apply sq (wJ hi e) rfl
 |some p=>rw[eb] at e;apply iF (OW hi e)
def Ce(h:gm g=some p):1<=p/\p<=g.ld.length/\uP g p=true/\∀q,1<=q->q<p->uP g q=false:=by
 let#[h1,as,bs,e,h2]:=List.find?_eq_some_iff_append.mp h;have hp:=LP.mp (show p∈(List.range g.ld.length).map (· + 1) from e ▸ aaJ _ aah);refine#[hp.1,hp.2,h1,λq q1 q2=>?_];have so:((List.range g.ld.length).map (· + 1)).Pairwise (· < ·):=ajh.mpr (List.pairwise_lt_range.imp λh=>by lia);have mq:q∈(List.range g.ld.length).map (· + 1):=LP.mpr (by lia);rw[e] at so mq;rcases abc.mp mq with m|m
 .simpa using h2 q m
 .rcases aaA.mp m with m|m
  .lia
  .have:=(aee.mp (List.pairwise_append.mp so).2.1).1 q m;lia
theorem HV:∀a b:List Int,PyData.eqvAll (a.map PyData.int) (b.map PyData.int)=decide (a=b)
 |[],[]=>rfl
 |[],_::_=>rfl
 |_::_,[]=>rfl
 |x::a,y::b=>by
  simp only[aar,PyData.eqvAll,PyData.eqv,HV a b]
  by_cases h:x=y<;>by_cases k:a=b<;>simp[h,k]
def Qn(l:List Int):py (tD l)=.tuple (l.map PyData.int):=by unfold tD;unfold py;rw[zA]
def ahL(l:List Int):dz (tD l)=true:=by
 unfold dz;have c1:g8 (tD l)=true:=by unfold tD;unfold g8;apply Bw _
 rw[c1,Qn];have c2:(PyData.tuple (l.map PyData.int)).canLay0=true:=by simp only[PyData.canLay0];apply Cu l
 have c3:(PyData.tuple (l.map PyData.int)).depth<=40:=by simp only[PyData.depth,depthAll_ints];lia
 rw[c2,aas c3];rfl
def any_rows(l:List Int)(L:List (List Int)):((f9 (dO L)).any λy=>PyData.eqv y (py (tD l)))=decide (l∈L):=by
 rw[LN,Qn,aji];have:((λy=>PyData.eqv y (PyData.tuple (l.map PyData.int))) ∘ j7)=λr=>decide (r=l):=funext λr=>by
  simp only[Function.comp,j7,PyData.eqv,HV]
 rw[this]
 by_cases h:l∈L
 .rw[aas h];apply aeJ.mpr #[l,h,by simp]
 .rw[aaR h,aik];intro e;let#[y,my,ey]:=aeJ.mp e;apply h ((aau ey) ▸ my)
def DZ(neg:Bool)(l:List Int)(L:List (List Int)):vM neg (tD l) (.lst (dO L))=some (.bl (if neg=true then !decide (l∈L) else decide (l∈L))):=by
 show(if(dz (tD l)&&dz (.lst (dO L)))=true then some (D.bl (if neg=true then !(f9 (dO L)).any λy=>PyData.eqv y (py (tD l)) else(f9 (dO L)).any λy=>PyData.eqv y (py (tD l)))) else none)=_;rw[ahL,W_,any_rows];rfl
def kp(g:G)(l:List Int):Bool:=decide (l∈g.lk)&&(wd g l == "more")
def ZL:WI [gD g,tD l]=some (.bl (kp g l)):=
 bg rfl (cT (sX (aF rfl (fl rfl) (DZ false l g.lk)) (aF (qO rfl rfl Ht) rfl rfl)))
def rC(g:G):List Int:=(cN 1 g.ld.length).filter λx=>kp g (je g x.toNat)
def z7(g:G):Option Int:=(gm g).map λp:Nat=>(p:Int)
def Ao(g:G):List Int:=W g.ld.length (z7 g) (rC g) g.h
def zT(g:G):List (List Int):=(Ao g).map λp=>je g p.toNat
def ZO(o:Option Nat):bD o=kr (o.map λp:Nat=>(p:Int)):=by ext o<;>rfl
def CO:(rC g).Pairwise (· < ·)/\(∀x∈rC g,1<=x/\x<=g.ld.length)/\(rC g).length<=g.ld.length:=by
 refine#[(G_ 1 _).sublist afv,λx m=>by have:=jT.mp (acW.mp m).1;lia,?_];have:=afE (λx=>kp g (je g x.toNat)) (cN 1 g.ld.length)
 rwa [nR] at this
def eo(g:G):Int:=endOf g.ld.length (z7 g)
def SV:nM (eo g) (Ao g)/\(∀p∈rC g,p<eo g->p∈Ao g):=
 YA CO.1 (λx m=>(CO.2.1 x m).1)
def MV:1<=eo g/\eo g<=g.ld.length+1:=by
 unfold eo z7;cases e:gm g with
 |none=>show 1<=(g.ld.length:Int)+1/\(g.ld.length:Int)+1<=_;lia
 |some p=>have:=Ce e;show 1<=(p:Int)/\(p:Int)<=_;lia
def acr(hl:g.ln.length+g.ld.length<=900)(h6:g.ld.length<64)(hh:g.h<=60):ain [gD g]=some (.lst (dO (zT g))):=by
 have hi:pW (eC (.int 1)) (e2 iz (aj 1) (eC (.int 1))) [some (gD g,.sh []),some (.int g.ld.length,.own),none]=some ((cN 1 g.ld.length).map D.int,.own):=by
  rw[yq rfl rfl (m6 (by lia) (by lia)) (m6 (by lia) (by lia)),show((g.ld.length:Int)+1-1).toNat=g.ld.length by lia]
 have look:∀{x:Int},1<=x->x<=g.ld.length->bT "Gate" "look_of" yo (aj 1) (au (aj 0) aB) [some (.int x,.sh []),some (gD g,.sh [])]=some (tD (je g x.toNat),.own):=λ{x} h1 h2=>
  qO rfl rfl (by
   have:=f_look (g:=g) (p:=x.toNat) (by lia) (by lia)
   rwa [show((x.toNat:Nat):Int)=x by lia] at this)
 refine bg rfl (cP (cE (fl rfl) (by show some (D.int (g.ld.map D.int).length)=_;rw[List.length_map])) (cP (qd hi (by rw[nR];lia) (λx=>rfl) (λx mx=>by
  have hx:=jT.mp mx;apply bA (qO rfl (look (by lia) (by lia)) ZL))) (cT ?_)))
 have hw:cI EC (au (aj 1) (au (bT "Gate" "bad" ud (aj 0) aB) (au (aj 2) (au (e2 bU (bQ "Gate" "numbers" (aj 0)) (eC (.int 1))) aB)))) [some (gD g,.sh []),some (.int g.ld.length,.own),some (iL (rC g),.own)]=some (iL (Ao g),.own):=
  bZ (by
   rw[bG,bG,eE rfl (uK hl)];rfl) (by
   have:=WJ (size:=g.ld.length) (bad:=z7 g) (ks:=rC g) hh (by have:=CO (g:=g).2.2;lia);simp only[aar,ajS];rw[ZO];apply this)
 have hc:=kG (js:=[none,some 0]) (g:=gN 0) (tt:=oN) (k:=λd=>match d with | .int p=>some (tD (je g p.toNat)) | _=>none) (iO hw) (by rw[List.length_map];apply size_le (by have:=XZ (size:=g.ld.length) (bad:=z7 g) (ks:=rC g) hh (by have:=CO (g:=g).2.2;lia);show(W _ _ _ _).length<=_;lia)) (λd m=>by
  let#[x,mx,rfl]:=abn.mp m;have:=(SV).1.bd x mx;have:=MV (g:=g);apply sF rfl rfl (look (by lia) (by lia)))
 rw[agR] at hc;have e:(Ao g).filterMap ((λd=>match d with|.int p=>some (tD (je g p.toNat))|_=>none) ∘ D.int)=dO (zT g):=by
  unfold zT dO;rw[adz];apply mX (λp:Int=>tD (je g p.toNat)) _
 rw[e] at hc;apply hc
def pP(h:fv Y=some (d,t))(h0:Y[0]? = some (sW (gD g)))(ho:(kq t||aE d)=true)(e:e_ f d (gF g)=gF g'):lI (yZ 0 "Gate" f fv) Y=some (.nx (cz Y 0 (gD g'))):=by
 refine ie ?_;unfold yZ;rw[h,h0];show(if("Gate":Str)="Gate"/\(gF g).length<1000/\(kq t||aE d)=true then some (Out.nx (cz Y 0 (.ins "Gate" (e_ f d (gF g))))) else none)=_;rw[if_pos #[rfl,by show 12<1000;decide,ho],e];rfl
def xo(h0:Y[0]? = some (sW (gD g)))(h:F (gD g) []=some (r,gD g'))(hm:(gF g).lookup m=none:=by rfl):xO 0 "Gate" m F aB Y=some (r,cz Y 0 (gD g')):=by
 unfold xO;rw[h0];show(if("Gate":Str)="Gate"/\(gF g).lookup m=none/\apart 0 []=true then(F (gD g) []).map _ else none)=_;rw[if_pos #[rfl,hm,rfl],h];rfl
def Dh(h:fv Y=some (d,t))(hk:fk Y=some (.int x,t2))(h0:Y[0]? = some (sW (gD g)))(hi:aE d=true)(hG:aQ (g.gr.map (·.2))=true)(hl:g.gr.length<=100):wH 0 "Gate" "grounds" fk fv Y=some (.nx (cz Y 0 (gD { g with gr:=putD g.gr (Sum.inl x) d }))):=by
 unfold wH;rw[h,h0,hk];show(if("Gate":Str)="Gate" then(if(aE d&&aQ (g.gr.map (·.2))&&decide (g.gr.length<sizeLine))=true then some (Out.nx (cz Y 0 (.ins "Gate" (e_ "grounds" (.b_ (putD g.gr (Sum.inl x) d)) (gF g))))) else none) else none)=_;rw[if_pos rfl,hi,hG,aas (size_le (by lia)),if_pos (show(true&&true&&true)=true from rfl)];rfl
def nX(h:f Y=some (d,t)):lI (dG i f) Y=some (.nx (g_ Y i d t)):=ie (by unfold dG;rw[h])
def jd(h:tf Y=some true)(h2:sf Y=r):dg tf sf sg Y=r:=by rw[iR,h];apply h2
def ji(h:tf Y=some false)(h2:sg Y=r):dg tf sf sg Y=r:=by rw[iR,h];apply h2
def RC:fC ((x::r).map D.int) 0=some (.int x):=by
 unfold fC lB;rw[if_pos (by omega),if_pos (by rw[List.length_map,abZ];omega)];rfl
def gone(C:List Ch)(gr:List (Key×D))(x:Int):List Int:=(lean (sec C) x).filter (c8 gr)
def iB(C:List Ch)(gr:List (Key×D))(x:Int):List (Key×D):=match gone C gr x with
 |[]=>gr
 |y::_=>putD gr (Sum.inl x) (.tup [.str "leans",.int y])
theorem KU{g:G}(gc:GoodC Sl g.C):∀{l} {gr} {s1 s2},Row g.C l->Gr g.C.length gr->∃sC yQ,cU (gN 1) (.sh []) (bN (dG 2 (gK [none,some 0] (fV (bT "Changes" "leans_of" CW (bQ "Gate" "known" (aj 0)) (au (aj 1) aB))) (gN 0) (tV (e2 (lO false) (aj 0) (bQ "Gate" "grounds" (aj 1)))) (aj 0))) (dg (l7 (aj 2)) (wH 0 "Gate" "grounds" (aj 1) (gZ (au (eC (.str "leans")) (au (e2 bU (aj 2) (eC (.int 0))) aB)))) eS)) (l.map D.int) [sW (gD { g with gr:=gr }),s1,s2]=some (.nx [sW (gD { g with gr:=l.foldl (iB g.C) gr }),sC,yQ])
 |[],gr,s1,s2,_,_=>#[s1,s2,rfl]
 |x::l,gr,s1,s2,h,k=>by
  have hx:=h x aah;have hc:gK [none,some 0] (fV (bT "Changes" "leans_of" CW (bQ "Gate" "known" (aj 0)) (au (aj 1) aB))) (gN 0) (tV (e2 (lO false) (aj 0) (bQ "Gate" "grounds" (aj 1)))) (aj 0) [sW (gD { g with gr:=gr }),sS (.int x),s2]=sW (iL (gone g.C gr x)):=
   qd (iO (Ef (fl rfl) rfl (JD hx.1 hx.2))) (by have:=gc.few x;lia) (λy=>rfl) (λy _=>bA (aF rfl (fl rfl) rfl))
  cases e:gone g.C gr x with
  |nil=>
   let#[a,b,ih]:=KU gc (λy m=>h y (aaf _ m)) k;refine#[a,b,(lC rfl (cP (e ▸ hc) rfl)).trans (ih.trans ?_)];rw[afz,show iB g.C gr x=gr by unfold iB;rw[e]]
  |cons y r=>
   have k':Gr g.C.length (iB g.C gr x):=by unfold iB;rw[e];apply k.put (jT.mpr (by lia)) rfl
   let#[a,b,ih]:=KU gc (λy m=>h y (aaf _ m)) k';refine#[a,b,(lC rfl (cP (e ▸ hc) (jd rfl ((Dh (d:=.tup [.str "leans",.int y]) (t:=.own) ?_ rfl rfl rfl k.im (by have:=k.len;have:=gc.ln;show gr.length<=100;lia)).trans ?_)))).trans ih]
   .rw[nQ,bG,bG,aF rfl rfl (wD RC rfl)];rfl
   .unfold iB;rw[e];rfl
def uV(g:G):G:={ g with gr:=(wl g).foldl (iB g.C) g.gr }
def abK(gc:GoodC Sl g.C)(k:Gr g.C.length g.gr):Ic (gD g) []=some (.aJ,gD (uV g)):=by
 let#[a,b,e]:=KU gc m9 k;apply qQ rfl (ie (wJ (iO (eE rfl (vq (by have:=gc.ln;lia)))) e)) rfl
theorem MJ:∀{l:List Int} {gr},Gr n gr->(∀x∈l,x∈cN 1 n)->Gr n (l.foldl (iB C) gr)/\(∀x,c8 gr x=true->c8 (l.foldl (iB C) gr) x=true)/\(∀x,c8 (l.foldl (iB C) gr) x=true->c8 gr x=true\/x∈l)
 |[],gr,k,_=>#[k,λ_ h=>h,λ_ h=>.inl h]
 |x::l,gr,k,h=>by
  have k1:Gr n (iB C gr x)/\(∀y,c8 gr y=true->c8 (iB C gr x) y=true)/\∀y,c8 (iB C gr x) y=true->c8 gr y=true\/y=x:=by
   unfold iB
   split
   .exact#[k,λ_ h=>h,λ_ h=>.inl h]
   .refine#[k.put (h x aah) rfl,λy q=>by rw[qR,q,Bool.or_true],λy q=>?_];rw[qR,aje,agC] at q;apply q.symm
  let#[a,b,c]:=MJ k1.1 λy m=>h y (aaf _ m)
  refine#[a,λy q=>b y (k1.2.1 y q),λy q=>?_];rcases c y q with q|q
  .exact(k1.2.2 y q).imp id λe=>by rw[e];apply aah
  .exact .inr (aaf _ q)
theorem Sm:∀{l:List Int} {gr},l.Nodup->(∀x∈l,c8 gr x=false)->gr <+: l.foldl (iB C) gr
 |[],gr,_,_=>ajG _
 |x::l,gr,nd,h=>by
  let#[n1,n2]:=abo.mp nd;have h1:gr <+: iB C gr x/\∀y∈l,c8 (iB C gr x) y=false:=by
   unfold iB
   split
   .exact#[ajG _,λy m=>h y (aaf _ m)]
   .refine#[by rw[BC (h x aah)];apply List.prefix_append _ _,λy m=>?_];rw[qR,h y (aaf _ m),aaR (show ¬y=x from λe=>n1 (e ▸ m))];rfl
  apply h1.1.trans (Sm n2 h1.2)
def lay_ints(l:List Int):dz (iL l)=true:=by
 unfold dz;have c1:g8 (iL l)=true:=by unfold iL;unfold g8;apply Bw _
 have c0:py (iL l)=.list (l.map PyData.int):=by unfold iL;unfold py;rw[zA]
 rw[c1,c0];have c2:(PyData.list (l.map PyData.int)).canLay0=true:=by simp only[PyData.canLay0];apply Cu l
 have c3:(PyData.list (l.map PyData.int)).depth<=40:=by simp only[PyData.depth,depthAll_ints];lia
 rw[c2,aas c3];rfl
def PL(a b:List Int):PyData.eqv (py (iL a)) (py (iL b))=decide (a=b):=by
 have c:∀l,py (iL l)=.list (l.map PyData.int):=λl=>by unfold iL;unfold py;rw[zA]
 rw[c,c];simp only[PyData.eqv,HV]
def Rm(a b:List Int):jP (iL a) (iL b)=some (.bl (!decide (a=b))):=by
 unfold jP;rw[lay_ints,lay_ints,PL];rfl
def V6(a b:List Int):mR (iL a) (iL b)=some (.bl (decide (a=b))):=by
 unfold mR;rw[lay_ints,lay_ints,PL];rfl
def slots(C:List Ch):List Int:=C.flatMap λc=>c.2.2.map (·.1)
structure Gd(g:G):Prop where
 w1:1<=g.w/\g.w<=16
 h1:1<=g.h/\g.h<=8
 nt:1<=g.n/\g.n<=g.t/\g.t<=20
 gc:GoodC (slots g.C) g.C
 row:Row g.C (g.ln++g.ld)
 nd:(g.ln++g.ld).Nodup
 y_:(g.ld.length:Int)<=g.w
 oH:∀x∈g.ln++g.ld,kh g x=false
 gr:Gr g.C.length g.gr
 run:∃v,fJ [] (fQ g.C (g.ln++g.ld))=some v
def Gd.len(k:Gd g):g.ln.length+g.ld.length<=60:=by
 have:=sub_len k.nd λx m=>jT.mpr (show 1<=x/\x<1+(g.C.length:Int) by have:=k.row x m;lia)
 rw[nR,aaY] at this;have:=k.gc.ln
 lia
theorem R6:∀{a b} {v},(∃w,fJ v (fQ C (a++b))=some w)->∃w,fJ v (fQ C a)=some w
 |[],b,v,_=>#[v,rfl]
 |x::a,b,v,#[w,h]=>by
  have h:(if bad v (b8 C x)=[] then fJ (gz v (b8 C x)) (fQ C (a++b)) else none)=some w:=h;show ∃w,(if bad v (b8 C x)=[] then fJ (gz v (b8 C x)) (fQ C a) else none)=some w
  by_cases hb:bad v (b8 C x)=[]
  .rw[if_pos hb] at h ⊢;apply R6 #[w,h]
  .rw[aa0 hb] at h;ext h
def Gd.cut(k:Gd g){gr:List (Key×D)}(hp:ld <+: g.ld)(hg:Gr g.C.length gr)(hd:∀x∈g.ln++ld,c8 gr x=false):Gd { g with ld:=ld,gr:=gr }:=by
 let#[r,e]:=hp;have ea:g.ln++g.ld=(g.ln++ld)++r:=by rw[<- e,afQ]
 refine#[k.w1,k.h1,k.nt,k.gc,λx m=>k.row x (by rw[ea];apply aaL _ m),?_,?_,hd,hg,R6 (by rw[<- ea];apply k.run)]
 .have:=k.nd;rw[ea] at this;apply(adv.mp this).1
 .have:=k.y_;rw[<- e,aaY] at this
  lia
def ne1:jP (bD o) (.int 1)=some (.bl (!decide (o=some 1))):=by
 cases o with
 |none=>kernel_rfl
 |some p=>
  show(if(dz (.int p)&&dz (.int 1))=true then some (D.bl (!PyData.eqv (py (.int p)) (py (.int 1)))) else none)=_;have e:dz (.int (p:Int))=true:=by unfold dz;simp[g8,py,PyData.canLay0,PyData.depth]
  have e1:dz (.int 1)=true:=by unfold dz;simp[g8,py,PyData.canLay0,PyData.depth]
  rw[e,e1];simp only[py,PyData.eqv,ag3,if_true]
  by_cases h:p=1
  .subst h;rfl
  .rw[aaR (λz=>h (abH z)),show(((p:Int)==1)=false) from ae0.mpr (by lia)]
def UP(hl:g.ln.length+g.ld.length<=900):tV (e2 jP (bT "Gate" "bad" ud (aj 0) aB) (eC (.int 1))) (sW (gD g)::s)=some (!decide (gm g=some 1)):=
 bA (aF (eE rfl (uK hl)) rfl ne1)
def S3(hl:g.ln.length+g.ld.length<=900)(h:gm g≠some 1):S6 (gD g) []=some (.bl false,gD g):=by
 have ht:=UP hl (s:=[none]);rw[aaR h] at ht;apply iZ rfl (o8 ht (iF rfl))
def xA(g:G):D:=.tup [.str "look",tD g.ln,tD (je g 1),.str (wd g (je g 1))]
def QV:aE (xA g)=true:=by
 unfold xA tD;simp only[aE,aQ,dY,ag3]
def Aw(g:G)(x:Int):G:={ g with ld:=[],gr:=putD g.gr (Sum.inl x) (xA g) }
def Oq(k:Gd g)(h:gm g=some 1)(hx:g.ld=x::r):S6 (gD g) []=some (.bl true,gD (Aw g x)):=by
 have hl:=k.len;have ht:=UP (g:=g) (by lia) (s:=[none]);rw[aas h] at ht;have h1:bT "Gate" "look_of" yo (aj 0) (au (eC (.int 1)) aB) [sW (gD g),none]=sW (tD (je g 1)):=qO rfl rfl (f_look (by rw[hx,abZ];lia) (by lia));have e1:∃t,gZ (au (eC (.str "look")) (au (e1 B3 (bQ "Gate" "on_line" (aj 0))) (au (aj 1) (au (bT "Gate" "word_of" B8 (aj 0) (au (aj 1) aB)) aB)))) [sW (gD g),sW (tD (je g 1))]=some (xA g,t):=by
  rw[nQ,bG,bG,bG,bG,cE (fl rfl) K3,qO rfl rfl Ht];apply#[_,rfl]
 let#[t,e1]:=e1;apply iZ rfl (bV ht (sq (nX h1) (sq (ie (Dh e1 (aF (fl rfl) rfl (wD (by rw[hx];apply RC) rfl)) rfl QV k.gr.im (by have:=k.gr.len;have:=k.gc.ln;lia))) (sq (pP rfl rfl rfl rfl) rfl))))
def RY:Ev.l7 (bQ "Gate" "laid_ones" (aj 0)) (sW (gD g)::s)=some (!g.ld.isEmpty):=by
 unfold Ev.l7;rw[fl rfl];cases g.ld<;>rfl
def Vt(h:g.ld≠[]):LS (gD g) []=some (.bl false,gD g):=by
 have ht:=RY (g:=g) (s:=[none,none,none]);rw[show g.ld.isEmpty=false from List.isEmpty_eq_false_iff.mpr h] at ht;apply iZ rfl (o8 ht (iF rfl))
def R0(l:List Int):aE (nV l)=true:=by ext l<;>rfl
def sy(C:List Ch)(u:iY)(gr:List (Key×D))(x:Int):List (Key×D):=putD gr (Sum.inl x) (.tup [.str "unfit",nV (bad u (b8 C x))])
def OZ(g:GoodC Sl C)(x:Int):Fi [dS (nz v),eL (b8 C x)]=some (nV (bad (i8 (nz v)) (b8 C x))):=
 bg rfl (cT (bZ (ps:=[(cZ (i8 (nz v)),.own),(eL (b8 C x),.sh [])]) (by rw[bG,bG,cE rfl ME];rfl) (K2 (g.ed x).ed (by lia) D.lst rfl)))
theorem SM{g:G}(gc:GoodC Sl g.C):∀{l} {gr} {s3},Row g.C l->Gr g.C.length gr->∃uq,cU (gN 3) (.sh [1]) (wH 0 "Gate" "grounds" (aj 3) (gZ (au (eC (.str "unfit")) (au (cI Fi (au (aj 2) (au (bT "Changes" "edits_of" zC (bQ "Gate" "known" (aj 0)) (au (aj 3) aB)) aB))) aB)))) (l.map D.int) [sW (gD { g with gr:=gr }),some (iL N,.lk),sW (dS (nz v)),s3]=some (.nx [sW (gD { g with gr:=l.foldl (sy g.C (i8 (nz v))) gr }),some (iL N,.lk),sW (dS (nz v)),uq])
 |[],gr,s3,_,_=>#[s3,rfl]
 |x::l,gr,s3,h,k=>by
  have hx:=h x aah;let#[a,ih]:=SM gc (gr:=sy g.C (i8 (nz v)) gr x) (λy m=>h y (aaf _ m)) (k.put (jT.mpr (by lia)) (by simp only[aE,aQ,R0,ag3]));refine#[a,(lC (aT:=[sW (gD { g with gr:=gr }),some (iL N,.lk),sW (dS (nz v)),some (.int x,.sh [1])]) rfl ((Dh (g:={ g with gr:=gr }) (t:=.own) ?_ rfl rfl (by simp only[aE,aQ,R0,ag3]) k.im (by have:=k.len;have:=gc.ln;show gr.length<=100;lia)).trans rfl)).trans ih];rw[nQ,bG,bG,bZ (by rw[bG,bG,Ef (fl rfl) rfl (yg hx.1 hx.2)];rfl) (OZ gc x)];rfl
def bK(g:G):List Int:=(wl g).filter (f7 g.C g.ln)
def adm(k:Gd g)(h:g.ld=[]):∃u v,fJ [] (fQ g.C g.ln)=some v/\(∀E,bad u E=bad v E)/\LS (gD g) []=some (.bl (!decide (bK g=[])),gD { g with gr:=(bK g).foldl (sy g.C u) g.gr }):=by
 have hl:=k.len;have gl:=k.gc.ln;have ht:=RY (g:=g) (s:=[none,none,none]);rw[h] at ht;let#[v,hv]:=k.run;rw[h,ack] at hv;have hw:=CY (g:=g);have h1:cI Cr (au (bQ "Gate" "known" (aj 0)) (au (bQ "Gate" "on_line" (aj 0)) (au (iI aB) (au (bT "Gate" "waiting" CV (aj 0) aB) aB)))) [sW (gD g),none,none,none]=sW (iL (bK g)):=
  bZ (by rw[bG,bG,bG,bG,eE rfl (vq (by lia))];rfl) (by
   have:=J4 k.gc (a:=g.ln) (b:=[]) (by simp;lia) m9 (by lia);rw[ack] at this;apply this)
 have hs:=zc k.gc (λx m=>k.row x (aaL _ m)) (by lia) hv;have h2:bT "Gate" "sheet" aiI (aj 0) aB [sW (gD g),sW (iL (bK g)),none,none]=sW (dS (nz v)):=eE rfl (bg rfl (cT (bZ rfl hs.1)));let#[s3,lp]:=SM k.gc (λx m=>m9 x (acW.mp m).1) k.gr;refine#[i8 (nz v),v,hv,λE=>Lf (Gk hs.2.nd) E,iZ rfl (bV ht (sq (nX h1) (sq (nX h2) (sq (Y':=[sW (gD { g with gr:=(bK g).foldl (sy g.C (i8 (nz v))) g.gr }),sW (iL (bK g)),sW (dS (nz v)),s3]) (ie ((xm (iO rfl) lp).trans rfl)) ?_))))];unfold v8;have:e2 jP (aj 1) (iI aB) [sW (gD { g with gr:=(bK g).foldl (sy g.C (i8 (nz v))) g.gr }),sW (iL (bK g)),sW (dS (nz v)),s3]=sW (.bl (!decide (bK g=[]))):=aF (d2:=iL []) rfl rfl (Rm _ _);rw[this];rfl
def Hg(hl:g.ln.length+g.ld.length<=900):tV (e2 iV (bT "Gate" "bad" ud (aj 0) aB) (eC .aJ)) (sW (gD g)::s)=some (gm g).isNone:=
 bA (aF (eE rfl (uK hl)) rfl (by cases gm g<;>rfl))
def Cb(h:f Y=some (r,[sW (gD g')])):DQ f [0] Y=some (.rt (.tup [r,gD g'])):=by
 unfold DQ;rw[h];rfl
def Tq(h:f Y=some (.bl false,Y'))(h2:f2 Y'=some (.bl b,aY)):vG f f2 Y=some (.bl b,aY):=by
 unfold vG;rw[h];dsimp only;rw[h2]
def Tj(h:f Y=some (.bl true,Y')):vG f f2 Y=some (.bl true,Y'):=by
 unfold vG;rw[h]
def nq(g:G)(ex:List Int):G:={ g with ld:=g.ld++ex }
def V9(k:Gd g)(F:Fl g.C g.ln g.ld (wl g) g.w ex):Gd (nq g ex):=by
 refine#[k.w1,k.h1,k.nt,k.gc,λx m=>?_,?_,?_,λx m=>?_,k.gr,let#[v,h,_]:=F.run;#[v,h]]
 .have m:x∈g.ln++(g.ld++ex):=m;rw[<- afQ] at m;apply(abc.mp m).elim (k.row x) λm=>m9 (g:=g) x (F.sub x m)
 .show(g.ln++(g.ld++ex)).Nodup;rw[<- afQ];refine adv.mpr #[k.nd,F.nd,λa ma b mb e=>?_];have:=qY.mp (F.sub b mb);apply(abc.mp ma).elim (λm=>this.2.1 (e ▸ m)) λm=>this.2.2.1 (e ▸ m)
 .show(((g.ld++ex).length:Nat):Int)<=g.w;rcases F.le with q|q
  .exact q
  .rw[q,ack];apply k.y_
 .have m:x∈g.ln++(g.ld++ex):=m;rw[<- afQ] at m;apply(abc.mp m).elim (k.oH x) λm=>(qY.mp (F.sub x m)).2.2.2
def aaV(k:Gd g)(hb:gm g=some 1)(hx:g.ld=x::r):mE (gD g) []=some (.bl true,gD (Aw g x)):=by
 have hl:=k.len;have ht:=Hg (g:=g) (by lia) (s:=[]);rw[hb] at ht;apply iZ rfl (bV ht (Cb (Tj (xo rfl (Oq k hb hx)))))
def aeR(k:Gd g)(hb:gm g=some p)(hp:p≠1):mE (gD g) []=some (.bl false,gD g):=by
 have hl:=k.len;have ht:=Hg (g:=g) (by lia) (s:=[]);have hm:=Ce hb;have k_:g.ld≠[]:=λe=>by rw[e] at hm;simp at hm;lia
 have hn:gm g≠some 1:=by rw[hb];apply λz=>hp (abH z)
 rw[hb] at ht;apply iZ rfl (bV ht (Cb (Tq (xo rfl (S3 (by lia) hn)) (xo rfl (Vt k_)))))
def ail(k:Gd g)(hb:gm g=none):∃ex,Fl g.C g.ln g.ld (wl g) g.w ex/\Gd (nq g ex)/\(gm (nq g ex)≠some 1->(g.ld++ex≠[]->mE (gD g) []=some (.bl false,gD (nq g ex)))/\
  (g.ld++ex=[]->∃u v,fJ [] (fQ g.C g.ln)=some v/\(∀E,bad u E=bad v E)/\mE (gD g) []=some (.bl (!decide (bK g=[])),gD { g with gr:=(bK g).foldl (sy g.C u) g.gr })))/\(∀x r,g.ld++ex=x::r->gm (nq g ex)=some 1->mE (gD g) []=some (.bl true,gD (Aw (nq g ex) x))):=by
 have hl:=k.len;have gl:=k.gc.ln;have ht:=Hg (g:=g) (by lia) (s:=[]);rw[hb] at ht;let#[v,hv]:=k.run;have ajC:=CY (g:=g);let#[ex,hf,F]:=X7 k.gc k.row m9 AY (by lia) (by lia) hv;have hf:cI Ma (au (bQ "Gate" "known" (aj 0)) (au (bQ "Gate" "on_line" (aj 0)) (au (bQ "Gate" "laid_ones" (aj 0)) (au (bT "Gate" "waiting" CV (aj 0) aB) (au (e2 bU (bQ "Gate" "numbers" (aj 0)) (eC (.int 0))) aB))))) [sW (gD g)]=sW (iL (g.ld++ex)):=
  bZ (ps:=[(obj g.C,.sh [0]),(iL g.ln,.sh [0]),(iL g.ld,.sh [0]),(iL (wl g),.own),(.int g.w,.own)]) (by rw[bG,bG,bG,bG,eE rfl (vq (by lia))];rfl) hf
 have k1:=V9 k F;have xV:=k1.len;have st:lI (yZ 0 "Gate" "laid_ones" (cI Ma (au (bQ "Gate" "known" (aj 0)) (au (bQ "Gate" "on_line" (aj 0)) (au (bQ "Gate" "laid_ones" (aj 0)) (au (bT "Gate" "waiting" CV (aj 0) aB) (au (e2 bU (bQ "Gate" "numbers" (aj 0)) (eC (.int 0))) aB))))))) [sW (gD g)]=some (.nx [sW (gD (nq g ex))]):=pP hf rfl rfl rfl;refine#[ex,F,k1,λh1=>?_,λx r e h1=>iZ rfl (sq (jd ht st) (Cb (Tj (xo rfl (Oq k1 h1 e)))))];have Up:∀b g',LS (gD (nq g ex)) []=some (.bl b,gD g')->mE (gD g) []=some (.bl b,gD g'):=λb g' h=>iZ rfl (sq (jd ht st) (Cb (Tq (xo rfl (S3 (by lia) h1)) (xo rfl h))))
 refine#[λhe=>Up _ _ (Vt he),λhe=>?_];have e1:nq g ex=g:=by
  unfold nq;rw[he,<- (agS.mp he).1]
 let#[u,v1,a,b,h]:=adm k1 he;rw[e1] at a h;apply#[u,v1,a,b,Up _ _ (by rw[e1];apply h)]
def Ba(g:G):G:={ g with lk:=zT g }
abbrev cS:aR->Option (Bool×aR):=zM (kZ (tV (bQ "Gate" "halted" (aj 0)))) (tZ (xO 0 "Gate" "put_out_more" mE aB))
def S7:kZ (tV (bQ "Gate" "halted" (aj 0))) [sW (gD g)]=some (!g.ht):=kN (bA (fl rfl))
def Yb(h:g.ht=true):cS [sW (gD g)]=some (false,[sW (gD g)]):=by
 have:=S7 (g:=g);rw[h] at this;unfold cS zM;rw[this];rfl
def aeH(h:f Y=some (.bl b,Y')):tZ f Y=some (b,Y'):=by unfold tZ;rw[h]
def Tg(h:g.ht=false)(hm:mE (gD g) []=some (.bl b,gD g1)):cS [sW (gD g)]=some (b,[sW (gD g1)]):=by
 have:=S7 (g:=g);rw[h] at this;refine Eq.trans ?_ (aeH (xo (Y:=[sW (gD g)]) (m:="put_out_more") rfl hm));unfold cS zM;rw[this];rfl
def PJ(h:c Y=some (false,aT)):mh c f (n+1) Y=some (.nx aT):=by rw[mh,h]
def VH(h:c Y=some (true,aT))(h2:f aT=some (.nx aY)):mh c f (n+1) Y=mh c f n aY:=by
 rw[mh,h];dsimp only;rw[h2]
def Rb(k:Gd g):sZ (xO 0 "Gate" "put_out_leaning" Ic aB) [sW (gD g)]=some (.nx [sW (gD (uV g))]):=by
 unfold sZ;rw[xo rfl (abK k.gc k.gr)];rfl
inductive Ru:G->G->Nat->Prop
 |ht {g:G} (h:g.ht=true):Ru g g 0
 |no {g g1:G} (h:g.ht=false) (e:mE (gD g) []=some (.bl false,gD g1)):Ru g g1 0
 |yes {g g1 g2:G} (h:g.ht=false) (e:mE (gD g) []=some (.bl true,gD g1)) (k:Gd g1) (r:Ru (uV g1) g2 n):Ru g g2 (n+1)
theorem Ro:∀{n:Nat}{g g1:G}{m:Nat},Ru g g1 n->n<m->mh cS (sZ (xO 0 "Gate" "put_out_leaning" Ic aB)) m [sW (gD g)]=some (.nx [sW (gD g1)])
 |0,g,g1,m+1,r,_=>by
  cases r with
  |ht h=>apply PJ (Yb h)
  |no h e=>apply PJ (Tg h e)
 |n+1,g,g1,m+1,r,hm=>by
  cases r with
  |yes h e k r=>apply(VH (Tg h e) (Rb k)).trans (Ro r (by lia))
def ai6(k:Gd g)(r:Ru (uV g) g1 n)(hn:n<4000)(k1:Gd g1):q_ (gD g) []=some (.aJ,gD (Ba g1)):=by
 have hl:=k1.len;have gl:=k1.gc.ln;apply qQ rfl (sq (ie (Rb k)) (sq (ie (Ro r hn)) (pP (eE rfl (acr (by lia) (by lia) (by have:=k1.h1;lia))) rfl rfl rfl))) rfl
def Lz(n:Nat)(d:D):Prop:=g8 d=true/\(py d).canLay0=true/\(py d).depth<=n
theorem Li{n:Nat}:∀{ds:List D},(∀d∈ds,Lz n d)->mJ ds=true/\PyData.canLayAll0 (f9 ds)=true/\PyData.depthAll (f9 ds)<=n
 |[],_=>#[rfl,rfl,by show PyData.depthAll []<=n;simp[PyData.depthAll]]
 |d::ds,h=>by
  let#[a1,a2,a3]:=h d aah;let#[b1,b2,b3]:=Li λe m=>h e (aaf _ m)
  refine#[by unfold mJ;rw[a1,b1];rfl,?_,?_]
  .unfold f9;simp only[PyData.canLayAll0,a2,b2,ag3]
  .unfold f9;simp only[PyData.depthAll];omega
def pF{n:Nat}{ds:List D}(h:∀d∈ds,Lz n d):Lz (n+1) (.tup ds):=by
 let#[a,b,c]:=Li h;refine#[by unfold g8;apply a,?_,?_]
 .unfold py;simp only[PyData.canLay0];apply b
 .unfold py;simp only[PyData.depth];omega
def aev{n:Nat}{ds:List D}(h:∀d∈ds,Lz n d):Lz (n+1) (.lst ds):=by
 let#[a,b,c]:=Li h;refine#[by unfold g8;apply a,?_,?_]
 .unfold py;simp only[PyData.canLay0];apply b
 .unfold py;simp only[PyData.depth];omega
def Lz.up{d:D}(h:Lz n d)(l:n<=m):Lz m d:=#[h.1,h.2.1,aeC h.2.2 l]
def Lz.lay{d:D}(h:Lz n d)(l:n<=40):dz d=true:=by
 unfold dz;rw[h.1,h.2.1,aas (aeC h.2.2 l)];rfl
def wL(i:Int):Lz 0 (.int i):=#[rfl,rfl,by show PyData.depth (.int i)<=0;simp[PyData.depth]]
def ur(x:Str)(h:PyData.strOk x=true:=by decide +kernel):Lz 0 (.str x):=#[rfl,by unfold py;simp only[PyData.canLay0];apply h,by unfold py;simp only[PyData.depth];apply abi _]
def FL:Nat->List D->Option D
 |0=>λ_=>none
 |n+1=>bJ 1 1 (wV (FL n))
def Rf(i:Int):FL (n+1) [.int i]=some (.bl true):=rfl
def Us{ds:List D}{Y:aR}(h:∀d∈ds,FL n [d]=some (.bl true))(hl:ds.length<=100)(hi:fV (aj 0) Y=some (ds,t)):e1 tG (gK [none] (fV (aj 0)) (gN 0) oN (cI (FL n) (au (aj 0) aB))) Y=sW (.bl true):=by
 have hc:=kG (js:=[none]) (g:=gN 0) (tt:=oN) (te:=cI (FL n) (au (aj 0) aB)) hi (size_le (by lia)) (λd m=>sF rfl rfl (bZ rfl (h d m)));have e:ds.filterMap (λ_=>some (D.bl true))=(ds.map λ_=>true).map D.bl:=by
  rw[adz];apply mX (λ_=>D.bl true) ds
 rw[xM,hc,GZ,e,Hw,ajt];simp
def Dn{ds:List D}(h:∀d∈ds,FL n [d]=some (.bl true))(hl:ds.length<=100):FL (n+1) [.tup ds]=some (.bl true):=
 bg rfl (iF (jd rfl (cT (Us h hl rfl))))
def aie{ds:List D}(h:∀d∈ds,FL n [d]=some (.bl true))(hl:ds.length<=100):FL (n+1) [.lst ds]=some (.bl true):=
 bg rfl (iF (jd rfl (cT (Us h hl rfl))))
def MQ{l:List Int}(hl:l.length<=100):FL (n + 2) [tD l]=some (.bl true):=Dn (λd m=>by
 let#[x,_,rfl]:=abn.mp m;apply Rf x) (by rw[List.length_map];apply hl)
def Gp(d:D):Prop:=Lz 3 d/\FL 3 [d]=some (.bl true)
def J9(h:fv Y=some (.int j,t))(h0:Y[0]? = some (sW (gD g)))(hl:(gF g).lookup f=some (.int i))(e:e_ f (.int (i+j)) (gF g)=gF g'):lI (C9 0 "Gate" f fv) Y=some (.nx (cz Y 0 (gD g'))):=by
 refine ie ?_;unfold C9;rw[h,h0];show(if("Gate":Str)="Gate"/\(gF g).length<1000 then(match(gF g).lookup f with|some (.int k)=>some (Out.nx (cz Y 0 (.ins "Gate" (e_ f (.int (k+j)) (gF g)))))|_=>none) else none)=_;rw[if_pos #[rfl,by show 12<1000;decide],hl];dsimp only;rw[e];rfl
def zx(h0:Y[0]? = some (sW (gD g)))(h:F (gD g) []=some (r,gD g'))(hm:(gF g).lookup m=none:=by rfl):lI (sZ (xO 0 "Gate" m F aB)) Y=some (.nx (cz Y 0 (gD g'))):=ie (by
 unfold sZ;rw[xo h0 h hm];rfl)
def MX(g:G):G:={ g with ld:=[],ht:=true,br:=g.br+1 }
def aeq(h:q_ (gD (MX g)) []=some (.aJ,gD g3)):U8 (gD g) []=some (.aJ,gD g3):=
 qQ rfl (sq (pP rfl rfl rfl rfl) (sq (pP (g:={ g with ld:=[] }) rfl rfl rfl rfl)
  (sq (J9 (g:={ g with ld:=[],ht:=true }) rfl rfl rfl rfl) (zx rfl h)))) rfl
def Wi(h:q_ (gD { g with ht:=false }) []=some (.aJ,gD g3)):Uv (gD g) []=some (.aJ,gD g3):=
 qQ rfl (sq (pP rfl rfl rfl rfl) (zx rfl h)) rfl
def B5(g:G)(c:Ch):G:={ g with C:=g.C++[c] }
def V0(hl:l.length<=100)(hE:E.length<=100)(hm:nu g.C.length q l E=true)(hC:g.C.length<60)(h:q_ (gD (B5 g (q,l,E))) []=some (.aJ,gD g3)):Ol (gD g) [.int q,iL l,eL E]=some (.int (g.C.length+1),gD g3):=by
 have h1:BV 0 "Gate" "known" "Changes" "added" D6 (au (aj 1) (au (aj 2) (au (aj 3) aB))) [sW (gD g),sS (.int q),sS (iL l),sS (eL E),none]=some (.int (g.C.length+1),[sW (gD (B5 g (q,l,E))),sS (.int q),sS (iL l),sS (eL E),none]):=by
  show(if("Gate":Str)="Gate"/\("Changes":Str)="Changes"/\([("entries",D.lst (g.C.map ent))]:List (Str×D)).lookup ("added":Str)=none/\apart 0 [(.int q,.sh []),(iL l,.sh []),(eL E,.sh [])]=true then(D6 (obj g.C) [.int q,iL l,eL E]).map _ else none)=_;rw[if_pos #[rfl,rfl,rfl,rfl],ahB hl hE hm hC];rfl
 refine iZ rfl (sq (Y':=[sW (gD (B5 g (q,l,E))),sS (.int q),sS (iL l),sS (eL E),sW (.int (g.C.length + 1))]) (ie (by
  show(match BV 0 "Gate" "known" "Changes" "added" D6 (au (aj 1) (au (aj 2) (au (aj 3) aB))) [sW (gD g),sS (.int q),sS (iL l),sS (eL E),none] with|some (d,Y')=>some (Out.nx (g_ Y' 4 d .own))|none=>none)=_;rw[h1];rfl)) (sq (zx rfl h) rfl))
def oZ(g:G)(x:Int):G:={ g with ld:=if x∈g.ld then g.ld.takeWhile (λy=>!(y==x)) else g.ld,gr:=putD g.gr (Sum.inl x) (.tup [.str "withdrawn"]),br:=g.br+1 }
theorem EX:∀{l:List Int} {x},x∈l->l.findIdx? (· == x)=some (l.takeWhile λy=>!(y==x)).length
 |[],x,m=>nomatch m
 |a::l,x,m=>by
  rw[List.findIdx?_cons,List.takeWhile_cons];cases e:(a==x) with
  |true=>rfl
  |false=>
   rw[EX ((aaA.mp m).resolve_left λq=>by rw[q] at e;simp at e)];rfl
def B4{x:Int}:l.takeWhile (λy=>!(y==x)) <+: l:=List.takeWhile_prefix _
def afX{l:List Int}:l.take (l.takeWhile λy=>!(y==x)).length=l.takeWhile λy=>!(y==x):=by
 let#[r,e]:=B4 (l:=l) (x:=x)
 conv=>lhs;rw[<- e]
 rw[e];apply(List.prefix_iff_eq_take.mp (B4)).symm
theorem Np:∀{l:List Int} {x},x∉l.takeWhile (λy=>!(y==x))
 |[],x,m=>nomatch m
 |a::l,x,m=>by
  rw[List.takeWhile_cons] at m;cases e:(a==x) with
  |true=>rw[e] at m;ext m
  |false=>
   rw[e] at m;rcases aaA.mp m with q|q
   .rw[<- q] at e;simp at e
   .exact Np q
def aga(k:Gd g)(hx:1<=x/\x<=(g.C.length:Int))(nl:x∉g.ln)(no:kh g x=false)(h:q_ (gD (oZ g x)) []=some (.aJ,gD g3)):v7 (gD g) [.int x]=some (.aJ,gD g3):=by
 have t1:kZ (tV (bT "Changes" "has" xB (bQ "Gate" "known" (aj 0)) (au (aj 1) aB))) [sW (gD g),sS (.int x)]=some false:=kN (b:=true) (bA (Ef (fl rfl) rfl ((wo g.C x).trans (by unfold inR;rw[aas hx.1,aas hx.2];rfl))));have t2:lY (tV (e2 (fW false) (aj 1) (bQ "Gate" "on_line" (aj 0)))) (tV (e2 (lO false) (aj 1) (bQ "Gate" "grounds" (aj 0)))) [sW (gD g),sS (.int x)]=some false:=
  (aiH ((bA (aF rfl (fl rfl) (by unfold iL;rw[xG,aa0 aaH,z_]))).trans (by rw[aaR nl]))).trans (bA (aF rfl (fl rfl) (by show some (D.bl (kh g x))=_;rw[no])))
 have t3:tV (e2 (fW false) (aj 1) (bQ "Gate" "laid_ones" (aj 0))) [sW (gD g),sS (.int x)]=some (decide (x∈g.ld)):=bA (aF rfl (fl rfl) (by unfold iL;rw[xG,aa0 aaH,z_]));refine qQ rfl (bV t1 (bV t2 (sq (Y':=[sW (gD { g with ld:=(oZ g x).ld }),sS (.int x)]) ?_ (sq (ie (Dh rfl rfl rfl rfl k.gr.im (by have:=k.gr.len;have:=k.gc.ln;show g.gr.length<=100;lia)))
  (sq (J9 rfl rfl rfl rfl) (zx rfl h)))))) rfl
 by_cases mx:x∈g.ld
 .rw[aas mx] at t3;have e1:e2 wC (bQ "Gate" "laid_ones" (aj 0)) (aj 1) [sW (gD g),sS (.int x)]=sW (.int (g.ld.takeWhile λy=>!(y == x)).length):=aF (fl rfl) rfl (by
   show(match fN (g.ld.map D.int) with|some ts=>(ts.findIdx? (· == x)).map λj:Nat=>D.int j|none=>none)=_;rw[uJ];dsimp only;rw[EX mx];rfl)
  have c:xg (bQ "Gate" "laid_ones" (aj 0)) (e2 wC (bQ "Gate" "laid_ones" (aj 0)) (aj 1)) [sW (gD g),sS (.int x)]=sW (iL (oZ g x).ld):=by
   unfold xg;rw[fl rfl,e1];show(if aQ (g.ld.map D.int)=true then some (D.lst (cutD (g.ld.map D.int) none (some ((g.ld.takeWhile λy=>!(y==x)).length:Int))),Tag.own) else none)=_;rw[if_pos (dY _),QI (by rw[List.length_map];apply List.IsPrefix.length_le B4),<- List.map_take,afX];unfold oZ;rw[if_pos mx];rfl
  apply jd t3 (pP c rfl rfl rfl)
 .rw[aaR mx] at t3;refine ji t3 ?_;unfold oZ;rw[aa0 mx];rfl
abbrev hd(ta:Ta)(L:List Int):List Str:=(vN ta L).getD []
def JK{L:List Int}:(bB (pq n t ta) (kL L)).getD (tob n t [])=tob n t (hd ta L):=by
 rw[Tz];unfold hd;cases vN ta L<;>rfl
def aeh{L:List Int}:putD (pq n t ta) (kL L) (tob n t h)=pq n t (gp ta L h):=Rr (λ_ _=>CK)
def VL{L:List Int}(hL:L≠[])(k:Gd g)(tn:(g.ta.map (·.1)).Nodup)(tl:g.ta.length<=5000)(hw:w∈(["yes","no","unsure"]:List Str))(hm:word g.n g.t (hd g.ta L)="more"):
  sO "Gate" "tallies" "Tally" "tell" (n8 "Tally" ue (au (e2 bU (bQ "Gate" "numbers" (aj 0)) (eC (.int 2))) (au (e2 bU (bQ "Gate" "numbers" (aj 0)) (eC (.int 3))) aB))) EO [sW (gD g),sS (tD L),sS (.str w),none,none] =
   some (.nx [sW (gD { g with ta:=gp g.ta L (hd g.ta L++[w]) }),sS (tD L),sS (.str w),none,sW (.str (word g.n g.t (hd g.ta L++[w])))]):=by
 have e1:n8 "Tally" ue (au (e2 bU (bQ "Gate" "numbers" (aj 0)) (eC (.int 2))) (au (e2 bU (bQ "Gate" "numbers" (aj 0)) (eC (.int 3))) aB)) [sW (gD g),sS (tD L),sS (.str w),none,none]=sW (tob g.n g.t []):=by
  show(match ue (.ins "Tally" []) [.int g.n,.int g.t] with|some (.aJ,d)=>some (d,Tag.own)|_=>none)=_;rw[Sq k.nt]
 have n1:((pq g.n g.t g.ta).map (·.1)).Nodup:=by
  unfold pq;rw[adz,show((λkv:List Key×D=>kv.1) ∘ λp:List Int×List Str=>(kL p.1,tob g.n g.t p.2))=kL ∘ (·.1) from rfl,<- adz];unfold List.Nodup at tn ⊢;rw[ajh];apply tn.imp λq e=>q (CK e)
 refine(af9 rfl rfl rfl rfl rfl (xN _) e1 JK (aae hw hm (by have:=acI hm;have:=k.nt;lia)) #[rfl,by unfold kL;rw[ajt];apply adR.mpr λ_ _=>rfl,λz=>hL (List.map_eq_nil_iff.mp z),n1,size_le (by unfold pq;rw[List.length_map];lia),rfl]).trans ?_;rw[aeh];rfl
def m8(g:G)(L:List Int)(w:Str):G:={ g with ta:=gp g.ta L (hd g.ta L++[w]),an:=g.an+1,en:=if(word g.n g.t (hd g.ta L++[w]) == "more")=true then g.en else g.en++[.tup [tD L,.str (word g.n g.t (hd g.ta L++[w]))]] }
def BW(g:G)(L:List Int):G:={ g with ld:=g.ld.drop (L.length-g.ln.length),ln:=L,gw:=g.gw++[L] }
def UK(L:List (List Int)):aQ (dO L)=true:=sU.mpr λd m=>by
 let#[l,_,rfl]:=abn.mp m;apply dY l
def Yw{L:List Int}(h1:g.ln.length<=L.length)(h2:L.length<=g.ln.length+g.ld.length)(hg:g.gw.length<=5000):sQ (gD g) [tD L]=some (.aJ,gD (BW g L)):=by
 have c:CG (bQ "Gate" "laid_ones" (aj 0)) (e2 g7 (e1 gH (aj 1)) (e1 gH (bQ "Gate" "on_line" (aj 0)))) [sW (gD g),sS (tD L)]=sW (iL (g.ld.drop (L.length-g.ln.length))):=by
  have e1:e2 g7 (e1 gH (aj 1)) (e1 gH (bQ "Gate" "on_line" (aj 0))) [sW (gD g),sS (tD L)]=sW (.int ((L.length-g.ln.length:Nat):Int)):=aF (cE rfl (by show some (D.int (L.map D.int).length)=_;rw[List.length_map])) (cE (fl rfl) (by show some (D.int (g.ln.map D.int).length)=_;rw[List.length_map])) (by show some (D.int (_-_))=_;rw[Int.natCast_sub h1]);unfold CG;rw[fl rfl,e1];show(if aQ (g.ld.map D.int)=true then some (D.lst (cutD (g.ld.map D.int) (some ((L.length-g.ln.length:Nat):Int)) none),Tag.own) else none)=_;rw[if_pos (dY _),Va (by rw[List.length_map];lia),<- List.map_drop];rfl
 refine qQ rfl (sq (pP c rfl rfl rfl) (sq (pP (g:={ g with ld:=g.ld.drop (L.length - g.ln.length) }) (cE rfl MG) rfl rfl rfl) (ie ((Df (es:=gF { g with ld:=g.ld.drop (L.length - g.ln.length),ln:=L }) rfl rfl rfl ?_).trans (by
  have:gD (BW g L)=.ins "Gate" (e_ "grown" (.lst (dO g.gw++[tD L])) (gF { g with ld:=g.ld.drop (L.length-g.ln.length),ln:=L })):=by
   unfold gD gF BW dO;rw[adS];rfl
  rw[<- this]))))) rfl
 rw[UK,show aE (tD L)=true from dY L,aas (size_le (by unfold dO;rw[List.length_map];lia))];rfl
def tN(g:G)(L:List Int)(w:Str):G:=if(word g.n g.t (hd g.ta L++[w]) == "yes")=true then BW (m8 g L w) L else m8 g L w
def aeB{L:List Int}(hk:L∈g.lk)(hL:L≠[])(k:Gd g)(tn:(g.ta.map (·.1)).Nodup)(tl:g.ta.length<=5000)(hw:w∈(["yes","no","unsure"]:List Str))(hm:word g.n g.t (hd g.ta L)="more")(em:aQ g.en=true)(el:g.en.length<=5000)(gl:g.gw.length<=5000)(h1:g.ln.length<=L.length)(h2:L.length<=g.ln.length+g.ld.length)
  (hs:q_ (gD (tN g L w)) []=some (.aJ,gD g3)):v9 (gD g) [tD L,.str w]=some (.str (word g.n g.t (hd g.ta L++[w])),gD g3):=by
 generalize ew:word g.n g.t (hd g.ta L++[w])=u;have ft:=VL hL k tn tl hw hm;rw[ew] at ft;have hu:∀g':G,lI (sZ (xO 0 "Gate" "grow" sQ (au (aj 1) aB))) [sW (gD g'),sS (tD L),sS (.str w),none,sW (.str u)]=(sQ (gD g') [tD L]).map λv=>.nx [sW v.2,sS (tD L),sS (.str w),none,sW (.str u)]:=λg'=>by
  show lI (λY=>(xO 0 "Gate" "grow" sQ (au (aj 1) aB) Y).map λw=>.nx w.2) _=_;have:xO 0 "Gate" "grow" sQ (au (aj 1) aB) [sW (gD g'),sS (tD L),sS (.str w),none,sW (.str u)]=(sQ (gD g') [tD L]).map λv=>(v.1,cz [sW (gD g'),sS (tD L),sS (.str w),none,sW (.str u)] 0 v.2):=by
   show(if("Gate":Str)="Gate"/\(gF g').lookup ("grow":Str)=none/\apart 0 [(tD L,.sh [])]=true then _ else none)=_;rw[if_pos #[rfl,rfl,rfl]];rfl
  unfold lI;dsimp only;rw[this];cases sQ (gD g') [tD L]<;>rfl
 refine iZ rfl (bV (bA (aF rfl (fl rfl) ((DZ true L g.lk).trans (by rw[aas hk];rfl)))) (sq ft (sq (Y':=[sW (gD { g with ta:=gp g.ta L (hd g.ta L++[w]),an:=g.an+1 }),sS (tD L),sS (.str w),none,sW (.str u)]) (J9 rfl rfl rfl rfl) (sq (Y':=[sW (gD (m8 g L w)),sS (tD L),sS (.str w),none,sW (.str u)]) ?_ (sq (Y':=[sW (gD (tN g L w)),sS (tD L),sS (.str w),none,sW (.str u)]) ?_ (sq (zx rfl hs) rfl))))))
 .have ht:tV (e2 jA (aj 4) (eC (.str "more"))) [sW (gD { g with ta:=gp g.ta L (hd g.ta L++[w]),an:=g.an+1 }),sS (tD L),sS (.str w),none,sW (.str u)]=some (!(u == "more")):=rfl;unfold m8;rw[ew];cases e:(u==("more":Str)) with
  |true=>rw[e] at ht;rw[iR,ht];rfl
  |false=>
   rw[e] at ht;refine jd ht (ie ((Df (d:=.tup [tD L,.str u]) rfl rfl rfl ?_).trans ?_))
   .have:aE (.tup [tD L,.str u])=true:=by unfold tD;simp only[aE,aQ,dY,ag3]
    rw[this,em,aas (size_le (by lia))];rfl
   .rfl
 .have ht:tV (e2 oEq (aj 4) (eC (.str "yes"))) [sW (gD (m8 g L w)),sS (tD L),sS (.str w),none,sW (.str u)]=some (u == "yes"):=rfl;unfold tN;rw[ew];cases e:(u==("yes":Str)) with
  |true=>
   rw[e] at ht;refine jd ht ((hu (m8 g L w)).trans ?_);rw[Yw (g:=m8 g L w) h1 h2 gl];rfl
  |false=>rw[e] at ht;rw[iR,ht];rfl
def Gd.re(k:Gd g)(ta:Ta)(lk:List (List Int))(ht:Bool)(gw:List (List Int))(en:List D)(an br:Int):Gd { g with ta:=ta,lk:=lk,ht:=ht,gw:=gw,en:=en,an:=an,br:=br }:=#[k.w1,k.h1,k.nt,k.gc,k.row,k.nd,k.y_,k.oH,k.gr,k.run]
def adb(k:Gd g):Gd (Ba g):=k.re g.ta (zT g) g.ht g.gw g.en g.an g.br
def Lr(gr:List (Key×D)):Prop:=∀p∈gr,Gp p.2
def Lr.put(h:Lr gr)(hd:Gp d):Lr (putD gr k d):=λp m=>(KS m).elim (h p) λe=>by rw[e];apply hd
def Y7(s:Str)(h:Lz 2 d)(hs:PyData.strOk s=true:=by decide +kernel):Lz 3 (.tup [.str s,d]):=pF λx m=>by
 rcases aaA.mp m with rfl|m
 .exact(ur s hs).up (by decide)
 .rw[aaD.mp m];apply h
def My(s:Str)(i:Int)(hs:PyData.strOk s=true:=by decide +kernel):Gp (.tup [.str s,.int i]):=#[Y7 s ((wL i).up (by decide)) hs,Dn (λd m=>by
 simp only[aaA,ac6,ahz] at m;rcases m with rfl|rfl<;>rfl) (by show 2<=100;decide)]
def AU(l:List Int):Lz 1 (tD l):=pF λd m=>by
 let#[x,_,rfl]:=abn.mp m;apply wL x
def T4:PyData.strOk (word n t h)=true:=by
 unfold word
 split
 .decide +kernel
 .split
  .decide +kernel
  .split<;>decide +kernel
def ag9:PyData.strOk (wd g l)=true:=by
 unfold wd
 split
 .decide +kernel
 .exact T4
def afu:Lz 3 (xA g):=pF λd m=>by
 simp only[aaA,ac6,ahz] at m;rcases m with rfl|rfl|rfl|rfl
 .exact(ur "look").up (by decide)
 .exact(AU _).up (by decide)
 .exact(AU _).up (by decide)
 .exact(ur _ ag9).up (by decide)
def S9(k:Gd g):Gp (xA g):=#[afu,Dn (λd m=>by
 have hl:=k.len;simp only[aaA,ac6,ahz] at m;rcases m with rfl|rfl|rfl|rfl
 .rfl
 .exact MQ (by lia)
 .exact MQ (by unfold je;rw[aaY,aiX];lia)
 .rfl) (by show 4<=100;decide)]
theorem Iq:∀{l:List Int} {gr},Lr gr->Lr (l.foldl (iB C) gr)
 |[],_,h=>h
 |x::l,gr,h=>by
  rw[afz];refine Iq ?_;unfold iB
  split
  .exact h
  .exact h.put (My "leans" _)
theorem Q6{f:Int->D}:∀{l:List Int} {gr},(∀x∈l,aE (f x)=true/\(nO (f x)).isSome=true/\Gp (f x))->l.Nodup->(∀x∈l,c8 gr x=false/\x∈cN 1 n)->Gr n gr->Lr gr->Gr n (l.foldl (λgr x=>putD gr (Sum.inl x) (f x)) gr)/\Lr (l.foldl (λgr x=>putD gr (Sum.inl x) (f x)) gr)/\(l.foldl (λgr x=>putD gr (Sum.inl x) (f x)) gr).length=gr.length+l.length/\∀y,c8 (l.foldl (λgr x=>putD gr (Sum.inl x) (f x)) gr) y=true->c8 gr y=true\/y∈l
 |[],gr,_,_,_,k,h=>#[k,h,rfl,λy e=>.inl e]
 |x::l,gr,hf,nd,hx,k,h=>by
  have Jx:=hf x aah;let#[n1,n2]:=abo.mp nd;let#[a,b]:=hx x aah;let#[c1,c2,c3,c4]:=Q6 (λy m=>hf y (aaf _ m)) n2 (λy m=>#[by rw[qR,(hx y (aaf _ m)).1,aaR (show ¬y=x from λe=>n1 (e ▸ m))];rfl,(hx y (aaf _ m)).2]) (k.put b Jx.1 Jx.2.1) (h.put Jx.2.2);refine#[c1,c2,by rw[afz,c3,BC a,aaY];show gr.length+1+l.length=gr.length+(l.length+1);lia,λy e=>?_];rcases c4 y e with q|q
  .rw[qR,aje,agC] at q;apply q.elim (λe=>.inr (e ▸ aah)) .inl
  .exact .inr (aaf _ q)
def Mz(k:Gd g):Gd (uV g):=by
 let#[a,_,c]:=MJ (l:=wl g) k.gr λx m=>jT.mpr (by have:=m9 x m;lia)
 refine k.cut (ajG _) a λx m=>?_
 cases e:c8 ((wl g).foldl (iB g.C) g.gr) x with
 |false=>rfl
 |true=>
  rcases c x e with q|q
  .rw[show c8 g.gr x=false from k.oH x m] at q;ext q
  .let#[_,n1,n2,_]:=qY.mp q;apply absurd m (by rw[abc];apply λz=>z.elim n1 n2)
def adg:g.gr.length<=(uV g).gr.length:=(Sm AY λx m=>(qY.mp m).2.2.2).length_le
def N1(k:Gd g)(hx:g.ld=x::r):Gd (Aw g x)/\(Aw g x).gr.length=g.gr.length+1:=by
 have mx:x∈g.ln++g.ld:=by rw[hx];apply aaJ _ aah
 have hr:=k.row x mx;refine#[k.cut List.nil_prefix (k.gr.put (jT.mpr (by lia)) QV) λy m=>?_,by show(putD g.gr _ _).length=_;rw[BC (k.oH x mx),aaY];rfl];rw[ack] at m;rw[qR,show c8 g.gr y=false from k.oH y (aaL _ m),aaR (show ¬y=x from λe=>by
  have:=k.nd;rw[hx] at this;apply(adv.mp this).2.2 y m x aah e)];rfl
theorem Uk:∀(n:Nat) {g:G},Gd g->Lr g.gr->g.C.length<g.gr.length+n->∃ld gr m,Ru g { g with ld:=ld,gr:=gr } m/\m<=n/\Gd { g with ld:=ld,gr:=gr }/\Lr gr
 |0,g,k,_,h=>by
  have:=k.gr.len
  lia
 |n+1,g,k,hz,h=>by
  by_cases ht:g.ht=true
  .exact#[g.ld,g.gr,0,.ht ht,aeQ _,k,hz]
  .have ht:g.ht=false:=by simpa using ht
   have yes:∀g1:G,mE (gD g) []=some (.bl true,gD g1)->(∃ld gr,g1={ g with ld:=ld,gr:=gr })->Gd g1->Lr g1.gr->g.gr.length<g1.gr.length->∃ld gr m,Ru g { g with ld:=ld,gr:=gr } m/\m<=n+1/\Gd { g with ld:=ld,gr:=gr }/\Lr gr:=by
    rintro _ e ⟨l1,r1,rfl⟩ k1 z1 hl
    have pl:=adg (g:={ g with ld:=l1,gr:=r1 });let#[ld,gr,m,r,hm,k2,z2]:=Uk n (Mz k1) (Iq z1) (by
     have pl:r1.length<=(uV { g with ld:=l1,gr:=r1 }).gr.length:=pl;have hl:g.gr.length<r1.length:=hl;show g.C.length<_
     lia)
    apply#[ld,gr,m+1,.yes ht e k1 r,by lia,k2,z2]
   have hl:=k.len;cases hb:gm g with
   |some p=>
    by_cases hp:p=1
    .subst hp;have hm:=Ce hb;let#[x,r,hx]:=List.exists_cons_of_ne_nil (λe:g.ld=[]=>by rw[e] at hm;simp at hm);let#[ko,lo]:=N1 k hx;apply yes _ (aaV k hb hx) #[_,_,rfl] ko (hz.put (S9 k)) (by rw[lo];lia)
    .exact#[g.ld,g.gr,0,.no ht (aeR k hb hp),aeQ _,k,hz]
   |none=>
    let#[ex,F,k1,hA,hB]:=ail k hb
    by_cases h1:gm (nq g ex)=some 1
    .have hm:=Ce h1;let#[x,r,hx]:=List.exists_cons_of_ne_nil (λe:g.ld++ex=[]=>by
      have hm:1<=1/\1<=(g.ld++ex).length/\_:=hm;rw[e] at hm;simp at hm)
     let#[ko,lo]:=N1 k1 hx;apply yes _ (hB x r hx h1) #[_,_,rfl] ko (Lr.put hz (S9 k1)) (by rw[lo];apply aiV _)
    .let#[h2,h3]:=hA h1
     by_cases he:g.ld++ex=[]
     .let#[u,v,hv,hu,e]:=h3 he
      by_cases hf:bK g=[]
      .rw[hf] at e;apply#[g.ld,g.gr,0,.no ht e,aeQ _,k,hz]
      .have hd:g.ld=[]:=(agS.mp he).1;let#[c1,c2,c3,c4]:=Q6 (f:=λx=>.tup [.str "unfit",nV (bad u (b8 g.C x))]) (l:=bK g) (λx m=>by
        let#[mw,fr]:=acW.mp m;let#[v',r1,r2]:=F.run;rw[he,ack] at r1 r2;rw[hv] at r1;ext r1;have w1:=k.w1;have nb:eW g.C v x=false:=(r2.resolve_left (by show ¬g.w<=((0:Nat):Int);lia)) x mw (by rw[(agS.mp he).2];apply ac6) fr;rw[hu];unfold eW at nb;cases hb:bad v (b8 g.C x) with
        |nil=>rw[hb] at nb;ext nb
        |cons s r=>apply#[rfl,rfl,My "unfit" s]) (AY.sublist afv) (λx m=>by
        let#[a,_,_,b]:=qY.mp (acW.mp m).1;apply#[b,jT.mpr (by lia)]) k.gr hz
       rw[show decide (bK g=[])=false from aaR hf] at e;refine yes _ e #[g.ld,_,rfl] (k.cut (ajG _) c1 λx m=>?_) c2 (by
        have:=List.length_pos_iff.mpr hf;unfold sy
        lia)
       cases q:c8 ((bK g).foldl (sy g.C u) g.gr) x with
       |false=>rfl
       |true=>
        rcases c4 x q with q|q
        .rw[show c8 g.gr x=false from k.oH x m] at q;ext q
        .let#[_,n1,n2,_]:=qY.mp (acW.mp q).1;apply absurd m (by rw[abc];apply λz=>z.elim n1 n2)
     .exact#[g.ld++ex,g.gr,0,.no ht (h2 he),aeQ _,k1,hz]
def Z0(k:Gd g)(hz:Lr g.gr):∃ld gr,q_ (gD g) []=some (.aJ,gD (Ba { g with ld:=ld,gr:=gr }))/\Gd (Ba { g with ld:=ld,gr:=gr })/\Lr gr:=by
 have hC:=k.gc.ln;let#[ld,gr,m,r,hm,k1,z1]:=Uk (g.C.length+1) (Mz k) (Iq hz) (by show g.C.length<_;lia);apply#[ld,gr,ai6 k r (by lia) k1,adb k1,z1]
def Qq[DecidableEq κ]{es:List (κ×α)}:(gp es q d).length<=es.length+1:=by
 unfold gp
 split
 .rw[List.length_map];lia
 .rw[aaY];apply abi _
def Th(C:List Ch):Prop:=∀c∈C,c.2.2.length<=3
theorem RN:∀{C:List Ch},Th C->(slots C).length<=3*C.length
 |[],_=>abi _
 |c::C,q=>by
  have h1:=q c aah;have h2:=RN λx m=>q x (aaf _ m)
  show((c.2.2.map (·.1))++slots C).length<=3*(C.length+1);rw[aaY,List.length_map]
  lia
def OS:slots (C++[c])=slots C++c.2.2.map (·.1):=by unfold slots;rw[List.flatMap_append,List.flatMap_singleton]
theorem UM:∀{l:List Int},qj l=true->l.Pairwise (· < ·)
 |[],_=>.nil
 |[x],_=>ajk _ _
 |x::y::r,h=>by
  let#[a,b]:=(aav _ _).mp h;have ih:=UM b;have a:=aau a;refine aee.mpr #[λz m=>?_,ih];rcases aaA.mp m with rfl|m
  .exact a
  .have:=(aee.mp ih).1 z m;lia
def Ud(h1:1<=m)(h2:m<=(C.length:Int)):ch (C++[c]) m=ch C m:=by
 unfold ch;rw[agY (by omega)]
def acA(h1:1<=m)(h2:m<=(C.length:Int)):lean (sec (C++[c])) m=lean (sec C) m:=by
 rw[<- oj h1 (by rw[aaY,aeS];lia),Ud h1 h2,oj h1 h2]
def WO(q:Th (C++[c]))(g:GoodC (slots C) C)(k:nu C.length c.1 c.2.1 c.2.2=true)(kl:c.2.1.length<=60)(hl:C.length<20):GoodC (slots (C++[c])) (C++[c]):=by
 unfold nu vL at k;simp only[aav,adR,agC] at k;let#[#[_,kb,_],k2,k3,k4]:=k;have at_:∀(Q:Ch->Prop),Q (0,[],[])->Q c->(∀m,Q (ch C m))->∀m,Q (ch (C++[c]) m):=λQ q0 qc h m=>by
  unfold ch;rw[List.getElem?_append]
  split
  .exact h m
  .cases e:([c]:List Ch)[(m-1).toNat-C.length]? with
   |none=>apply q0
   |some x=>
    have:=ah6 e;rw[aaD.mp this];apply qc
 have pw:=UM k4;refine#[by rw[aaY,aeS];lia,aeC (RN q) (by rw[aaY,aeS];lia),λm=>at_ (λc'=>Ee (slots (C++[c])) c'.2.2) #[#[.nil,aeQ _],.nil,λp m=>nomatch m] #[#[pw.imp λh=>Int.le_of_lt h,by lia],pw.imp λh e=>by lia,λp m=>by rw[OS];apply aaJ _ (abn.mpr #[p,m,rfl])] (λm=>#[(g.ed m).ed,(g.ed m).nd,λp mp=>by rw[OS];apply aaL _ ((g.ed m).sl p mp)]) m,λm x h1 h2 mx=>?_,λm=>?_]
 .rw[aaY,aeS] at h2
  by_cases h3:m<=(C.length:Int)
  .rw[acA h1 h3] at mx;apply g.bd m x h1 h3 mx
  .have e:(ch (C++[c]) m)=c:=by
    unfold ch;rw[show(m-1).toNat=C.length by lia,aht (abi _),Nat.sub_self];rfl
   rw[<- oj h1 (by rw[aaY,aeS];lia),e] at mx;have:=kb x mx;unfold inR at this;simp only[aav,agC] at this
   lia
 .by_cases h1:1<=m
  .by_cases h2:m<=((C++[c]).length:Int)
   .rw[<- oj h1 h2];refine at_ (λc=>c.2.1.length<=60) (aeQ _) kl (λm=>?_) m;unfold ch;cases e:C[(m-1).toNat]? with
    |none=>apply aeQ _
    |some x=>
     have cY:=(acS.mp e).1;have:=g.few (((m-1).toNat:Int)+1);rw[<- oj (by lia) (by lia)] at this;unfold ch at this;rw[show((((m-1).toNat:Int)+1-1).toNat)=(m-1).toNat by lia,e] at this;apply this
   .unfold lean;rw[if_pos h1,ajs (by rw[List.length_map];lia)];apply aeQ _
  .unfold lean;rw[aa0 h1];apply aeQ _
def aai(h:Row C row):fQ (C++[c]) row=fQ C row:=ahx λx m=>by
 unfold b8;rw[Ud (h x m).1 (h x m).2]
structure Pv(m:Nat)(g:G):Prop where
 gd:Gd g
 lr:Lr g.gr
 th:Th g.C
 tn:(g.ta.map (·.1)).Nodup
 tl:g.ta.length<=m
 en:∀d∈g.en,Lz 2 d/\aE d=true
 el:g.en.length<=m
 gl:g.gw.length<=m
structure Iv(m:Nat)(g:G):Prop extends Pv m g where
 lk:∀L∈g.lk,∃p,1<=p/\p<=g.ld.length/\L=je g p
def Pv.settle(k:Pv m g):∃g3,q_ (gD g) []=some (.aJ,gD g3)/\Iv m g3/\g3.C=g.C:=by
 let#[ld,gr,e,k1,z1]:=Z0 k.gd k.lr;refine#[_,e,#[#[k1,z1,k.th,k.tn,k.tl,k.en,k.el,k.gl],λL mL=>?_],rfl];let#[p,mp,rfl]:=abn.mp mL;have b:=SV.1.bd p mp;have e:=MV (g:={ g with ld:=ld,gr:=gr });have e2:eo { g with ld:=ld,gr:=gr }<=(ld.length:Int)+1:=e.2;apply#[p.toNat,by lia,by show _<=ld.length;lia,rfl]
def Pv.up(k:Pv m g)(h:m<=n):Pv n g:=#[k.gd,k.lr,k.th,k.tn,aeC k.tl h,k.en,aeC k.el h,aeC k.gl h]
def Iv.up(k:Iv m g)(h:m<=n):Iv n g:=#[k.toPv.up h,k.lk]
def Iv.stop(k:Iv m g):∃g3,U8 (gD g) []=some (.aJ,gD g3)/\Iv m g3/\g3.C=g.C:=by
 have k1:Gd (MX g):=(k.gd.cut List.nil_prefix k.gd.gr λx m=>k.gd.oH x (by rw[ack] at m;apply aaL _ m)).re g.ta g.lk true g.gw g.en g.an (g.br+1);let#[g3,e,i,c]:=Pv.settle #[k1,k.lr,k.th,k.tn,k.tl,k.en,k.el,k.gl];apply#[g3,aeq e,i,c]
def Iv.go(k:Iv m g):∃g3,Uv (gD g) []=some (.aJ,gD g3)/\Iv m g3/\g3.C=g.C:=by
 let#[g3,e,i,c]:=Pv.settle #[k.gd.re g.ta g.lk false g.gw g.en g.an g.br,k.lr,k.th,k.tn,k.tl,k.en,k.el,k.gl];apply#[g3,Wi e,i,c]
def Iv.ask(k:Iv m g)(hl:l.length<=60)(hE:E.length<=3)(hm:nu g.C.length q l E=true)(hC:g.C.length<20):∃g3,Ol (gD g) [.int q,iL l,eL E]=some (.int (g.C.length+1),gD g3)/\Iv m g3/\g3.C=g.C++[(q,l,E)]:=by
 have lc:(g.C++[(q,l,E)]).length=g.C.length+1:=by rw[aaY];rfl
 have th:Th (g.C++[(q,l,E)]):=λc m=>(abc.mp m).elim (k.th c) λm=>by rw[aaD.mp m];apply hE
 have v:=k.gd;have k1:Gd (B5 g (q,l,E)):=by
  refine#[v.w1,v.h1,v.nt,WO th v.gc hm hl hC,λx mx=>?_,v.nd,v.y_,v.oH,#[v.gr.im,v.gr.nd,(λy my=>?_),v.gr.tp],?_]
  .have:=v.row x mx;show 1<=x/\x<=(((g.C++[(q,l,E)]).length:Nat):Int);rw[lc];lia
  .let#[x,e,mx]:=v.gr.ks y my;have:=jT.mp mx;apply#[x,e,jT.mpr (show 1<=x/\x<1+(((g.C++[(q,l,E)]).length:Nat):Int) by rw[lc];lia)]
  .let#[w,e]:=v.run;apply#[w,(congrArg (fJ []) (aai v.row)).trans e]
 let#[g3,e,i,c]:=Pv.settle #[k1,k.lr,th,k.tn,k.tl,k.en,k.el,k.gl];apply#[g3,V0 (by lia) (by lia) hm (by lia) e,i,c]
def Iv.oO(k:Iv m g)(hx:1<=x/\x<=(g.C.length:Int))(nl:x∉g.ln)(no:kh g x=false):∃g3,v7 (gD g) [.int x]=some (.aJ,gD g3)/\Iv m g3/\g3.C=g.C:=by
 have v:=k.gd;have lw:Gp (.tup [.str "withdrawn"]):=#[pF λd m=>by rw[aaD.mp m];apply(ur "withdrawn").up (by decide),rfl]
 have hp:(oZ g x).ld <+: g.ld:=by
  unfold oZ;dsimp only
  split
  .exact B4
  .exact ajG _
 have k1:Gd (oZ g x):=(v.cut hp (v.gr.put (jT.mpr (by lia)) rfl) λy my=>by
  have my':y∈g.ln++g.ld:=(abc.mp my).elim (aaL _) λh=>aaJ _ (hp.subset h)
  rw[qR,show c8 g.gr y=false from v.oH y my',aaR (show ¬y=x from λe=>by
   subst e;rcases abc.mp my with h|h
   .exact nl h
   .unfold oZ at h;dsimp only at h
    split at h
    .exact Np h
    .rename_i q;apply q h)];rfl).re g.ta g.lk g.ht g.gw g.en g.an (g.br+1)
 let#[g3,e,i,c]:=Pv.settle #[k1,Lr.put k.lr lw,k.th,k.tn,k.tl,k.en,k.el,k.gl];apply#[g3,aga v hx nl no e,i,c]
def NI{p:Nat}(h:p<=g.ld.length):(je g p).length=g.ln.length+p:=by
 unfold je;rw[aaY,aiX]
 lia
def Iv.qy(k:Iv m g){L:List Int}(hL:L∈g.lk)(hw:w∈(["yes","no","unsure"]:List Str))(hm:word g.n g.t (hd g.ta L)="more")(m4:m<=4000):∃g3,v9 (gD g) [tD L,.str w]=some (.str (word g.n g.t (hd g.ta L++[w])),gD g3)/\Iv (m+1) g3/\g3.C=g.C:=by
 let#[p,p1,p2,eL]:=k.lk L hL;have Ov:L.length=g.ln.length+p:=by rw[eL,NI p2]
 have nL:L≠[]:=λe=>by rw[e] at Ov;simp at Ov;lia
 have v:=k.gd;have em:aQ g.en=true:=sU.mpr λd md=>(k.en d md).2
 have Pg:(gp g.ta L (hd g.ta L++[w])).length<=m+1:=aeC Qq (by have:=k.tl;lia);have Bv:(∀d∈(m8 g L w).en,Lz 2 d/\aE d=true)/\(m8 g L w).en.length<=m+1:=by
  unfold m8;dsimp only
  split
  .exact#[k.en,by have:=k.el;lia]
  .refine#[λd md=>?_,by rw[aaY];have:=k.el;simp;lia];rcases abc.mp md with md|md
   .exact k.en d md
   .rw[aaD.mp md];refine#[pF λd md=>?_,by unfold tD;simp only[aE,aQ,dY,ag3]];simp only[aaA,ac6,ahz] at md;rcases md with rfl|rfl
    .exact AU _
    .exact(ur _ T4).up (by decide)
 have v1:Gd (m8 g L w):=v.re _ g.lk g.ht g.gw _ _ g.br;have P:Pv (m+1) (tN g L w):=by
  unfold tN
  by_cases hy:(word g.n g.t (hd g.ta L++[w]) == "yes")=true
  .rw[if_pos hy];have dp:L.length-g.ln.length=p:=by lia
   have ea:L++g.ld.drop p=g.ln++g.ld:=by rw[eL];unfold je;rw[afQ,List.take_append_drop]
   refine#[#[v.w1,v.h1,v.nt,v.gc,?_,?_,?_,?_,v.gr,?_],k.lr,k.th,Bs k.tn,Pg,Bv.1,Bv.2,(by show(g.gw++[L]).length<=m+1;rw[aaY];have:=k.gl;simp;lia)]
   .show Row g.C (L++g.ld.drop (L.length-g.ln.length));rw[dp,ea];apply v.row
   .show(L++g.ld.drop (L.length-g.ln.length)).Nodup;rw[dp,ea];apply v.nd
   .show((g.ld.drop (L.length-g.ln.length)).length:Int)<=g.w;rw[List.length_drop];have:=v.y_;lia
   .show ∀x∈L++g.ld.drop (L.length-g.ln.length),kh g x=false;rw[dp,ea];apply v.oH
   .show ∃v,fJ [] (fQ g.C (L++g.ld.drop (L.length-g.ln.length)))=some v;rw[dp,ea];apply v.run
  .rw[aa0 hy];apply#[v1,k.lr,k.th,Bs k.tn,Pg,Bv.1,Bv.2,by have:=k.gl;show g.gw.length<=m+1;lia]
 have c2:(tN g L w).C=g.C:=by unfold tN;split<;>rfl
 let#[g3,e,i,c]:=P.settle;apply#[g3,aeB hL nL v k.tn (aeC k.tl (by lia)) hw hm em (aeC k.el (by lia)) (aeC k.gl (by lia)) (by lia) (by lia) e,i,c.trans c2]
def rO:BJ [gD g]=some (iL g.ln):=bg rfl (cT (cE (fl rfl) u9))
def u0:Du [gD g]=some (iL g.ld):=bg rfl (cT (cE (fl rfl) u9))
def X4:A4 [gD g]=some (.bl g.ht):=bg rfl (by rw[Ds,fl rfl];rfl)
def outD(gr:List (Key×D))(x:Int):D:=.tup [.int x,(bB gr (Sum.inl x:Key)).getD .aJ]
def zW(k:Gd g):NQ [gD g]=some (.lst ((eK (j6 g.gr)).map (outD g.gr))):=by
 have hl:=k.gr.len;have gl:=k.gc.ln;let#[ek,e]:=xH k.gr.ks;have el:(j6 g.gr).length=g.gr.length:=by have:=congrArg List.length ek;rw[List.length_map,List.length_map] at this;apply this.symm
 have hs:e1 mH (bQ "Gate" "grounds" (aj 0)) [sS (gD g)]=sW (iL (eK (j6 g.gr))):=cE (fl rfl) (by
  show(match jB g.gr with|some ns=>if ns.length<64 then some (D.lst ((eK ns).map D.int)) else none|none=>none)=_;rw[e];dsimp only;rw[if_pos (by lia)];rfl)
 have hc:=kG (js:=[none,some 0]) (g:=gN 0) (tt:=oN) (k:=λd=>match d with | .int x=>some (outD g.gr x) | _=>none) (iO hs) (by rw[List.length_map,A3];apply size_le (by lia)) (λd m=>by
  let#[x,mx,rfl]:=abn.mp m;have mi:=k.gr.mem.mp (vj.mp mx);unfold c8 at mi;let#[v,hv]:=ahG.mp mi;have iv:=sU.mp k.gr.im v (by
   unfold bB at hv;let#[kv,h1,rfl]:=abW.mp hv;apply abn.mpr #[kv,afY h1,rfl])
  have hg:e2 kc (bQ "Gate" "grounds" (aj 1)) (aj 0) [sS (.int x),sS (gD g)]=sW v:=aF (fl rfl) rfl (by
   show(bB g.gr (Sum.inl x:Key)).bind _=_;rw[hv,abR,if_pos iv])
  have ho:∃t,gZ (au (aj 0) (au (e2 kc (bQ "Gate" "grounds" (aj 1)) (aj 0)) aB)) [sS (.int x),sS (gD g)]=some (outD g.gr x,t):=by
   rw[nQ,bG,bG,hg];unfold outD;rw[hv];apply#[_,rfl]
  let#[t,ho]:=ho;apply tO rfl rfl ho (by
   unfold outD;rw[hv];simp only[ajm,aE,aQ,iv,ag3]))
 rw[agR,show((eK (j6 g.gr)).filterMap ((λd=>match d with|D.int x=>some (outD g.gr x)|_=>none) ∘ D.int))=(eK (j6 g.gr)).map (outD g.gr) from mX (outD g.gr) _] at hc;apply bg rfl (cT hc)
def gk(gr:List (Key×D))(x:Int):D:=(bB gr (Sum.inl x:Key)).getD .aJ
def sk(gr:List (Key×D)):List Int:=eK (j6 gr)
def od(gr:List (Key×D)):List (Key×D):=(sk gr).map λx=>(Sum.inl x,gk gr x)
theorem Qu(f:Int->D)(x:Int):∀l:List Int,bB (l.map λx=>((Sum.inl x:Key),f x)) (Sum.inl x)=if x∈l then some (f x) else none
 |[]=>rfl
 |a::l=>by
  have ih:=Qu f x l;unfold bB at ih ⊢;rw[aar,adQ]
  by_cases h:a=x
  .subst h;rw[show decide (((Sum.inl a:Key),f a).1=Sum.inl a)=true from aas rfl,if_pos aah];rfl
  .rw[show decide (((Sum.inl a:Key),f a).1=Sum.inl x)=false from aaR λe=>h (ajH e)];dsimp only;rw[ih]
   by_cases m:x∈l
   .rw[if_pos m,if_pos (aaf _ m)]
   .rw[aa0 m,aa0 λq=>(aaA.mp q).elim (λe=>h e.symm) m]
def Gr.GI{gr:List (Key×D)}(k:Gr n gr):x∈sk gr↔c8 gr x=true:=vj.trans k.mem
def Gr.ksn{gr:List (Key×D)}(k:Gr n gr):(sk gr).Nodup:=(qN _).nodup_iff.mpr k.nK
def Gr.at_{gr:List (Key×D)}(k:Gr n gr)(h:c8 gr x=true):bB gr (Sum.inl x)=some (gk gr x)/\aE (gk gr x)=true/\(Sum.inl x,gk gr x)∈gr:=by
 unfold c8 at h;let#[v,hv]:=ahG.mp h;have e:gk gr x=v:=by unfold gk;rw[hv];rfl
 rw[e];have m:(Sum.inl x,v)∈gr:=by
  unfold bB at hv;let#[kv,h1,rfl]:=abW.mp hv;have:=ajg h1;rw[<- (aau this:kv.1=Sum.inl x)];apply afY h1
 apply#[hv,sU.mp k.im v (abn.mpr #[_,m,rfl]),m]
def Gr.HM{gr:List (Key×D)}(k:Gr n gr)(x:Int):bB (od gr) (Sum.inl x)=bB gr (Sum.inl x):=by
 unfold od;rw[Qu]
 by_cases h:c8 gr x=true
 .rw[if_pos (k.GI.mpr h),(k.at_ h).1]
 .rw[aa0 λq=>h (k.GI.mp q)];unfold c8 at h;cases e:bB gr (Sum.inl x:Key) with
  |none=>rfl
  |some v=>rw[e] at h;apply absurd rfl h
def Gr.Au{gr:List (Key×D)}(k:Gr n gr)(x:Int):c8 (od gr) x=c8 gr x:=by unfold c8;rw[k.HM]
theorem Mn{gr:List (Key×D)}(k:Gr n gr):∀l:List Int,(∀x∈l,c8 gr x=true)->jw (l.map (outD gr))=some (l.map λx=>((Sum.inl x:Key),gk gr x))
 |[],_=>rfl
 |x::l,h=>by
  rw[aar];show(match iU (.int x),jw (l.map (outD gr)) with|some k,some ps=>if aE (gk gr x)=true then some ((k,gk gr x)::ps) else none|_,_=>none)=_;rw[Mn k l λy m=>h y (aaf _ m)];show(if aE (gk gr x)=true then some (((Sum.inl x:Key),gk gr x)::_) else none)=_;rw[if_pos (k.at_ (h x aah)).2.1];rfl
theorem RH:∀(l:List Int) (f:Int->D) (m:List (Key×D)),l.Nodup->(∀x∈l,c8 m x=false)->(l.map λx=>((Sum.inl x:Key),f x)).foldl (λm p=>putD m p.1 p.2) m=m++l.map λx=>((Sum.inl x:Key),f x)
 |[],f,m,_,_=>(ack m).symm
 |x::l,f,m,nd,h=>by
  let#[n1,n2]:=abo.mp nd;rw[aar,afz];rw[RH l f _ n2 λy my=>by rw[qR,h y (aaf _ my),aaR (show ¬y=x from λe=>n1 (e ▸ my))];rfl,BC (h x aah),afQ];rfl
def Ck{gr:List (Key×D)}(k:Gr n gr):xK (.lst ((eK (j6 gr)).map (outD gr)))=some (.b_ (od gr)):=by
 show(jw ((sk gr).map (outD gr))).map _=_;rw[Mn k (sk gr) λx m=>k.GI.mp m];show some (D.b_ (((sk gr).map λx=>((Sum.inl x:Key),gk gr x)).foldl (λm p=>putD m p.1 p.2) []))=_;rw[RH _ _ _ k.ksn λx m=>rfl];rfl
def adE(hl:C.length<=60):ace [obj C]=some (obj C):=by
 refine bg rfl (sq rfl (sq (Y':=[sS (obj C),sW (obj C)]) ?_ rfl));show(if("Changes":Str)="Changes" then(if(aQ (C.map ent)&&aQ ([]:List D)&&decide (([]:List D).length+(C.map ent).length<=sizeLine))=true then some (Out.nx (cz [sS (obj C),sW (obj [])] 1 (.ins "Changes" (e_ "entries" (.lst ([]++C.map ent)) [("entries",.lst [])])))) else none) else none)=_;rw[if_pos rfl,if_pos (by rw[JH,aas (by rw[List.length_map,aft];show 0+_<=_;lia)];rfl)];rfl
def Ke(hl:g.C.length<=60):Dt [gD g]=some (obj g.C):=bg rfl (cT (kT (fl rfl rfl) rfl rfl (adE hl)))
def ix(l:List Int)(x:Int):Int:=((l.takeWhile λy=>!(y==x)).length:Nat)
def Ax{l:List Int}(h:x∈l):wC (iL l) (.int x)=some (.int (ix l x)):=by
 show(match fN (l.map D.int) with|some ts=>(ts.findIdx? (· == x)).map λj:Nat=>D.int j|none=>none)=_;rw[uJ];dsimp only;rw[EX h];rfl
def B7(hC:g.C.length<=60)(h:1<=x/\x<=(g.C.length:Int)):kZ (tV (bT "Changes" "has" xB (bT "Gate" "changes" Dt (aj 0) aB) (au (aj 1) aB))) (sS (gD g)::sS (.int x)::s)=some false:=
 kN (b:=true) (bA (kT (eE rfl (Ke hC)) (u_ (by decide)) rfl ((wo g.C x).trans (by unfold inR;rw[aas h.1,aas h.2];rfl))))
def gb(s:Str)(d:D):D:=.tup [.str s,d]
def nN(h:f Y=some (.int x,t))(h2:f2 Y=some (iL l,t2)):tV (e2 (fW false) f f2) Y=some (decide (x∈l)):=by
 apply bA (aF h h2 (by unfold iL;rw[xG,aa0 aaH,z_]))
def jO(h:tf Y=some true)(h2:sf Y=some (.rt d)):bN (dg tf sf eS) sg Y=some (.rt d):=iF (by rw[iR,h];apply h2)
def n_(h1:f Y=some (d,t))(hi:aE d=true):h_ (gZ (au (eC (.str s)) (au f aB))) Y=some (.rt (gb s d)):=by
 unfold h_;have h2:aE (gb s d)=true:=by unfold gb;simp only[aE,aQ,hi,ag3]
 rw[nQ,bG,bG,h1];show(if kq _=true then some (Out.rt (gb s d)) else if aE (gb s d)=true then some (Out.rt (gb s d)) else none)=_;rw[h2]
 split<;>rfl
def Y3(k:Gd g)(h:1<=x/\x<=(g.C.length:Int))(hi:x∈g.ln):vC [gD g,.int x]=some (gb "in" (.int (ix g.ln x))):=by
 have hC:=k.gc.ln;apply bg rfl (bV (B7 hC h) (cP (eE rfl rO) (jO ((nN rfl rfl).trans (by rw[aas hi])) (n_ (aF rfl rfl (Ax hi)) rfl))))
def yE(h:f Y=some (.int x,t))(h2:f2 Y=some (.b_ gr,t2)):tV (e2 (lO false) f f2) Y=some (c8 gr x):=bA (aF h h2 rfl)
def ai0(k:Gd g)(h:1<=x/\x<=(g.C.length:Int))(hi:x∉g.ln)(ho:kh g x=true):vC [gD g,.int x]=some (gb "out" (gk g.gr x)):=by
 have hC:=k.gc.ln;refine bg rfl (bV (B7 hC h) (cP (eE rfl rO) (bV ((nN rfl rfl).trans (by rw[aaR hi])) (cP (cE (eE rfl (zW k)) (Ck k.gr)) (jO ((yE rfl rfl).trans (by rw[k.gr.Au];apply congrArg some ho)) (n_ (aF rfl rfl ?_) (k.gr.at_ ho).2.1))))));show(bB (od g.gr) (Sum.inl x:Key)).bind _=_;rw[k.gr.HM,(k.gr.at_ ho).1,abR,if_pos (k.gr.at_ ho).2.1]
def ahi(k:Gd g)(h:1<=x/\x<=(g.C.length:Int))(hi:x∉g.ln)(ho:kh g x=false)(hl:x∈g.ld):vC [gD g,.int x]=some (gb "laid" (.int (ix g.ld x))):=by
 have hC:=k.gc.ln;apply bg rfl (bV (B7 hC h) (cP (eE rfl rO) (bV ((nN rfl rfl).trans (by rw[aaR hi])) (cP (cE (eE rfl (zW k)) (Ck k.gr)) (bV ((yE rfl rfl).trans (by rw[k.gr.Au];apply congrArg some ho)) (cP (eE rfl u0) (jO ((nN rfl rfl).trans (by rw[aas hl])) (n_ (aF rfl rfl (Ax hl)) rfl))))))))
def zF(k:Gd g)(h:1<=x/\x<=(g.C.length:Int))(hi:x∉g.ln)(ho:kh g x=false)(hl:x∉g.ld)(hw:wY [gD g,.int x]=some d):vC [gD g,.int x]=some d:=by
 have hC:=k.gc.ln;refine bg rfl (bV (B7 hC h) (cP (eE rfl rO) (bV ((nN rfl rfl).trans (by rw[aaR hi])) (cP (cE (eE rfl (zW k)) (Ck k.gr)) (bV ((yE rfl rfl).trans (by rw[k.gr.Au];apply congrArg some ho)) (cP (eE rfl u0) (bV ((nN rfl rfl).trans (by rw[aaR hl])) (cT (bZ rfl hw)))))))))
def fS(g:G)(x:Int):List Int:=(lean (sec g.C) x).filter λy=>!decide (y∈g.ln++g.ld)
def C4:tV (bT "Gate" "stopped" A4 (aj 0) aB) (some (gD g,t)::s)=some g.ht:=bA (eE rfl X4)
def agk(h:g.ht=true):wY [gD g,.int x]=some (.tup [.str "stopped"]):=bg rfl (jO (C4.trans (by rw[h])) rfl)
def AV(hl:g.ln.length+g.ld.length<=900):tV (e2 xw (bT "Gate" "bad" ud (aj 0) aB) (eC .aJ)) (some (gD g,t)::s)=some (gm g).isSome:=
 bA (aF (eE rfl (uK hl)) rfl (by cases gm g<;>rfl))
def rV(g:G)(x:Int)(s5 s6:Slot):aR:=[sS (gD g),sS (.int x),sW (obj g.C),sW (iL (g.ln++g.ld)),sW (iL (fS g x)),s5,s6]
def aeU(k:Gd g):e2 gx (bT "Gate" "line" BJ (aj 0) aB) (bT "Gate" "laid" Du (aj 0) aB) (some (gD g,t)::s)=sW (iL (g.ln++g.ld)):=by
 have:=k.len;apply aF (eE rfl rO) (eE rfl u0) (xP (by rw[aft];have:=k.gc.ln;lia))
def C0(k:Gd g)(ht:g.ht=false)(h:1<=x/\x<=(g.C.length:Int))(hs:TL (rV g x none none)=r):
  bN (dg (tV (bT "Gate" "stopped" A4 (aj 0) aB)) S eS) (bN (dG 2 (bT "Gate" "changes" Dt (aj 0) aB)) (bN (dG 3 (e2 gx (bT "Gate" "line" BJ (aj 0) aB) (bT "Gate" "laid" Du (aj 0) aB))) (bN (dG 4 (gK [none,some 3] (fV (bT "Changes" "leans_of" CW (aj 2) (au (aj 1) aB))) (gN 0) (tV (e2 (fW true) (aj 0) (aj 1))) (aj 0))) TL))) [sS (gD g),sS (.int x),none,none,none,none,none]=r:=by
 have hC:=k.gc.ln;refine bV (C4.trans (by rw[ht])) (cP (eE rfl (Ke hC)) (cP (aeU k) (cP (qd (iO (lS rfl rfl (JD h.1 h.2))) (by have:=k.gc.few x;lia) (λy=>rfl) (λy my=>bA (wj rfl rfl))) hs)))
def adj(k:Gd g)(ht:g.ht=false)(h:1<=x/\x<=(g.C.length:Int))(hm:fS g x≠[]):wY [gD g,.int x]=some (gb "leans" (iL (fS g x))):=by
 refine bg rfl (C0 k ht h (jO (?_:Ev.l7 (aj 4) (rV g x none none)=some true) ?_))
 .show some (!((fS g x).map D.int).isEmpty)=_;cases e:fS g x with
  |nil=>apply absurd e hm
  |cons y r=>rfl
 .have e:An (eC (.str "leans")) 4 (rV g x none none)=some (.ok (gb "leans" (iL (fS g x))) (rS (rV g x none none) 4)):=rfl;unfold zP;rw[e]
def aen(k:Gd g)(ht:g.ht=false)(h:1<=x/\x<=(g.C.length:Int))(hm:fS g x=[])(hb:gm g=some p):wY [gD g,.int x]=some (gb "halving" (.int p)):=by
 have hl:=k.len;refine bg rfl (C0 k ht h (bV (?_:Ev.l7 (aj 4) (rV g x none none)=some false) (jO ((AV (by lia)).trans (by rw[hb];rfl)) (n_ (eE rfl ((uK (by lia)).trans (by rw[hb];rfl))) rfl))));show some (!((fS g x).map D.int).isEmpty)=_;rw[hm];rfl
def Ra(k:Gd g)(h:1<=x/\x<=(g.C.length:Int))(hv:fJ [] (fQ g.C (g.ln++g.ld))=some v):cI Fi (au (cI Vk (au (aj 2) (au (aj 3) aB))) (au (bT "Changes" "edits_of" zC (aj 2) (au (aj 1) aB)) aB)) (rV g x s5 s6)=sW (nV (bad (i8 (nz v)) (b8 g.C x))):=by
 have hl:=k.len;refine bZ (ps:=[(dS (nz v),.own),(eL (b8 g.C x),.own)]) ?_ (OZ k.gc x);rw[bG,bG,bZ rfl (zc k.gc k.row (by rw[aaY];lia) hv).1,lS rfl rfl (yg h.1 h.2)];rfl
def abr(k:Gd g)(hv:fJ [] (fQ g.C (g.ln++g.ld))=some v):ZR [obj g.C,iL g.ln,iL g.ld,iL (wl g)]=some (iL (((wl g).filter (f7 g.C (g.ln++g.ld))).filter (eW g.C (i8 (nz v))))):=by
 have hl:=k.len;have hw:=CY (g:=g);have hC:=k.gc.ln;have hf:=afE (f7 g.C (g.ln++g.ld)) (wl g);refine bg rfl (cP (bZ rfl (TV k.gc (by lia) k.row hv)) (cT (qd (iO (bZ rfl (J4 k.gc (by lia) m9 (by lia)))) (by lia) (λy=>rfl) λy my=>?_)));have r:=m9 y (acW.mp my).1;apply bA (bZ rfl (RZ k.gc r.1 r.2))
def oi(g:G)(v:iY):List Int:=((wl g).filter (f7 g.C (g.ln++g.ld))).filter (eW g.C v)
def E7(k:Gd g)(hv:fJ [] (fQ g.C (g.ln++g.ld))=some v)(E:List Ed):bad (i8 (nz v)) E=bad v E:=by
 have hl:=k.len;apply Lf (Gk (zc k.gc k.row (by rw[aaY];lia) hv).2.nd) E
def afD(k:Gd g)(ht:g.ht=false)(h:1<=x/\x<=(g.C.length:Int))(hm:fS g x=[])(hb:gm g=none)(hv:fJ [] (fQ g.C (g.ln++g.ld))=some v)(hE:bad v (b8 g.C x)=s::r):wY [gD g,.int x]=some (gb "unfit" (.int s)):=by
 have hl:=k.len;have e:=Ra (s5:=none) (s6:=none) k h hv;rw[E7 k hv,hE] at e;refine bg rfl (C0 k ht h (bV (?_:Ev.l7 (aj 4) (rV g x none none)=some false) (bV ((AV (by lia)).trans (by rw[hb];rfl)) (cP e (jO rfl rfl)))));show some (!((fS g x).map D.int).isEmpty)=_;rw[hm];rfl
def Z6(k:Gd g)(ht:g.ht=false)(h:1<=x/\x<=(g.C.length:Int))(hm:fS g x=[])(hb:gm g=none)(hv:fJ [] (fQ g.C (g.ln++g.ld))=some v)(hE:bad v (b8 g.C x)=[])(hx:x∈oi g v):wY [gD g,.int x]=some (gb "turn" (.int (ix (iM (pr g.C) (oi g v)) x))):=by
 have hl:=k.len;have hC:=k.gc.ln;have hw:=CY (g:=g);have e:=Ra (s5:=none) (s6:=none) k h hv;rw[E7 k hv,hE] at e;have iS:eW g.C (i8 (nz v))=eW g.C v:=funext λy=>by unfold eW;rw[E7 k hv]
 have ey:=abr k hv;rw[iS] at ey;have hr:Row g.C (oi g v):=λy m=>m9 y (acW.mp (acW.mp m).1).1
 have hn:(oi g v).Nodup:=(AY.sublist afv).sublist afv;have R4:(oi g v).length<64:=by
  have h1:=afE (f7 g.C (g.ln++g.ld)) (wl g);have h2:=afE (eW g.C v) ((wl g).filter (f7 g.C (g.ln++g.ld)));unfold oi
  lia
 refine bg rfl (C0 k ht h (bV (?_:Ev.l7 (aj 4) (rV g x none none)=some false) (bV ((AV (by lia)).trans (by rw[hb];rfl)) (cP e (bV rfl (cP (t:=.own) ?_ (n_ (aF rfl rfl (Ax ((qP _).mem_iff.mpr hx))) rfl)))))))
 .show some (!((fS g x).map D.int).isEmpty)=_;rw[hm];rfl
 .refine bZ (ps:=[(obj g.C,.sh [2]),(iL (oi g v),.own)]) ?_ (NK hr hn R4);rw[bG,bG,bZ (ps:=[(obj g.C,.sh [2]),(iL g.ln,.own),(iL g.ld,.own),(iL (wl g),.own)]) ?_ ey]
  .rfl
  .rw[bG,bG,bG,bG,eE rfl rO,eE rfl u0,eE rfl (vq (by lia))];rfl
def aeF(h:lex a b=true):lex b a=false:=by
 have h:=aau h;apply aaR (by lia)
def Za:lex a a=false:=aaR (by lia)
theorem OE{pr:Int->Int×Int}:∀{s:List Int},s.Pairwise (λa b=>lex (pr a) (pr b)=true)->x∈s->s.takeWhile (λy=>!(y==x))=s.filter λy=>lex (pr y) (pr x)
 |[],_,m=>nomatch m
 |a::s,hs,m=>by
  let#[h1,h2]:=aee.mp hs
  by_cases e:a=x
  .subst e;rw[List.takeWhile_cons_of_neg (by simp),agE (by rw[Za];apply aaH)];apply(List.filter_eq_nil_iff.mpr λb mb=>by rw[aeF (h1 b mb)];apply aaH).symm
  .have m:x∈s:=(aaA.mp m).resolve_left λz=>e z.symm
   rw[List.takeWhile_cons_of_pos (by simp[e]),agD (p:=λy=>lex (pr y) (pr x)) (h1 x m),OE h2 m]
def afp{pr:Int->Int×Int}{l:List Int}(nd:(l.map pr).Nodup)(hx:x∈l):ix (iM pr l) x=((l.filter λy=>lex (pr y) (pr x)).length:Nat):=by
 unfold ix;rw[OE (IP nd) ((qP l).mem_iff.mpr hx)];rw[((qP l).filter _).length_eq]
def N8{r:Bool}{c:XN}(h:sf Y=some (.er r c Y')):bN sf sg Y=some (.er r c Y'):=by rw[jH,h];rfl
def vR{r:Bool}{c:XN}(h:tf Y=some true)(h2:sf Y=some (.er r c Y')):bN (dg tf sf eS) sg Y=some (.er r c Y'):=N8 (by rw[iR,h];apply h2)
def Tp(h:sf Y=none):bN sf sg Y=none:=by rw[jH,h];rfl
def AB(h:tf Y=some true)(h2:sf Y=none):bN (dg tf sf eS) sg Y=none:=Tp (by rw[iR,h];apply h2)
def wz(h:b (yS N d0 ds)=none):runM n N b d0 ds=none:=by
 unfold runM;rw[h];apply ite_self _
def wN(h:g Y=some ps):Bq cn g Y=some (.er true (cn,none) Y):=by unfold Bq;rw[h]
def Sw{t1 t2:Tag}{s:aR}:kZ (tV (bT "Changes" "has" xB (bQ "Gate" "known" (aj 0)) (au (aj 1) aB))) (some (gD g,t1)::some (.int x,t2)::s)=some (!inR x 1 g.C.length):=kN (bA (Ef (fl rfl) rfl (wo g.C x)))
def afq{t1 t2:Tag}{s:aR}:lY (tV (e2 (fW false) (aj 1) (bQ "Gate" "on_line" (aj 0)))) (tV (e2 (lO false) (aj 1) (bQ "Gate" "grounds" (aj 0)))) (some (gD g,t1)::some (.int x,t2)::s)=some (decide (x∈g.ln)||kh g x):=
 qt (bA (aF rfl (fl rfl) (by unfold iL;rw[xG,aa0 aaH,z_]))) (bA (aF rfl (fl rfl) rfl))
def Vv{x:Str}{n:Int}(h:f Y=some (.int n,t))(hn:n.natAbs<2 ^ 128):e1 (Fv x) f Y=sW (.str (Str.empty++x++Str.ofString (toString n))):=cE h (if_pos hn)
def abl{x y:Str}{n:Int}(h:f Y=some (.int n,t))(hn:n.natAbs<2 ^ 64):e1 (Iw x y) f Y=sW (.str (Str.empty++x++Str.ofString (toString n)++y)):=cE h (if_pos hn)
def aem(h:inR x 1 g.C.length=false)(hx:x.natAbs<2 ^ 64):v7 (gD g) [.int x]=none/\CB [gD g,.int x]=some (.er ("NoChange",none)):=by
 have t:=λt1 t2=>(Sw (t1:=t1) (t2:=t2) (s:=[])).trans (by rw[h])
 apply#[wz (AB (t _ _) rfl),uR rfl (vR (t _ _) (wN (by rw[bG,Vv rfl (Nat.lt_trans hx (by decide))];rfl)))]
def aaT(h:inR x 1 g.C.length=true)(h2:(decide (x∈g.ln)||kh g x)=true)(hx:x.natAbs<2 ^ 64):v7 (gD g) [.int x]=none/\CB [gD g,.int x]=some (.er ("TooLate",none)):=by
 have t:=λt1 t2=>(Sw (t1:=t1) (t2:=t2) (s:=[])).trans (by rw[h])
 have u:=λt1 t2=>(afq (t1:=t1) (t2:=t2) (s:=[])).trans (by rw[h2])
 apply#[wz (bV (t _ _) (AB (u _ _) rfl)),uR rfl (bV (t _ _) (vR (u _ _) (wN (by rw[bG,abl rfl hx];rfl))))]
def X8{L:List Int}(h:L∉g.lk):v9 (gD g) [tD L,.str w]=none/\Be [gD g,tD L,.str w]=some (.er ("NoLook",none)):=by
 have t:∀{t1 t2} {s},tV (e2 (vM true) (aj 1) (bQ "Gate" "looks" (aj 0))) (some (gD g,t1)::some (tD L,t2)::s)=some true:=λ{t1 t2 s}=>bA (aF rfl (fl rfl) ((DZ true L g.lk).trans (by rw[aaR h];rfl)))
 apply#[wz (AB t rfl),uR rfl (vR t (wN rfl))]
def B6(n t:Int)(h:List Str)(w:Str):Bool:=(["yes","no","unsure"]:List Str).any (· == w)&&(word n t h == "more")
def ad1(h:B6 n t hh w=false):EO (tob n t hh) [.str w]=none/\QX [tob n t hh,.str w]=some (.er ("NoAnswer",none)):=by
 have m1:∀{t1 t2}{s:aR},tV (e2 jA (bT "Tally" "word" Fw (aj 0) aB) (eC (.str "more"))) (some (tob n t hh,t1)::some (.str w,t2)::s)=some (!(word n t hh == "more")):=λ{t1 t2 s}=>bA (aF (kT rfl rfl rfl Ho) rfl rfl)
 have m0:∀{t1 t2}{s:aR},tV (e2 (uA true) (aj 1) (eC (.tup ((["yes","no","unsure"]:List Str).map D.str)))) (some (tob n t hh,t1)::some (.str w,t2)::s)=some (!(["yes","no","unsure"]:List Str).any (· == w)):=λ{t1 t2 s}=>rfl
 unfold B6 at h;cases h0:(["yes","no","unsure"]:List Str).any (· == w) with
 |false=>
  rw[h0] at m0;apply#[wz (AB m0 rfl),uR rfl (vR m0 (wN rfl))]
 |true=>
  rw[h0] at m0;rw[h0,Bool.true_and] at h;rw[h] at m1;apply#[wz (bV m0 (AB m1 rfl)),uR rfl (bV m0 (vR m1 (wN rfl)))]
def adl{w fd:Str}{H:MF}(h0:Y[0]? = some (sW (.ins cn es)))(h1:Y[1]? = some (some (.tup ls,lt)))(h2:Y[2]? = some (some (.str w,wt)))(h4:es.lookup fd=some (.fY ao))(h5:jc ls=some ks)(h6:ft Y=sW dn)(h7:(bB ao ks).getD dn=.ins iu iA)(h8:H (.ins iu iA) [.str w]=none):sO cn fd iu m ft H Y=none:=by
 unfold sO zq By Bx BF;simp only[h0,h1,h2,h4,h5,h6,h7,h8,abR,Option.bind_none,↓reduceIte]
def aiQ{L:List Int}(hL:L∈g.lk)(nL:L≠[])(k:Gd g)(h:B6 g.n g.t (hd g.ta L) w=false):v9 (gD g) [tD L,.str w]=none/\Be [gD g,tD L,.str w]=some (.er ("NoAnswer",none)):=by
 have t:∀{t1 t2} {s},tV (e2 (vM true) (aj 1) (bQ "Gate" "looks" (aj 0))) (some (gD g,t1)::some (tD L,t2)::s)=some false:=λ{t1 t2 s}=>bA (aF rfl (fl rfl) ((DZ true L g.lk).trans (by rw[aas hL];rfl)))
 have e1:∀{t1}{s:aR},n8 "Tally" ue (au (e2 bU (bQ "Gate" "numbers" (aj 0)) (eC (.int 2))) (au (e2 bU (bQ "Gate" "numbers" (aj 0)) (eC (.int 3))) aB)) (some (gD g,t1)::s)=sW (tob g.n g.t []):=λ{t1 s}=>by
  show(match ue (.ins "Tally" []) [.int g.n,.int g.t] with|some (.aJ,d)=>some (d,Tag.own)|_=>none)=_;rw[Sq k.nt]
 let#[a,b]:=ad1 h;constructor
 .exact wz (bV t (Tp (adl rfl rfl rfl rfl (xN _) e1 JK a)))
 .have kk:((kL L).all λk=>k.isLeft)=true/\kL L≠[]:=#[by unfold kL;rw[ajt];apply adR.mpr λ_ _=>rfl,λz=>nL (List.map_eq_nil_iff.mp z)]
  have eg:A_ (bQ "Gate" "tallies" (aj 0)) (aj 1) (n8 "Tally" ue (au (e2 bU (bQ "Gate" "numbers" (aj 0)) (eC (.int 2))) (au (e2 bU (bQ "Gate" "numbers" (aj 0)) (eC (.int 3))) aB))) [sS (gD g),sS (tD L),sS (.str w),none,none]=sS (tob g.n g.t (hd g.ta L)):=by
   unfold A_;rw[fl rfl,e1];show(jc (L.map D.int)).bind _=_;rw[xN,abR,if_pos kk,JK];rfl
  refine uR (raw:=false) (Y:=[sS (gD g),sS (tD L),sS (.str w),sS (tob g.n g.t (hd g.ta L)),none]) rfl (bV t (cP eg (N8 ?_)));show(match(if("Tally":Str)="Tally"/\([("need",D.int g.n),("tries",.int g.t),("heard",hs (hd g.ta L))]:List (Str×D)).lookup ("tell":Str)=none then(match QX [tob g.n g.t (hd g.ta L),.str w] with|some (.ok d)=>some (ER.ok d _)|some (.er en)=>some (.er en [sS (gD g),sS (tD L),sS (.str w),sS (tob g.n g.t (hd g.ta L)),none])|none=>none) else none) with|some (.ok d Y')=>_|some (.er cn Y')=>some (Out.er false cn Y')|none=>none)=_;rw[if_pos #[rfl,rfl],b]
def Wq(Q:Out->Prop)(o:Option Out):Prop:=∃r,o=some r/\Q r
section
variable{sf sg:SF}
def xj(h:sf Y=some (.nx Y'))(k:Wq Q (sg Y')):Wq Q (bN sf sg Y):=let#[x,e,p]:=k;#[x,sq h e,p]
def k8(h:f Y=some (d,t))(k:Wq Q (sg (g_ Y i d t))):Wq Q (bN (dG i f) sg Y):=xj (by rw[pB,h];rfl) k
def oq(Y':aR)(k:Wq Q (sg Y'))(e:Y=Y':=by rfl):Wq Q (sg Y):=e ▸ k
def Dv(h:tf Y=some b)(h1:b=true->Wq Q (sf Y))(h2:b=false->Wq Q (sg Y)):Wq Q (dg tf sf sg Y):=by
 rw[iR,h];cases b with
 |true=>apply h1 rfl
 |false=>apply h2 rfl
def ZD(I:Nat->aR->Prop)(h0:I 0 Y)(st:∀j Y d,ds[j]? = some d->I j Y->∃aT,g d t Y=some aT/\Wq (λr=>∃aY,r=.nx aY/\I (j+1) aY) (sf aT)):∃Y',cU g t sf ds Y=some (.nx Y')/\I ds.length Y':=by
 let#[Y',lp,h]:=Mu I h0 (λj Y d hd h=>by
  rw[ajI] at h ⊢;let#[aT,e1,_,e2,aY,rfl,h2]:=st j Y d hd h;apply#[aT,aY,e1,.inl e2,h2])
 rw[ajI] at h;apply#[Y',lp,h]
def ag5(I:Nat->aR->Prop)(hi:it Y=some ((cN a n).map D.int,.own))(h0:I 0 Y)(st:∀j Y,j<n->I j Y->∃aT,gN x (.int (a+j)) (.sh []) Y=some aT/\Wq (λr=>∃aY,r=.nx aY/\I (j+1) aY) (sf aT))(k:∀Y',I n Y'->Wq Q (sg Y')):Wq Q (bN (jl it (gN x) sf) sg Y):=by
 let#[Y',e,h]:=ZD (ds:=(cN a n).map D.int) I h0 (λj Y d hd h=>by
  unfold cN at hd;rw[adz,abV] at hd;let#[y,hy,rfl]:=abW.mp hd;let#[hj,e]:=acS.mp hy;rw[ajv] at hj;rw[List.getElem_range] at e;subst e;apply st j Y hj h)
 rw[List.length_map,nR] at h;apply xj (wJ hi e) (k Y' h)
def WX{I:aR->Prop}(h:Wq (λr=>∃Y',r=.nx Y'/\I Y') (sf Y))(k:∀Y',I Y'->Wq Q (sg Y')):Wq Q (bN sf sg Y):=let#[_,e,Y',e2,p]:=h;xj (e.trans (by rw[e2])) (k Y' p)
def J_{P:D->Prop}(hl:ds.length=n)(h:Wq (λr=>∃d,r=.rt d/\P d) (B (vZ N ds))):∃d,bJ n N B ds=some d/\P d:=let#[_,e,d,h,p]:=h;#[d,bg hl (e.trans (by rw[h])),p]
end
def Oa:ZX [gD g]=some (.lst (dO g.lk)):=bg rfl (cT (cE (fl (d:=.lst (dO g.lk)) rfl) (if_pos (UK _))))
def g0(w h n t:Int):G:=#[w,h,n,t,[],[],[],[],[],[],false,[],[],0,0]
def aea(hw:1<=w/\w<=16)(hh:1<=h/\h<=8)(nt:1<=n/\n<=t/\t<=20):OA (.ins "Gate" []) [.int w,.int h,.int n,.int t]=some (.aJ,gD (g0 w h n t)):=by
 have q:∀{i} {v b},aj i [sW (.ins "Gate" []),sS (.int w),sS (.int h),sS (.int n),sS (.int t)]=sS (.int v)->1<=v/\v<=b->tV (cI oB (au (aj i) (au (eC (.int 1)) (au (eC (.int b)) aB)))) [sW (.ins "Gate" []),sS (.int w),sS (.int h),sS (.int n),sS (.int t)]=some true:=λh hb=>(ym h).trans (by unfold inR;rw[aas hb.1,aas hb.2];rfl)
 refine qQ (Y:=[sW (gD (g0 w h n t)),sS (.int w),sS (.int h),sS (.int n),sS (.int t)]) rfl (bV (kN ((Q4 (q rfl hw)).trans ((Q4 (q rfl hh)).trans (bA (bZ (ps:=[(.int n,.sh []),(.int t,.sh [])]) rfl (NG nt)))))) ?_) rfl
 kernel_rfl
def aeI(I:Nat->aR->Prop)(R:D->Prop)(h0:I 0 Y)(st:∀j Y d,ds[j]? = some d->I j Y->∃aT,g d t Y=some aT/\Wq (λr=>(∃aY,r=.nx aY/\I (j+1) aY)\/∃x,r=.rt x/\R x) (sf aT)):(∃Y',cU g t sf ds Y=some (.nx Y')/\I ds.length Y')\/∃x,cU g t sf ds Y=some (.rt x)/\R x:=by
 rcases Mi I (λ_=>R) h0 (λj Y d hd h=>by
  rw[ajI] at h ⊢;let#[aT,e1,r,e2,h]:=st j Y d hd h;refine⟨aT,e1,h.imp (λ⟨aY,e,h⟩=>⟨aY,.inl (e2.trans (by rw[e])),h⟩) λ⟨x,e,h⟩=>⟨x,e2.trans (by rw[e]),h⟩⟩) with⟨Y',e,h⟩|⟨_,x,e,h,_⟩
 .rw[ajI] at h;apply .inl #[Y',e,h]
 .exact .inr #[x,e,h]
def S5(I:Nat->aR->Prop)(R:D->Prop)(hi:it Y=some (ds,t))(ht:t=.own\/t=.sh [])(h0:I 0 Y)(st:∀j Y d,ds[j]? = some d->I j Y->∃aT,g d (.sh []) Y=some aT/\Wq (λr=>(∃aY,r=.nx aY/\I (j+1) aY)\/∃x,r=.rt x/\R x) (sf aT))(k:∀Y',I ds.length Y'->Wq Q (sg Y'))(q:∀x,R x->Q (.rt x)):Wq Q (bN (jl it g sf) sg Y):=by
 rcases aeI I R h0 st with⟨Y',e,h⟩|⟨x,e,h⟩
 .refine xj ?_ (k Y' h);rcases ht with rfl|rfl
  .exact xm hi e
  .exact xm hi e
 .refine#[_,iF ?_,q x h];rcases ht with rfl|rfl
  .exact Bh hi e
  .exact Bh hi e
def D_(h:tf Y=some b)(h1:b=true->Wq Q (bN sf sg Y))(h2:b=false->Wq Q (sg Y)):Wq Q (bN (dg tf sf eS) sg Y):=by
 cases b with
 |true=>let#[r,e,q]:=h1 rfl;apply#[r,o8 h e,q]
 |false=>let#[r,e,q]:=h2 rfl;apply#[r,bV h e,q]
def Fk(h:Wq (λr=>∃x,r=.rt x/\Q r) (sf Y)):Wq Q (bN sf sg Y):=by
 let#[r,e,x,rfl,q]:=h;apply#[_,iF e,q]
def Ny{L:List (List Int)}:gH (.lst (dO L))=some (.int L.length):=by show some (D.int (dO L).length)=_;unfold dO;rw[List.length_map]
def cD(g:G):D:=.tup [.int g.gw.length,.int ((g.en.length:Int)-g.gw.length),.int g.an,.int (cnt g.gr),.int g.br]
def afk(k:Gd g):XC [gD g]=some (cD g):=by
 have hl:=k.gr.len;have gl:=k.gc.ln;have h1:e1 gH (bQ "Gate" "grown" (aj 0)) [sS (gD g),none,none]=sW (.int g.gw.length):=cE (fl rfl) Ny;have h2:e1 gH (EG 0 "Gate" "grounds" "look") [sS (gD g),sW (.int g.gw.length),none]=sW (.int (cnt g.gr)):=cE (by
  show(if("Gate":Str)="Gate"/\(g.gr.map (·.1)).Nodup/\g.gr.length<sizeLine/\∀p∈g.gr,(nO p.2).isSome=true then some (D.lst (Ae "look" g.gr),Tag.own) else none)=_;rw[if_pos #[rfl,k.gr.nd,size_le (by lia),k.gr.tp]]) (by rw[x8];rfl)
 have h3:e2 g7 (e1 gH (bQ "Gate" "ended" (aj 0))) (aj 1) [sS (gD g),sW (.int g.gw.length),sW (.int (cnt g.gr))]=sW (.int ((g.en.length:Int)-g.gw.length)):=aF (cE (fl rfl) x8) rfl rfl;refine bg rfl (cP h1 (cP h2 ?_));show h_ (gZ (au (aj 1) (au (e2 g7 (e1 gH (bQ "Gate" "ended" (aj 0))) (aj 1)) (au (bQ "Gate" "answers" (aj 0)) (au (aj 2) (au (bQ "Gate" "breaks" (aj 0)) aB)))))) [sS (gD g),sW (.int g.gw.length),sW (.int (cnt g.gr))]=some (.rt (cD g));rw[Ds,nQ,bG,bG,h3];rfl
def LB{f:α->D}{l:List α}{n:Nat}(h:∀x∈l,Lz n (f x)):Lz (n+1) (.lst (l.map f)):=aev λd m=>by
 let#[x,mx,rfl]:=abn.mp m;apply h x mx
def BI(l:List Int):Lz 1 (iL l):=LB λx _=>wL x
def NY(L:List (List Int)):Lz 2 (.lst (dO L)):=LB λl _=>AU l
def OM:Lz 0 .aJ:=#[rfl,rfl,by show PyData.depth .none<=0;simp[PyData.depth]]
def XM:∀o:Option Nat,Lz 0 (bD o)
 |none=>OM
 |some _=>wL _
def VR[DecidableEq κ]{es:List (κ×α)}(h:gv es k=some v):(k,v)∈es:=by
 unfold gv at h;let#[kv,h1,rfl]:=abW.mp h;have:kv.1=k:=aau (ajg (p:=λkv:κ×α=>decide (kv.1=k)) h1);apply this ▸ afY h1
def af8(h:Lr gr):Lz 4 (outD gr x):=pF λd m=>by
 simp only[aaA,ac6,ahz] at m;rcases m with rfl|rfl
 .exact(wL x).up (by decide)
 .cases e:bB gr (Sum.inl x:Key) with
  |none=>apply OM.up (by decide)
  |some d=>apply(h _ (VR e)).1
def bX(h:f Y=some p)(h2:g Y=some ps):au f g Y=some (p::ps):=by rw[bG,h,h2];rfl
def l6(h:g Y=some ps):gZ g Y=some (.tup (ps.map (·.1)),jL ps):=by rw[nQ,h];rfl
def Xw(k:Iv m g):∃d,ab5 [gD g]=some d/\dz d=true:=by
 have v:=k.gd;have hl:=v.len;have gl:=v.gc.ln;have L:∀{m:Str}{F:List D->Option D}{d:D},F [gD g]=some d->(gF g).lookup m=none->bT "Gate" m F (aj 0) aB [sS (gD g)]=sW d:=λh hm=>eE rfl h hm
 refine#[.tup [iL g.ln,iL g.ld,iL (wl g),.lst ((eK (j6 g.gr)).map (outD g.gr)),.lst (dO g.lk),bD (gm g),cD g],bg rfl (cT ?_),(pF (n:=5) λd md=>?_).lay (by decide)]
 .exact l6 (bX (L rO rfl) (bX (L u0 rfl) (bX (L (vq (by lia)) rfl) (bX (L (zW v) rfl) (bX (L Oa rfl) (bX (L (uK (by lia)) rfl) (bX (L (afk v) rfl) (show aB _=some [] from rfl))))))))
 .simp only[aaA,ac6,ahz] at md;rcases md with rfl|rfl|rfl|rfl|rfl|rfl|rfl
  .exact(BI _).up (by decide)
  .exact(BI _).up (by decide)
  .exact(BI _).up (by decide)
  .exact LB λx _=>af8 k.lr
  .exact(NY _).up (by decide)
  .exact(XM _).up (by decide)
  .exact(AU [_,_,_,_,_]).up (by decide)
def tK(h:-(2 ^ 64)<x/\x<2 ^ 64):qD x y=true:=by unfold qD;rw[aas h.1,aas h.2];rfl
def CC(h:-(2 ^ 64)<y/\y<2 ^ 64):qD x y=true:=by unfold qD;rw[aas h.1,aas h.2];apply Bool.or_true _
def mx(n p m:Int):Int:=n % 1000003*48271 % p % m
def ZN(hp:0<p)(hm:0<m):zI [.int n,.int p,.int m]=some (.int (mx n p m)):=
 bg rfl (cT (aF (aF (aF (aF rfl rfl (uT (by decide))) rfl (mC (CC (by decide)))) rfl (uT hp)) rfl (uT hm)))
def ig(h:f Y=some (.int n,t))(hp:0<p)(h3:f3 Y=some (.int m,t3))(hm:0<m):cI zI (au f (au (eC (.int p)) (au f3 aB))) Y=sW (.int (mx n p m)):=by
 refine bZ (ps:=[(.int n,t),(.int p,.own),(.int m,t3)]) ?_ (ZN hp hm);rw[bG,h,bG,bG,h3];rfl
def iE(hm:0<m):0<=mx a p m/\mx a p m<m:=#[Int.emod_nonneg _ (by lia),Int.emod_lt_of_pos _ hm]
def cl(ns:List Int)(k:Nat):Int:=ns.getD k 0
def JS{k:Nat}:zR [dI ns,.int k]=some (.int (cl ns k)):=by
 have t:tV (e2 oLt (aj 1) (e1 gH (aj 0))) [sS (dI ns),sS (.int k)]=some (decide ((k:Int)<ns.length)):=bA (aF rfl (cE rfl (by show some (D.int (ns.map D.int).length)=_;rw[List.length_map])) rfl);unfold cl
 by_cases h:k<ns.length
 .refine bg rfl (jO (t.trans (by rw[aas (by lia)])) (cT (aF rfl rfl (Rl ?_ rfl))));have:=Lg (ns:=ns) (i:=(k:Int)) (by lia) (by lia)
  rwa [show((k:Int)).toNat=k by lia] at this
 .refine bg rfl (bV (t.trans (by rw[aaR (by lia)])) ?_);rw[adM,ajs (by lia)];rfl
def Ln{k:Nat}(h:f Y=some (dI ns,t))(h2:f2 Y=some (.int k,t2)):cI zR (au f (au f2 aB)) Y=sW (.int (cl ns k)):=
 bZ (ps:=[(dI ns,t),(.int k,t2)]) (by rw[bG,h,bG,h2];rfl) JS
def YX(hl:ns.length<=63):∃n:Nat,n<=20/\ae7 [dI ns]=some (.int n):=by
 have b:=iE (a:=cl ns 2) (p:=10007) (m:=21) (by decide);have h1:e2 F5 (e2 oDiv (e2 g7 (e1 gH (aj 0)) (eC (.int 3))) (eC (.int 3))) (cI zI (au (cI zR (au (aj 0) (au (eC (.int 2)) aB))) (au (eC (.int 10007)) (au (eC (.int 21)) aB)))) [sS (dI ns),none]=sW (.int (if mx (cl ns 2) 10007 21 > ((ns.length:Int)-3) / 3 then mx (cl ns 2) 10007 21 else((ns.length:Int)-3) / 3)):=
  aF (aF (aF (cE rfl (by show some (D.int (ns.map D.int).length)=_;rw[List.length_map])) rfl rfl) rfl (Qd (by decide) (by decide))) (ig (Ln rfl rfl) (by decide) rfl (by decide)) rfl
 generalize ez:(if mx (cl ns 2) 10007 21 > ((ns.length:Int)-3) / 3 then mx (cl ns 2) 10007 21 else((ns.length:Int)-3) / 3)=z at h1;have hz:0<=z:=by
  split at ez<;>lia
 refine#[(if z<20 then z else 20).toNat,by split<;>lia,bg rfl (cP h1 (cT (aF rfl rfl ?_)))];show some (D.int (if z<20 then z else 20))=_;rw[show(((if z<20 then z else 20).toNat:Nat):Int)=if z<20 then z else 20 by split<;>lia]
def A9(h:f Y=some (d,t))(hi:aE d=true):h_ f Y=some (.rt d):=by
 unfold h_;rw[h];dsimp only;rw[hi];cases kq t<;>rfl
def Yv{k:Nat}(hk:k<=20):∃a b c:Int,aha [dI ns,.int k]=some (.tup [.int a,.int b,.int c]):=by
 have t:tV (e2 oLt (e2 iz (e2 lu (eC (.int 3)) (aj 1)) (eC (.int 5))) (e1 gH (aj 0))) [sS (dI ns),sS (.int k),none]=some (decide ((3*k+5:Int)<ns.length)):=bA (aF (aF (aF rfl rfl (mC (tK (by decide)))) rfl rfl) (cE rfl (by show some (D.int (ns.map D.int).length)=_;rw[List.length_map])) rfl)
 by_cases h:(3*k+5:Int)<ns.length
 .have ix:∀j:Nat,j<=5->e2 bU (aj 0) (e2 iz (e2 lu (eC (.int 3)) (aj 1)) (eC (.int j))) [sS (dI ns),sS (.int k),none]=sW (.int (ns.getD (3*(k:Int)+j).toNat 0)):=λj hj=>
   aF rfl (aF (aF rfl rfl (mC (tK (by decide)))) rfl rfl) (Rl (Lg (by lia) (by lia)) rfl)
  apply#[_,_,_,bg rfl (jO (t.trans (by rw[aas h])) (cT (l6 (bX (ix 3 (by decide)) (bX (ix 4 (by decide)) (bX (ix 5 (by decide)) (show aB _=some [] from rfl)))))))]
 .have e1:e2 iz (cI zR (au (aj 0) (au (e2 oMod (aj 1) (eC (.int 5))) aB))) (e2 lu (e2 lu (eC (.int 7919)) (aj 1)) (aj 1)) [sS (dI ns),sS (.int k),none]=sW (.int (cl ns (k % 5)+7919*k*k)):=
   aF (Ln rfl (aF rfl rfl (uT (by decide)))) (aF (aF rfl rfl (mC (tK (by decide)))) rfl (mC (CC (by lia)))) rfl
  generalize cl ns (k % 5)+7919*k*k=s at e1;have m1:e2 lu (eC (.int 31)) (aj 1) [sS (dI ns),sS (.int k),sW (.int s)]=sW (.int (31*k)):=aF rfl rfl (mC (tK (by decide)));have m2:e2 lu (e2 lu (eC (.int 77)) (aj 1)) (aj 1) [sS (dI ns),sS (.int k),sW (.int s)]=sW (.int (77*k*k)):=aF (aF rfl rfl (mC (tK (by decide)))) rfl (mC (CC (by lia)));apply#[_,_,_,bg rfl (bV (t.trans (by rw[aaR h])) (cP e1 (A9 (l6 (bX (p:=(.int s,.sh [2])) rfl (bX (aF rfl m1 rfl) (bX (aF rfl m2 rfl) (show aB _=some [] from rfl))))) rfl)))]
def Xj:∃w h n t:Int,adx [dI ns]=some (.tup [.int w,.int h,.int n,.int t])/\(1<=w/\w<=16)/\(1<=h/\h<=8)/\1<=n/\n<=t/\t<=20:=by
 generalize ea:cl ns 0=a;generalize eb:cl ns 1=b;obtain⟨x,hx,x1,x2⟩:∃x,bU (.lst [.int 4,.int 4,.int 4,.int 16]) (.int (mx a 65537 4))=some (.int x)/\1<=x/\x<=16:=by
  have h:=iE (a:=a) (p:=65537) (m:=4) (by decide);generalize mx a 65537 4=j at h;obtain rfl|rfl|rfl|rfl:j=0\/j=1\/j=2\/j=3:=by lia
  .exact#[4,rfl,by decide,by decide]
  .exact#[4,rfl,by decide,by decide]
  .exact#[4,rfl,by decide,by decide]
  .exact#[16,rfl,by decide,by decide]
 obtain⟨y,hy,y1,y2⟩:∃x,bU (.lst [.int 1,.int 2,.int 8]) (.int (mx b 65537 3))=some (.int x)/\1<=x/\x<=8:=by
  have h:=iE (a:=b) (p:=65537) (m:=3) (by decide);generalize mx b 65537 3=j at h;obtain rfl|rfl|rfl:j=0\/j=1\/j=2:=by lia
  .exact#[1,rfl,by decide,by decide]
  .exact#[2,rfl,by decide,by decide]
  .exact#[8,rfl,by decide,by decide]
 obtain⟨z,hz,z1,z2⟩:∃x,bU (.lst [.int 1,.int 1,.int 3]) (.int (mx b 60013 3))=some (.int x)/\1<=x/\x<=3:=by
  have h:=iE (a:=b) (p:=60013) (m:=3) (by decide);generalize mx b 60013 3=j at h;obtain rfl|rfl|rfl:j=0\/j=1\/j=2:=by lia
  .exact#[1,rfl,by decide,by decide]
  .exact#[1,rfl,by decide,by decide]
  .exact#[3,rfl,by decide,by decide]
 have bw:=iE (a:=a) (p:=99991) (m:=x) (by lia);have bh:=iE (a:=a) (p:=90001) (m:=y) (by lia);have bn:=iE (a:=b) (p:=70001) (m:=z) (by lia);have bt:=iE (a:=b) (p:=80021) (m:=6) (by lia);refine#[1 + mx a 99991 x,1 + mx a 90001 y,1 + mx b 70001 z,1 + mx b 70001 z + mx b 80021 6,?_,by lia,by lia,by lia,by lia,by lia];refine bg rfl (sq (by rw[pB,bZ rfl (JS),ea];rfl) (sq (Y':=[sS (dI ns),sW (.int a),sW (.int b),none,none,none]) (by rw[pB,bZ rfl (JS (k:=1)),eb];rfl)
  (cP (aF rfl (ig rfl (by decide) (aF (d1:=.lst [.int 4,.int 4,.int 4,.int 16]) rfl (ig rfl (by decide) rfl (by decide)) hx) (by lia)) rfl)
  (cP (aF rfl (ig rfl (by decide) (aF (d1:=.lst [.int 1,.int 2,.int 8]) rfl (ig rfl (by decide) rfl (by decide)) hy) (by lia)) rfl)
  (cP (aF rfl (ig rfl (by decide) (aF (d1:=.lst [.int 1,.int 1,.int 3]) rfl (ig rfl (by decide) rfl (by decide)) hz) (by lia)) rfl)
  (A9 (l6 (bX (p:=(.int (1+mx a 99991 x),.sh [3])) rfl (bX (p:=(.int (1+mx a 90001 y),.sh [4])) rfl (bX (p:=(.int (1+mx b 70001 z),.sh [5])) rfl (bX (aF rfl (ig rfl (by decide) rfl (by decide)) rfl) (show aB _=some [] from rfl)))))) rfl))))))
abbrev Nn:=List (Int×Int×Int)
def jS(p:Int×Int):D:=.tup [.int p.1,.int p.2]
def dN(N:Nn):D:=.b_ (N.map λp=>((Sum.inl p.1:Key),jS p.2))
def rN(c:Int)(N:Nn)(s2 s3 s4:Slot):aR:=[sS (.int c),sW (dN N),s2,s3,s4]
def ZU(N:Nn):aQ ((N.map λp=>((Sum.inl p.1:Key),jS p.2)).map (·.2))=true:=sU.mpr λd m=>by
 rw[adz] at m;let#[q,_,rfl]:=abn.mp m;rfl
theorem Vf:∀N:Nn,jB (N.map λp=>((Sum.inl p.1:Key),jS p.2))=some (N.map (·.1))
 |[]=>rfl
 |q::r=>by
  rw[aar];show(jB (r.map λp=>((Sum.inl p.1:Key),jS p.2))).map _=_;rw[Vf r];rfl
def MB{N:Nn}(hk:fk (rN c N s2 s3 s4)=some (.int x,t))(hv:fv (rN c N s2 s3 s4)=some (jS (a,b),t2))(hl:N.length<=100):∃yQ uq AR,ly 1 fk fv (rN c N s2 s3 s4)=some (.nx (rN c (gp N x (a,b)) yQ uq AR)):=by
  have key:ly 1 fk fv (rN c N s2 s3 s4)=some (.nx (cz (rN c N s2 s3 s4) 1 (dN (gp N x (a,b))))):=by
   unfold ly;rw[hv,hk];show(if(aE (jS (a,b))&&aQ ((N.map λp=>((Sum.inl p.1:Key),jS p.2)).map (·.2))&&decide ((N.map λp=>((Sum.inl p.1:Key),jS p.2)).length<sizeLine))=true then some (Out.nx (cz _ 1 (.b_ (putD (N.map λp=>((Sum.inl p.1:Key),jS p.2)) (Sum.inl x:Key) (jS (a,b)))))) else none)=_;rw[if_pos (by rw[ZU,List.length_map,aas (size_le (by lia))];rfl),Rr (φ:=(Sum.inl:Int->Key)) (ψ:=jS) λa b=>ajH];rfl
  apply#[_,_,_,key]
structure Nk(j:Nat)(N:Nn):Prop where
 nd:(N.map (·.1)).Nodup
 ok:∀q∈N,lD q=true
 ln:N.length<=j
def Nk.put(h:Nk j N)(e:lD (x,p)=true):Nk (j+1) (gp N x p):=#[Bs h.nd,λq m=>(KS m).elim (h.ok q) λz=>by rw[z];apply e,aeC Qq (by have:=h.ln;lia)]
def QC(h1:0<=s/\s<=999)(h2:0<=o/\o<=1000000000)(h3:0<=n/\n<=1000000000)(d:o≠n):lD (s,o,n)=true:=by
 unfold lD inR;rw[aas h1.1,aas h1.2,aas h2.1,aas h2.2,aas h3.1,aas h3.2,show(o==n)=false from by simpa using d];rfl
def M_{Y:aR}{sf:SF}{N:Nn}{n:Nat}(h:∃s2 s3 s4,sf Y=some (.nx (rN c N s2 s3 s4)))(hl:Nk n N):Wq (λr=>∃aY,r=.nx aY/\∃N s2 s3 s4,aY=rN c N s2 s3 s4/\Nk n N) (sf Y):=
 let#[_,_,_,e]:=h
 #[_,e,_,rfl,_,_,_,_,rfl,hl]
def SQ{N:Nn}(m:s∈N.map (·.1)):∃p,gv N s=some p/\(s,p)∈N:=by
 unfold gv;let#[q,mq,e]:=abn.mp m;cases h:N.find? λkv=>decide (kv.1=s) with
 |none=>apply absurd (aas e) (ahR.mp h q mq)
 |some z=>
  have h1:=aau (ajg (p:=λkv:Int×Int×Int=>decide (kv.1=s)) h);apply#[z.2,rfl,h1 ▸ afY h]
structure Eg(E:List Ed):Prop where
 inc:(E.map (·.1)).Pairwise (· < ·)
 ok:∀p∈E,lD p=true
 few:E.length<=3
def Wu:∃d,Qv [.int c]=some d/\∃E:List Ed,d=eL E/\Eg E:=by
 have bn:=iE (a:=c) (p:=60013) (m:=4) (by decide);obtain⟨n,hn⟩:∃n:Nat,mx c 60013 4=n:=#[(mx c 60013 4).toNat,by lia]
 refine J_ rfl (k8 rfl (oq (rN c [] none none none) ?_));refine ag5 (λj Y=>∃N s2 s3 s4,Y=rN c N s2 s3 s4/\Nk j N) (Nj (hn ▸ ig rfl (by decide) rfl (by decide)) (by lia)) #[[],_,_,_,rfl,.nil,(λq m=>nomatch m),abi _] (λj Y hj #[N,s2,s3,s4,e,nk]=>?_) λY ⟨N,s2,s3,s4,e,nk⟩=>?_
 .subst e;rw[Int.zero_add];have hj:j<4:=by lia
  have q:∀(a:Int) s3 s4,-(2 ^ 64)<a/\a<2 ^ 64->e2 iz (aj 0) (e2 lu (e2 lu (eC (.int a)) (aj 2)) (aj 2)) (rN c N (sS (.int j)) s3 s4)=sW (.int (c+a*j*j)):=λa s3 s4 ha=>aF rfl (aF (aF rfl rfl (mC (tK ha))) rfl (mC (CC (by lia)))) rfl
  refine#[rN c N (sS (.int j)) s3 s4,rfl,Dv (bA (aF (ig rfl (by decide) rfl (by decide)) rfl Ay)) (λ_=>?_) λ_=>?_]
  .have bo:=iE (a:=c+3*j*j) (p:=40009) (m:=3) (by decide);refine k8 (ig (q 3 _ _ (by decide)) (by decide) rfl (by decide)) ?_;generalize mx (c+3*j*j) 40009 3=o at bo;refine oq (rN c N (sS (.int j)) (sW (.int o)) s4) ?_;have bz:=iE (a:=c+5*j*j) (p:=50021) (m:=2) (by decide);refine k8 (aF (aF (aF rfl rfl rfl) (ig (q 5 _ _ (by decide)) (by decide) rfl (by decide)) rfl) rfl (uT (by decide))) ?_;generalize ez:(o+1+mx (c+5*j*j) 50021 2) % 3=z;refine oq (rN c N (sS (.int j)) (sW (.int o)) (sW (.int z))) ?_;have bs:=iE (a:=c+7*j*j) (p:=131071) (m:=6) (by decide);apply M_ (MB (ig (q 7 _ _ (by decide)) (by decide) rfl (by decide)) (l6 (bX (p:=(.int o,.sh [3])) rfl (bX (p:=(.int z,.sh [4])) rfl (show aB _=some [] from rfl)))) (by have:=nk.ln;lia)) (nk.put (QC (by lia) (by lia) (by lia) (by lia)))
  .have bs:=iE (a:=c+7*j*j) (p:=131071) (m:=1000) (by decide);have bv:=Int.emod_nonneg (c+j) (show(10 ^ 9:Int)≠0 by decide);have bv2:=Int.emod_lt_of_pos (c+j) (show(0:Int)<10 ^ 9 by decide);apply M_ (MB (ig (q 7 _ _ (by decide)) (by decide) rfl (by decide)) (l6 (bX (p:=(.int 0,.own)) rfl (bX (aF rfl (aF (aF rfl rfl rfl) (aF rfl rfl rfl) (uT (by decide))) rfl) (show aB _=some [] from rfl)))) (by have:=nk.ln;lia)) (nk.put (QC (by lia) (by decide) (by lia) (by lia)))
 .subst e;have nl:=nk.ln;have hs:e1 mH (aj 1) (rN c N s2 s3 s4)=sW (iL (eK (N.map (·.1)))):=cE rfl (by
   show(match jB (N.map λp=>((Sum.inl p.1:Key),jS p.2)) with|some ns=>if ns.length<64 then some (D.lst ((eK ns).map D.int)) else none|none=>none)=_;rw[Vf];dsimp only;rw[if_pos (by rw[List.length_map];lia)];rfl)
  let fx:Int->Ed:=λx=>(x,((gv N x).getD (0,0)).1,((gv N x).getD (0,0)).2)
  have hc:=kG (js:=[none,some 1]) (g:=gN 0) (tt:=oN) (te:=gZ (au (aj 0) (au (e2 bU (e2 kc (aj 1) (aj 0)) (eC (.int 0))) (au (e2 bU (e2 kc (aj 1) (aj 0)) (eC (.int 1))) aB)))) (k:=λd=>match d with | .int x=>some (dT (fx x)) | _=>none) (iO hs) (by rw[List.length_map,A3,List.length_map];apply size_le (by lia)) (λd m=>by
   let#[x,mx,rfl]:=abn.mp m;let#[p,h1,_]:=SQ (vj.mp mx);have hg:e2 kc (aj 1) (aj 0) [sS (.int x),sS (dN N)]=sW (jS p):=aF rfl rfl (by
    show(bB (N.map λp=>((Sum.inl p.1:Key),jS p.2)) (Sum.inl x:Key)).bind _=_;rw[Fb (φ:=(Sum.inl:Int->Key)) (ψ:=jS) λa b=>ajH,h1];rfl)
   refine tO rfl rfl (l6 (bX (p:=(.int x,.sh [])) rfl (bX (aF hg rfl rfl) (bX (aF hg rfl rfl) (show aB _=some [] from rfl))))) rfl |>.trans ?_
   show _=some (some (dT (x,((gv N x).getD (0,0)).1,((gv N x).getD (0,0)).2)));rw[h1];rfl)
  rw[agR,show((eK (N.map (·.1))).filterMap ((λd=>match d with|D.int x=>some (dT (fx x))|_=>none) ∘ D.int))=(eK (N.map (·.1))).map (λx=>dT (fx x)) from mX _ _] at hc;refine#[_,cT hc,_,rfl,(eK (N.map (·.1))).map fx,by unfold eL;rw[adz];rfl,?_,λp m=>?_,by rw[List.length_map,A3,List.length_map];lia]
  .rw[adz,show((λp:Ed=>p.1) ∘ fx)=id from rfl,List.map_id];apply Y5 nk.nd
  .let#[x,mx,rfl]:=abn.mp m;let#[p,h1,h2]:=SQ (vj.mp mx);show lD (x,((gv N x).getD (0,0)).1,((gv N x).getD (0,0)).2)=true;rw[h1];apply nk.ok _ h2
def rR(g:G)(m:Nat)(a b c:Int)(s5 s6 s7 s8:Slot):aR:=[sS (gD g),sS (.int m),sS (.int a),sS (.int b),sS (.int c),s5,s6,s7,s8]
inductive Rw
 |ask (q:Int) (l:List Int) (E:List Ed)
 |oO (x:Int)
 |qy (L:List Int) (w:Str)
 |stop
 |go
def rD:Rw->D
 |.ask q l E=>.tup [.str "ask",.int q,.c_ (l.map D.int),.c_ (E.map dT)]
 |.oO x=>.tup [.str "withdraw",.int x]
 |.qy L w=>.tup [.str "answer",tD L,.str w]
 |.stop=>.tup [.str "stop"]
 |.go=>.tup [.str "go"]
def GoodR(n:Nat):Rw->Prop
 |.ask q l E=>nu n q l E=true/\l.length<=60/\E.length<=3
 |.oO x=>x.natAbs<2 ^ 64
 |_=>True
def agH{n:Nat}(hq:0<=q/\q<=9)(hl:l.Pairwise (· < ·))(hb:∀x∈l,1<=x/\x<=(n:Int))(hE:Eg E):nu n q l E=true:=by
 have he:=hE.few;unfold nu vL inR;rw[aas hq.1,aas hq.2,J8 hl,J8 hE.inc,adR.mpr hE.ok,aas (show(E.length:Int)<=20 by lia),adR.mpr (λx mx=>by rw[aas (hb x mx).1,aas (hb x mx).2];rfl)];rfl
def ahX{L:List (List Int)}{v:Int}(h:0<=v/\v<L.length):∃l∈L,bU (.lst (dO L)) (.int v)=some (tD l):=by
 have cY:v.toNat<L.length:=by lia
 refine#[L[v.toNat],List.getElem_mem cY,wD ?_ (dY _)];unfold fC lB dO;rw[List.length_map,if_pos (by lia),if_pos (by lia),abR,abV,aa8 cY];rfl
def aeX(l:List Int):∃k:List Int,nG none (some 3) (iL l)=some (iL k)/\k.Sublist l:=by
 refine#[(l.drop (HT.gA l.length 0 none)).take (HT.gA l.length l.length (some 3)-HT.gA l.length 0 none),?_,?_]
 .show(if aQ (l.map D.int)=true then some (D.lst (cutD (l.map D.int) none (some 3))) else none)=_;rw[if_pos (dY _)];unfold cutD iL;rw[List.map_take,List.map_drop,List.length_map]
 .exact(List.take_sublist _ _).trans (List.drop_sublist _ _)
def ahZ(L:List (List Int)):jP (.lst (dO L)) (.lst [])=some (.bl (!decide (L=[]))):=by
 unfold jP;rw[(NY L).lay (by decide),show dz (.lst [])=true from rfl,ag3,if_pos rfl];ext L<;>rfl
def UJ(h:f Y=sW (.lst ds))(hi:aQ ds=true):A2 f Y=sW (.c_ ds):=by
 unfold A2;rw[h];apply if_pos hi
def acV{m:Nat}(hm:m<=20):∃d,acg [gD g,.int m,.int a,.int b,.int c]=some d/\∃r,d=rD r/\GoodR m r/\(m=0->∃q l E,r=.ask q l E):=by
 have bk:=iE (a:=a) (p:=10007) (m:=13) (by decide);refine J_ rfl (k8 (ig rfl (by decide) rfl (by decide)) ?_);generalize mx a 10007 13=k at bk;refine k8 (eE rfl Oa) (oq (rR g m a b c (some (.int k,.own)) (some (.lst (dO g.lk),.own)) none none) ?_);refine D_ (qt (bA (aF rfl rfl Ay)) (bA (aF rfl rfl AI))) (λ_=>?_) λh0=>?_
 .
  have hi:pW (eC (.int 1)) (e2 iz (aj 1) (eC (.int 1))) (rR g m a b c (some (.int k,.own)) (some (.lst (dO g.lk),.own)) none none)=some ((cN 1 m).map D.int,.own):=by
   rw[yq rfl (aF rfl rfl rfl) (m6 (by lia) (by lia)) (m6 (by lia) (by lia)),show((m:Int)+1-1).toNat=m by lia]
  have hc:=qd (js:=[none,some 3]) (tt:=tV (e2 oEq (cI zI (au (e2 iz (aj 1) (e2 lu (aj 0) (aj 0))) (au (eC (.int 50021)) (au (eC (.int 4)) aB)))) (eC (.int 0)))) hi (by rw[nR];lia) (λx=>rfl) (λx mxm=>by
   have:=jT.mp mxm;apply bA (aF (ig (aF rfl (aF rfl rfl (mC (tK (by lia)))) rfl) (by decide) rfl (by decide)) rfl Ay))
  have hl:((cN 1 m).filter λx=>mx (b+x*x) 50021 4==0).Sublist (cN 1 m):=afv;generalize(cN 1 m).filter (λx=>mx (b+x*x) 50021 4==0)=l at hc hl;let#[l3,Hy,ll]:=aeX l;have sl:=ll.trans hl;have le:=sl.length_le;rw[nR] at le;refine Fk (k8 (UJ (cE hc Hy) (dY l3)) (oq (rR g m a b c (some (.int k,.own)) (some (.lst (dO g.lk),.own)) (some (.c_ (l3.map D.int),.own)) none) ?_))
  .let#[_,e,E,rfl,hE]:=Wu;have bq:=iE (a:=b) (p:=40009) (m:=10) (by decide);have eF:∀{Y},aj 4 Y=some (.int c,.sh [])->A2 (cI Qv (au (aj 4) aB)) Y=some (.c_ (E.map dT),.own):=λ{Y} h=>UJ (bZ (ps:=[(.int c,.sh [])]) (by rw[bG,h];rfl) e) (o9 E)
   refine#[_,A9 (l6 (bX rfl (bX (ig rfl (by decide) rfl (by decide)) (bX rfl (bX (eF rfl) (show aB _=some [] from rfl)))))) ?_,_,rfl,_,rfl,.ask (mx b 40009 10) l3 E,rfl,#[agH (by lia) ((G_ 1 m).sublist sl) (λx mx=>by have:=jT.mp (sl.subset mx);lia) hE,by lia,hE.few],λ_=>#[_,_,_,rfl]];show(true&&(true&&(aQ (l3.map D.int)&&(aQ (E.map dT)&&true))))=true;rw[dY,o9];rfl
 .have bo:=Bool.or_eq_false_iff.mp h0;have k5:=ajo bo.2;have m0:¬m=0:=λz=>by rw[z] at bo;apply absurd bo.1 (by decide)
  refine D_ (bA (aF rfl rfl AI)) (λ_=>Fk ?_) λh1=>?_
  .
   obtain⟨w,hw,ow⟩:∃w:Str,bU (.lst [.str "yes",.str "no",.str "unsure",.str "yes",.str "maybe",.str "yes",.str "no"]) (.int (mx c 20011 7))=some (.str w)/\PyData.strOk w=true:=by
    have h:=iE (a:=c) (p:=20011) (m:=7) (by decide);generalize mx c 20011 7=j at h;obtain rfl|rfl|rfl|rfl|rfl|rfl|rfl:j=0\/j=1\/j=2\/j=3\/j=4\/j=5\/j=6:=by lia
    all_goals apply#[_,rfl,by decide +kernel]
   have bl:=iE (a:=b) (p:=30011) (m:=(m:Int)+1) (by lia);have h8:D3 (au (eC (.int 1)) (au (e2 iz (eC (.int 1)) (cI zI (au (aj 3) (au (eC (.int 30011)) (au (e2 iz (aj 1) (eC (.int 1))) aB))))) aB)) (rR g m a b c (some (.int k,.own)) (some (.lst (dO g.lk),.own)) none none)=some (tD (cN 1 (mx b 30011 ((m:Int)+1)).toNat),.own):=by
    unfold D3;rw[bX rfl (bX (aF rfl (ig rfl (by decide) (aF rfl rfl rfl) (by lia)) rfl) (show aB _=some [] from rfl))];dsimp only;rw[if_pos (by lia),show(1+mx b 30011 ((m:Int)+1)-1).toNat=(mx b 30011 ((m:Int)+1)).toNat by lia];unfold tD cN;rw[adz];rfl
   refine k8 h8 (oq (rR g m a b c (some (.int k,.own)) (some (.lst (dO g.lk),.own)) none (some (tD (cN 1 (mx b 30011 ((m:Int)+1)).toNat),.own))) ?_);generalize cN 1 (mx b 30011 ((m:Int)+1)).toNat=L0;refine WX (I:=λY=>∃L,Y=rR g m a b c (some (.int k,.own)) (some (.lst (dO g.lk),.own)) none (some (tD L,.own))) (Dv (v_ (bA (aF rfl rfl AI)) (bA (aF rfl rfl (ahZ g.lk)))) (λh2=>?_) λ_=>#[_,rfl,_,rfl,_,rfl]) λY ⟨L,e⟩=>?_
   .have hn:=ajo (by simpa using((aav _ _).mp h2).2:decide (g.lk=[])=false);have hp:=List.length_pos_iff.mpr hn;have bj:=iE (a:=b) (p:=30011) (m:=(g.lk.length:Int)) (by lia);let#[L,_,hL]:=ahX bj;apply#[_,by rw[pB,aF (d:=tD L) rfl (ig rfl (by decide) (cE rfl Ny) (by lia)) hL];rfl,_,rfl,L,rfl]
   .subst e;apply#[_,A9 (l6 (bX (p:=(.str "answer",.own)) rfl (bX (p:=(tD L,.sh [8])) rfl (bX (aF (d1:=.lst [.str "yes",.str "no",.str "unsure",.str "yes",.str "maybe",.str "yes",.str "no"]) rfl (ig rfl (by decide) rfl (by decide)) hw) (show aB _=some [] from rfl))))) (by show(true&&(aQ (L.map D.int)&&(true&&true)))=true;rw[dY];rfl),_,rfl,_,rfl,.qy L w,rfl,trivial,λz=>absurd z m0]
  .have k10:=ajo h1;have bl:=iE (a:=b) (p:=30011) (m:=(m:Int)+2) (by lia);refine D_ (bA (aF rfl rfl Ay)) (λ_=>Fk ?_) λh2=>?_
   .refine#[_,cT (l6 (bX (p:=(.str "withdraw",.own)) rfl (bX (ig rfl (by decide) (aF rfl rfl rfl) (by lia)) (show aB _=some [] from rfl)))),_,rfl,_,rfl,.oO (mx b 30011 ((m:Int)+2)),rfl,(by show _<2 ^ 64;lia),λz=>absurd z m0]
   .have k11:k=11\/k=12:=by
     have:k≠10:=by simpa using h2
     lia
    have e:IY (iI (au (gZ (au (eC (.str "stop")) aB)) (au (gZ (au (eC (.str "go")) aB)) aB))) (e2 g7 (aj 5) (eC (.int 11))) (rR g m a b c (some (.int k,.own)) (some (.lst (dO g.lk),.own)) none none)=some (rD (if k=11 then .stop else .go),.own):=by
     rcases k11 with rfl|rfl<;>rfl
    apply#[_,cT e,_,rfl,_,rfl,by split<;>trivial,λz=>absurd z m0]
def zG{f h:SF}(e:f Y=some (.nx Y')):vK sub f h Y=some (.nx Y'):=by unfold vK;rw[e]
def FF{f h:SF}{c:XN}(e:f Y=some (.er false c Y'))(s:sub c.1=true)(e2:h Y'=some (.nx aY)):vK sub f h Y=some (.nx aY):=by
 unfold vK;rw[e];dsimp only;rw[if_pos s,e2]
def gC(g:G)(row:D)(b:Bool):aR:=[sW (gD g),sS row,sW (.bl b)]
def Qe{F:MF}{R:List D->Option Rz}(h:F d ds=some (r,d1))(hi:aE r=true):nj F R d ds=some (.ok r d1):=by
 unfold nj;rw[h];apply if_pos hi
def UY{F:MF}{R:List D->Option Rz}(h:F d ds=none/\R (d::ds)=some (.er c)):nj F R d ds=some (.er c d):=by
 unfold nj;rw[h.1];dsimp only;rw[h.2];rfl
def Vj{B:MR}{A:AF}{ps:List (D×Tag)}(hg:A (gC g row b)=some ps)(h:B (gD g) (ps.map (·.1))=some (.ok v (gD g3)))(hp:apart 0 ps=true:=by rfl)(hm:(gF g).lookup mm=none:=by rfl):tu (sA 0 "Gate" mm B A) (gC g row b)=some (.nx (gC g3 row b)):=by
 have:sA 0 "Gate" mm B A (gC g row b)=some (.ok v (gC g3 row b)):=by
  unfold sA;rw[show(gC g row b)[0]? = some (sW (gD g)) from rfl,hg];show(if("Gate":Str)="Gate"/\(gF g).lookup mm=none/\apart 0 ps=true then(match B (gD g) (ps.map (·.1)) with|some (.ok r d1)=>some (ER.ok r (cz (gC g row b) 0 d1))|some (.er en d1)=>some (.er en (cz (gC g row b) 0 d1))|none=>none) else none)=_;rw[if_pos #[rfl,hm,hp],h];rfl
 unfold tu;rw[this]
def Qm{B:MR}{A:AF}{ps:List (D×Tag)}(hg:A (gC g row b)=some ps)(h:B (gD g) (ps.map (·.1))=some (.er c (gD g)))(hp:apart 0 ps=true:=by rfl)(hm:(gF g).lookup mm=none:=by rfl):tu (sA 0 "Gate" mm B A) (gC g row b)=some (.er false c (gC g row b)):=by
 have:sA 0 "Gate" mm B A (gC g row b)=some (.er c (gC g row b)):=by
  unfold sA;rw[show(gC g row b)[0]? = some (sW (gD g)) from rfl,hg];show(if("Gate":Str)="Gate"/\(gF g).lookup mm=none/\apart 0 ps=true then(match B (gD g) (ps.map (·.1)) with|some (.ok r d1)=>some (ER.ok r (cz (gC g row b) 0 d1))|some (.er en d1)=>some (.er en (cz (gC g row b) 0 d1))|none=>none) else none)=_;rw[if_pos #[rfl,hm,hp],h];rfl
 unfold tu;rw[this]
def HD{F:MF}{A:AF}{ps:List (D×Tag)}(hg:A (gC g row b)=some ps)(h:F (gD g) (ps.map (·.1))=some (v,gD g3))(hp:apart 0 ps=true:=by rfl)(hm:(gF g).lookup mm=none:=by rfl):sZ (xO 0 "Gate" mm F A) (gC g row b)=some (.nx (gC g3 row b)):=by
 have:xO 0 "Gate" mm F A (gC g row b)=some (v,gC g3 row b):=by
  unfold xO;rw[show(gC g row b)[0]? = some (sW (gD g)) from rfl,hg];show(if("Gate":Str)="Gate"/\(gF g).lookup mm=none/\apart 0 ps=true then(F (gD g) (ps.map (·.1))).map _ else none)=_;rw[if_pos #[rfl,hm,hp],h];rfl
 unfold sZ;rw[this];rfl
def SY(h:aQ ds=true):zU (.c_ ds)=some (.lst ds):=if_pos h
def aan(q:Int)(l:List Int)(E:List Ed):au (e2 bU (aj 1) (eC (.int 1))) (au (e1 zU (e2 bU (aj 1) (eC (.int 2)))) (au (e1 zU (e2 bU (aj 1) (eC (.int 3)))) aB)) (gC g (rD (.ask q l E)) b)=some [(.int q,.own),(.lst (l.map D.int),.own),(.lst (E.map dT),.own)]:=
 bX (aF rfl rfl rfl) (bX (cE (aF rfl rfl (jn rfl (dY l))) (SY (dY l))) (bX (cE (aF rfl rfl (jn rfl (o9 E))) (SY (o9 E))) (show aB _=some [] from rfl)))
def N3(L:List Int)(w:Str):au (e2 bU (aj 1) (eC (.int 1))) (au (e2 bU (aj 1) (eC (.int 2))) aB) (gC g (rD (.qy L w)) b)=some [(tD L,.own),(.str w,.own)]:=
 bX (aF rfl rfl (jn rfl (dY L))) (bX (aF rfl rfl (jn rfl rfl)) (show aB _=some [] from rfl))
def XJ(C:List Ch)(b:Bool)(C':List Ch):Rw->Prop
 |.ask q l E=>b=true/\C'=C++[(q,l,E)]
 |_=>C'=C
def acD(k:Iv m g)(hm:m<=4000)(hC:g.C.length<20):∀r:Rw,GoodR g.C.length r->∃b g3,As (gD g) [rD r]=some (.bl b,gD g3)/\Iv (m+1) g3/\XJ g.C b g3.C r
 |.ask q l E,#[h1,h2,h3]=>by
  let#[g3,e,i,c]:=k.ask h2 h3 h1 hC;apply#[true,g3,iZ rfl (sq (nX rfl) (sq (ie (zG (jd rfl (HD (aan q l E) e)))) rfl)),i.up (ahv m),rfl,c]
 |.oO x,h1=>by
  have no:∀{cn:Str},v7 (gD g) [.int x]=none/\CB [gD g,.int x]=some (.er (cn,none))->Fe ["NoChange","TooLate","NoLook","NoAnswer"] cn=true->As (gD g) [rD (.oO x)]=some (.bl false,gD g):=λh s=>
   iZ rfl (sq (nX rfl) (sq (ie (FF (ji rfl (jd rfl (Qm rfl (UY h)))) s rfl)) rfl))
  cases h:inR x 1 g.C.length with
  |false=>apply#[false,g,no (aem h h1) (by decide +kernel),k.up (ahv m),rfl]
  |true=>
   cases h2:decide (x∈g.ln)||kh g x with
   |true=>apply#[false,g,no (aaT h h2 h1) (by decide +kernel),k.up (ahv m),rfl]
   |false=>
    let#[a,b]:=(aav _ _).mp h;let#[c,d]:=Bool.or_eq_false_iff.mp h2;let#[g3,e,i,ec]:=k.oO #[aau a,aau b] (ajo c) d;apply#[true,g3,iZ rfl (sq (nX rfl) (sq (ie (zG (ji rfl (jd rfl (Vj rfl (Qe e rfl)))))) rfl)),i.up (ahv m),ec]
 |.qy L w,_=>by
  have no:∀{cn:Str},v9 (gD g) [tD L,.str w]=none/\Be [gD g,tD L,.str w]=some (.er (cn,none))->Fe ["NoChange","TooLate","NoLook","NoAnswer"] cn=true->As (gD g) [rD (.qy L w)]=some (.bl false,gD g):=λh s=>
   iZ rfl (sq (nX rfl) (sq (ie (FF (ji rfl (ji rfl (jd rfl (Qm (N3 L w) (UY h))))) s rfl)) rfl))
  by_cases hL:L∈g.lk
  .let#[p,p1,p2,eL]:=k.lk L hL;have nL:L≠[]:=λe=>by
    have:=NI p2;rw[<- eL,e] at this;simp at this
    lia
   cases h:B6 g.n g.t (hd g.ta L) w with
   |false=>apply#[false,g,no (aiQ hL nL k.gd h) (by decide +kernel),k.up (ahv m),rfl]
   |true=>
    let#[a,b]:=(aav _ _).mp h;let#[x,mx,ex]:=aeJ.mp a;have ex:x=w:=by simpa using ex
    subst ex;let#[g3,e,i,ec]:=k.qy hL mx (by simpa using b) hm;apply#[true,g3,iZ rfl (sq (nX rfl) (sq (ie (zG (ji rfl (ji rfl (jd rfl (Vj (N3 L x) (Qe e rfl))))))) rfl)),i,ec]
  .exact#[false,g,no (X8 hL) (by decide +kernel),k.up (ahv m),rfl]
 |.stop,_=>by
  let#[g3,e,i,ec]:=k.stop;apply#[true,g3,iZ rfl (sq (nX rfl) (sq (ie (zG (ji rfl (ji rfl (ji rfl (jd rfl (HD rfl e))))))) rfl)),i.up (ahv m),ec]
 |.go,_=>by
  let#[g3,e,i,ec]:=k.go;apply#[true,g3,iZ rfl (sq (nX rfl) (sq (ie (zG (ji rfl (ji rfl (ji rfl (ji rfl (HD rfl e))))))) rfl)),i.up (ahv m),ec]
def aD(c:Ch):D:=.tup [.int c.1,.c_ (c.2.1.map D.int),.c_ (c.2.2.map dT)]
def aL(C:List Ch):D:=.lst (C.map aD)
def IU(c:Ch):aE (aD c)=true:=by
 show(true&&(aQ (c.2.1.map D.int)&&(aQ (c.2.2.map dT)&&true)))=true;rw[dY,o9];rfl
def aaa(C:List Ch):aQ (C.map aD)=true:=sU.mpr λd m=>by
 let#[c,_,rfl]:=abn.mp m;apply IU c
def Al{C:List Ch}(h:f Y=some (aL C,t))(h2:f2 Y=some (.int x,t2))(h3:1<=x/\x<=(C.length:Int)):e2 bU f (e2 g7 f2 (eC (.int 1))) Y=sW (aD (ch C x)):=
 aF h (aF h2 rfl rfl) (wD (by
  unfold fC lB;rw[List.length_map,if_pos (by lia),if_pos (by lia),abR,abV,Pr h3.1 h3.2];rfl) (IU _))
def Vx{C:List Ch}(h:f Y=some (aD (ch C x),t)):e2 bU f (eC (.int 2)) Y=sW (.c_ ((b8 C x).map dT)):=aF h rfl (jn rfl (o9 _))
def aeO{C:List Ch}(h:f Y=some (aD (ch C x),t))(h3:1<=x/\x<=(C.length:Int)):e2 bU f (eC (.int 1)) Y=sW (.c_ ((lean (sec C) x).map D.int)):=by
 rw[<- oj h3.1 h3.2];apply aF h rfl (jn rfl (dY _))
def nh(C:List Ch)(row:List Int)(v:iY):iY:=row.foldl (λv x=>gz v (b8 C x)) v
theorem Ql:∀{row:List Int}{v v':iY},fJ v (fQ C row)=some v'->v'=nh C row v
 |[],v,v',h=>by ext h;rfl
 |x::r,v,v',h=>by
  have h:(if bad v (b8 C x)=[] then fJ (gz v (b8 C x)) (fQ C r) else none)=some v':=h
  by_cases hb:bad v (b8 C x)=[]
  .rw[if_pos hb] at h;apply Ql (row:=r) h
  .rw[aa0 hb] at h;ext h
def rU(A:D)(row:D)(E:D)(v:iY)(s4 s5 s6 s7:Slot):aR:=[sS A,sS row,sS E,sW (cZ v),s4,s5,s6,s7]
abbrev AK:GF:=gT (dD (gN 5) (dD (gN 6) (dD (gN 7) kJ)))
abbrev Xi:SF:=jl (fV (e2 bU (e2 bU (aj 0) (e2 g7 (aj 4) (eC (.int 1)))) (eC (.int 2)))) AK (ly 3 (aj 5) (aj 7))
theorem Ss{C:List Ch}(hE:∀x,(b8 C x).length<=20):∀{row:List Int}{v:iY} {s4 s5 s6 s7},Row C row->v.length+20*row.length<4000->∃AR Fx zH uW,cU (gN 4) (.sh []) Xi (row.map D.int) (rU (aL C) R E v s4 s5 s6 s7)=some (.nx (rU (aL C) R E (nh C row v) AR Fx zH uW))
 |[],v,s4,s5,s6,s7,_,_=>#[s4,s5,s6,s7,rfl]
 |x::row,v,s4,s5,s6,s7,hr,hl=>by
  rw[abZ] at hl;have he:=hE x;let#[t5,t6,t7,lp]:=A8 (g:=AK) (f:=ly 3 (aj 5) (aj 7)) (λv x' y z=>rU (aL C) R E v (sS (.int x)) x' y z) (λ_ _ _ _ _=>rfl) (λv p h=>Ky rfl rfl rfl h) (E:=b8 C x) (v:=v) (by lia);have hp:=M1 (b8 C x) v;let#[a4,a5,a6,a7,ih]:=Ss hE (v:=gz v (b8 C x)) (λy m=>hr y (aaf _ m)) (by lia);refine#[a4,a5,a6,a7,(lC rfl (wJ (yT (Vx (Al rfl rfl (hr x aah)))) lp)).trans ih]
theorem P4{A R E0:D}{v:iY}{s4}:∀{E:List Ed} {s5 s6 s7},(∃Fx zH uW,bad v E=[]/\cU AK (.sh []) (dg (tV (e2 jA (e3 mZ (aj 3) (aj 5) (eC (.int 0))) (aj 6))) (nJ 5) eS) (E.map dT) (rU A R E0 v s4 s5 s6 s7)=some (.nx (rU A R E0 v s4 Fx zH uW)))\/∃s r,bad v E=s::r/\cU AK (.sh []) (dg (tV (e2 jA (e3 mZ (aj 3) (aj 5) (eC (.int 0))) (aj 6))) (nJ 5) eS) (E.map dT) (rU A R E0 v s4 s5 s6 s7)=some (.rt (.int s))
 |[],s5,s6,s7=>.inl #[s5,s6,s7,rfl,rfl]
 |(a,b,c)::E,s5,s6,s7=>by
  have ht:(tV (e2 jA (e3 mZ (aj 3) (aj 5) (eC (.int 0))) (aj 6))) (rU A R E0 v s4 (sW (.int a)) (sW (.int b)) (sW (.int c)))=some (nA v (a,b,c)):=by
   rw[wg,kj,PY];show Ev.kV (k2 jA ((mZ (cZ v) (.int a) (.int 0)).map _) _)=_;rw[P7];rfl
  cases hw:nA v (a,b,c) with
  |true=>
   rw[hw] at ht;refine .inr #[a,bad v E,by unfold bad;rw[agD hw];rfl,?_];apply HB rfl (jd ht rfl)
  |false=>
   rw[hw] at ht;have e:bad v ((a,b,c)::E)=bad v E:=by unfold bad;rw[agE (by rw[hw];apply aaH)]
   have st:=lC (g:=AK) (t:=.sh []) (f:=dg (tV (e2 jA (e3 mZ (aj 3) (aj 5) (eC (.int 0))) (aj 6))) (nJ 5) eS) (ds:=E.map dT) (d:=dT (a,b,c)) (Y:=rU A R E0 v s4 s5 s6 s7) rfl (ji ht rfl);rw[aar,st,e];apply P4
def N7{C:List Ch}(hE:∀x,(b8 C x).length<=20)(hr:Row C row)(hl:row.length<=100):vW [aL C,iL row,.c_ (E.map dT)]=some (nV (bad (nh C row []) E)):=by
 let#[a4,a5,a6,a7,l1]:=Ss hE (v:=[]) hr (by show 0+_<_;lia);refine bg rfl (cP rfl (sq (wA (iO rfl) l1) ?_));rcases P4 with⟨b5,b6,b7,e,l2⟩|⟨s,r,e,l2⟩
 .rw[e];apply sq (wA (yT rfl) l2) rfl
 .rw[e];apply iF (Vu (yT rfl) l2)
def rH(C:List Ch)(there wt:List Int)(x c:Int)(s6 s7 s8 s9 eO:Slot):aR:=[sS (aL C),sS (iL there),sS (iL wt),sS (.int x),sW (.int c),sW (aD (ch C x)),s6,s7,s8,s9,eO]
def bH:SF:=bN (ux (e2 bU (aj 0) (e2 g7 (aj 6) (eC (.int 1)))) (gT (dD (gN 7) (dD (gN 8) (dD (gN 9) kJ))))) (bN (dG 10 (qV (e2 mR (gK [none,some 1] (fV (aj 8)) (gN 0) (tV (e2 (fW true) (aj 0) (aj 1))) (aj 0)) (iI aB)) (e2 iV (cI vW (au (aj 0) (au (aj 1) (au (aj 9) aB)))) (eC .aJ)))) (dg (jr (tV (aj 10)) (lY (tV (e2 tW (aj 7) (e2 bU (aj 5) (eC (.int 0))))) (jr (tV (e2 oEq (aj 7) (e2 bU (aj 5) (eC (.int 0))))) (tV (e2 oLt (aj 6) (aj 3)))))) (dG 4 (e2 iz (aj 4) (eC (.int 1)))) eS))
def lV(C:List Ch)(there:List Int)(v:iY)(x y:Int):Bool:=(f7 C there y&&eW C v y)&&lex (pr C y) (pr C x)
def O8{C:List Ch}:decide ((lean (sec C) y).filter (λz=>!decide (z∈there))=[])=f7 C there y:=by
 unfold f7;rw[aim,agC,List.filter_eq_nil_iff,adR];apply forall_congr' λz=>forall_congr' λ_=>by simp
def gT3(ha:aE a=true)(hb:aE b=true)(hc:aE c=true):gT (dD (gN i) (dD (gN j) (dD (gN k) kJ))) (.tup [a,b,c]) t Y=some (g_ (g_ (g_ Y i a .own) j b .own) k c .own):=by
 show(if aE a=true then(some (g_ Y i a .own)).bind λY'=>(if aE b=true then(some (g_ Y' j b .own)).bind λY'=>(if aE c=true then(some (g_ Y' k c .own)).bind λY'=>some Y' else none) else none) else none)=_;rw[if_pos ha,abR,if_pos hb,abR,if_pos hc,abR]
def ac4{C:List Ch}(hE:∀x,(b8 C x).length<=20)(hL:∀x,(lean (sec C) x).length<=60)(hr:Row C there)(hl:there.length<=100)(hx:1<=x/\x<=(C.length:Int))(hy:1<=y/\y<=(C.length:Int)){s7 s8 s9 eO}:
  ∃uW JM Jk IK,bH (rH C there wt x c (sS (.int y)) s7 s8 s9 eO)=some (.nx (rH C there wt x (if lV C there (nh C there []) x y=true then c+1 else c) (sS (.int y)) uW JM Jk IK)):=by
 generalize ev:nh C there []=v
 let S:Slot->aR:=λeO=>rH C there wt x c (sS (.int y)) (sW (.int (ch C y).1)) (sW (.c_ ((ch C y).2.1.map D.int))) (sW (.c_ ((ch C y).2.2.map dT))) eO
 have h1:ux (e2 bU (aj 0) (e2 g7 (aj 6) (eC (.int 1)))) (gT (dD (gN 7) (dD (gN 8) (dD (gN 9) kJ)))) (rH C there wt x c (sS (.int y)) s7 s8 s9 eO)=some (.nx (S eO)):=by
  unfold ux;rw[Al rfl rfl hy];show(gT (dD (gN 7) (dD (gN 8) (dD (gN 9) kJ))) (aD (ch C y)) .own (rH C there wt x c (sS (.int y)) s7 s8 s9 eO)).map Out.nx=_;unfold aD;rw[gT3 (b:=.c_ ((ch C y).2.1.map D.int)) (c:=.c_ ((ch C y).2.2.map dT)) rfl (dY _) (o9 _)];rfl
 have c1:e2 mR (gK [none,some 1] (fV (aj 8)) (gN 0) (tV (e2 (fW true) (aj 0) (aj 1))) (aj 0)) (iI aB) (S eO)=sW (.bl (f7 C there y)):=by
  refine aF (qd (yT rfl) (by rw[oj hy.1 hy.2];have:=hL y;lia) (λz=>rfl) (λz mz=>bA (wj rfl rfl))) rfl ?_;rw[oj hy.1 hy.2];apply(V6 _ []).trans (by rw[O8])
 have c2:e2 iV (cI vW (au (aj 0) (au (aj 1) (au (aj 9) aB)))) (eC .aJ) (S eO)=sW (.bl (eW C v y)):=by
  refine aF (bZ rfl (N7 hE hr hl)) rfl ?_;rw[ev];apply Sz
 have h2:dG 10 (qV (e2 mR (gK [none,some 1] (fV (aj 8)) (gN 0) (tV (e2 (fW true) (aj 0) (aj 1))) (aj 0)) (iI aB)) (e2 iV (cI vW (au (aj 0) (au (aj 1) (au (aj 9) aB)))) (eC .aJ))) (S eO)=some (.nx (S (sW (.bl (f7 C there y&&eW C v y))))):=by
  rw[pB,sX c1 c2];rfl
 have NC:e2 bU (aj 5) (eC (.int 0)) (S (sW (.bl (f7 C there y&&eW C v y))))=sW (.int (ch C x).1):=aF rfl rfl (jn rfl rfl);have h3:jr (tV (aj 10)) (lY (tV (e2 tW (aj 7) (e2 bU (aj 5) (eC (.int 0))))) (jr (tV (e2 oEq (aj 7) (e2 bU (aj 5) (eC (.int 0))))) (tV (e2 oLt (aj 6) (aj 3))))) (S (sW (.bl (f7 C there y&&eW C v y))))=some (lV C there v x y):=by
  have e:lex (pr C y) (pr C x)=(decide ((ch C x).1<(ch C y).1)||((ch C y).1==(ch C x).1&&decide (y<x))):=by
   rw[tP hy.1 hy.2,tP hx.1 hx.2];unfold lex;rw[aim,agC,aje,aav,agC,agC,ahF]
   lia
  unfold lV;rw[e];apply v_ (bA rfl) (qt (bA (aF rfl NC Xb)) (v_ (bA (aF rfl NC Ay)) (bA (aF rfl rfl AI))))
 cases hc:lV C there v x y with
 |true=>
  rw[hc] at h3;apply#[_,_,_,_,sq h1 (sq h2 (jd h3 rfl))]
 |false=>
  rw[hc] at h3;apply#[_,_,_,_,sq h1 (sq h2 (ji h3 rfl))]
theorem Vs{C:List Ch}(hE:∀x,(b8 C x).length<=20)(hL:∀x,(lean (sec C) x).length<=60)(hr:Row C there)(hl:there.length<=100)(hx:1<=x/\x<=(C.length:Int)):∀{l:List Int}{c:Int} {s6 s7 s8 s9 eO},Row C l->∃zH uW JM Jk IK,cU (gN 6) (.sh []) bH (l.map D.int) (rH C there wt x c s6 s7 s8 s9 eO)=some (.nx (rH C there wt x (c+(l.filter (lV C there (nh C there []) x)).length) zH uW JM Jk IK))
 |[],c,s6,s7,s8,s9,eO,_=>#[s6,s7,s8,s9,eO,by show some (Out.nx _)=_;rw[show c+(([]:List Int).filter (lV C there (nh C there []) x)).length=c from Int.add_zero c]]
 |y::l,c,s6,s7,s8,s9,eO,h=>by
  let#[t7,t8,t9,KD,e]:=ac4 hE hL hr hl hx (h y aah);let#[a6,a7,a8,a9,N5,ih]:=Vs hE hL hr hl hx λz m=>h z (aaf _ m)
  refine#[a6,a7,a8,a9,N5,(lC rfl e).trans (ih.trans ?_)];cases hc:lV C there (nh C there []) x y with
  |true=>rw[agD hc,if_pos rfl,abZ,show c+1+((l.filter (lV C there (nh C there []) x)).length:Int)=c+(((l.filter (lV C there (nh C there []) x)).length+1:Nat):Int) by lia]
  |false=>rw[agE (by rw[hc];apply aaH),aa0 aaH]
def ab2{C:List Ch}(hE:∀x,(b8 C x).length<=20)(hL:∀x,(lean (sec C) x).length<=60)(hr:Row C there)(hl:there.length<=100)(hx:1<=x/\x<=(C.length:Int))(hw:Row C wt)(hv:nh C there []=v):WN [aL C,iL there,iL wt,.int x]=some (.int ((((wt.filter (f7 C there)).filter (eW C v)).filter λy=>lex (pr C y) (pr C x)).length:Nat)):=by
 let#[a6,a7,a8,a9,N5,lp]:=Vs hE hL hr hl hx hw;rw[hv] at lp;refine bg rfl (cP rfl (cP (Al rfl rfl hx) (sq (wA (iO rfl) lp) ?_)));rw[List.filter_filter,List.filter_filter];have e:(wt.filter (lV C there v x))=wt.filter λy=>(lex (pr C y) (pr C x)&&eW C v y)&&f7 C there y:=List.filter_congr λy _=>by
  unfold lV;cases f7 C there y<;>cases eW C v y<;>cases lex (pr C y) (pr C x)<;>rfl
 rw[e];show some (Out.rt (D.int (0+_)))=_;rw[Int.zero_add]
inductive Sh(d:D):Prop
 |one (s:Str) (e:D) (h:d=gb s e) (hs:PyData.strOk s=true) (ne:(s == "leans")=false) (hi:aE e=true) (hz:Lz 4 e) (hp:FL 3 [e]=some (.bl true))
 |LA (h:d=.tup [.str "stopped"])
 |Gv (l:List Int) (h:d=gb "leans" (iL l)) (hl:l.length<=60)
def Sh.int(s:Str)(i:Int)(hs:PyData.strOk s=true:=by decide +kernel)(ne:(s == "leans")=false:=by decide +kernel):Sh (gb s (.int i)):=.one s (.int i) rfl hs ne rfl ((wL i).up (by decide)) rfl
def kK(g:G)(x:Int)(s6 s7:Slot):aR:=[sS (gD g),sS (aL g.C),sS (.int x),sW (iL g.ln),sW (iL g.ld),sW (.b_ (od g.gr)),s6,s7]
def acn:fS g x=[]↔f7 g.C (g.ln++g.ld) x=true:=by
 unfold fS;rw[<- O8,agC]
def both(k:Iv m g)(h:1<=x/\x<=(g.C.length:Int)):∃d,vC [gD g,.int x]=some d/\abC [gD g,aL g.C,.int x]=some d/\Sh d:=by
 have v:=k.gd;have hC:=v.gc.ln;have R4:=v.len;have sG:∀{T:SF} {r},T (kK g x none none)=r->bN (dG 3 (bT "Gate" "line" BJ (aj 0) aB)) (bN (dG 4 (bT "Gate" "laid" Du (aj 0) aB)) (bN (dG 5 (e1 xK (bT "Gate" "outs" NQ (aj 0) aB))) T)) [sS (gD g),sS (aL g.C),sS (.int x),none,none,none,none,none]=r:=λe=>
  cP (eE rfl rO) (cP (eE rfl u0) (cP (cE (eE rfl (zW v)) (Ck v.gr)) e))
 by_cases hi:x∈g.ln
 .exact#[_,Y3 v h hi,bg rfl (sG (jO ((nN rfl rfl).trans (by rw[aas hi])) (n_ (aF rfl rfl (Ax hi)) rfl))),.int "in" _]
 have n1:∀{Y},aj 2 Y=sS (.int x)->aj 3 Y=some (iL g.ln,.sh [3])->tV (e2 (fW false) (aj 2) (aj 3)) Y=some false:=λa b=>(nN a b).trans (by rw[aaR hi])
 cases ho:kh g x with
 |true=>
  have ag:=v.gr.at_ ho;have gp:=k.lr _ ag.2.2;refine#[_,ai0 v h hi ho,bg rfl (sG (bV (n1 rfl rfl) (jO ((yE rfl rfl).trans (by rw[v.gr.Au];apply congrArg some ho)) (n_ (aF rfl rfl ?_) ag.2.1)))),.one "out" _ rfl (by decide +kernel) (by decide +kernel) ag.2.1 (gp.1.up (by decide)) gp.2];show(bB (od g.gr) (Sum.inl x:Key)).bind _=_;rw[v.gr.HM,ag.1,abR,if_pos ag.2.1]
 |false=>
 have n2:∀{Y},aj 2 Y=sS (.int x)->aj 5 Y=some (.b_ (od g.gr),.sh [5])->tV (e2 (lO false) (aj 2) (aj 5)) Y=some false:=λa b=>(yE a b).trans (by rw[v.gr.Au];apply congrArg some ho)
 by_cases hl:x∈g.ld
 .exact#[_,ahi v h hi ho hl,bg rfl (sG (bV (n1 rfl rfl) (bV (n2 rfl rfl) (jO ((nN rfl rfl).trans (by rw[aas hl])) (n_ (aF rfl rfl (Ax hl)) rfl))))),.int "laid" _]
 have n3:∀{Y},aj 2 Y=sS (.int x)->aj 4 Y=some (iL g.ld,.sh [4])->tV (e2 (fW false) (aj 2) (aj 4)) Y=some false:=λa b=>(nN a b).trans (by rw[aaR hl])
 cases ht:g.ht with
 |true=>apply#[_,zF v h hi ho hl (agk ht),bg rfl (sG (bV (n1 rfl rfl) (bV (n2 rfl rfl) (bV (n3 rfl rfl) (jO (C4.trans (by rw[ht])) rfl))))),.LA rfl]
 |false=>
 have n4:∀{t} {s},tV (bT "Gate" "stopped" A4 (aj 0) aB) (some (gD g,t)::s)=some false:=λ{t s}=>C4.trans (by rw[ht])
 have cm:gK [none,some 3,some 4] (fV (e2 bU (e2 bU (aj 1) (e2 g7 (aj 2) (eC (.int 1)))) (eC (.int 1)))) (gN 0) (jr (tV (e2 (fW true) (aj 0) (aj 1))) (tV (e2 (fW true) (aj 0) (aj 2)))) (aj 0) (kK g x none none)=sW (iL (fS g x)):=by
  refine qd (yT (aeO (Al rfl rfl h) h)) (by have:=v.gc.few x;lia) (λy=>rfl) (λy my=>?_);refine(v_ (bA (wj rfl rfl)) (bA (wj rfl rfl))).trans (congrArg some ?_);rw[aim];simp[not_or]
 have d6:∀{T:SF} {r},T (kK g x (sW (iL (fS g x))) none)=r->bN (dg (tV (e2 (fW false) (aj 2) (aj 3))) (h_ (gZ (au (eC (.str "in")) (au (e2 wC (aj 3) (aj 2)) aB)))) eS) (bN (dg (tV (e2 (lO false) (aj 2) (aj 5))) (h_ (gZ (au (eC (.str "out")) (au (e2 kc (aj 5) (aj 2)) aB)))) eS) (bN (dg (tV (e2 (fW false) (aj 2) (aj 4))) (h_ (gZ (au (eC (.str "laid")) (au (e2 wC (aj 4) (aj 2)) aB)))) eS) (bN (dg (tV (bT "Gate" "stopped" A4 (aj 0) aB)) (h_ (gZ (au (eC (.str "stopped")) aB))) eS) (bN (dG 6 (gK [none,some 3,some 4] (fV (e2 bU (e2 bU (aj 1) (e2 g7 (aj 2) (eC (.int 1)))) (eC (.int 1)))) (gN 0) (jr (tV (e2 (fW true) (aj 0) (aj 1))) (tV (e2 (fW true) (aj 0) (aj 2)))) (aj 0))) T)))) (kK g x none none)=r:=λe=>
  bV (n1 rfl rfl) (bV (n2 rfl rfl) (bV (n3 rfl rfl) (bV n4 (cP cm e))))
 have BU:tV (e2 jP (aj 6) (iI aB)) (kK g x (sW (iL (fS g x))) none)=some (!decide (fS g x=[])):=bA (aF rfl rfl (Rm (fS g x) []))
 by_cases hm:fS g x=[]
 .rw[aas hm] at BU;have d7:∀{T:SF} {r},T (kK g x (sW (iL (fS g x))) none)=r->bN (dg (tV (e2 jP (aj 6) (iI aB))) (zP (An (eC (.str "leans")) 6)) eS) T (kK g x (sW (iL (fS g x))) none)=r:=λe=>bV BU e
  cases hb:gm g with
  |some p=>apply#[_,zF v h hi ho hl (aen v ht h hm hb),bg rfl (sG (d6 (d7 (jO ((AV (by lia)).trans (by rw[hb];rfl)) (n_ (eE rfl ((uK (by lia)).trans (by rw[hb];rfl))) rfl))))),.int "halving" _]
  |none=>
   let#[u,hu]:=v.run;have eu:=Ql hu;have hE:∀x,(b8 g.C x).length<=20:=λx=>(v.gc.ed x).ed.ln
   have hL:=v.gc.few;have cat:∀s7,e2 gx (aj 3) (aj 4) (kK g x (sW (iL (fS g x))) s7)=sW (iL (g.ln++g.ld)):=λs7=>aF rfl rfl (xP (by rw[aft];lia))
   have un:cI vW (au (aj 1) (au (e2 gx (aj 3) (aj 4)) (au (e2 bU (e2 bU (aj 1) (e2 g7 (aj 2) (eC (.int 1)))) (eC (.int 2))) aB))) (kK g x (sW (iL (fS g x))) none)=sW (nV (bad u (b8 g.C x))):=by
    rw[eu];apply bZ (bX rfl (bX (cat none) (bX (Vx (Al rfl rfl h)) (show aB _=some [] from rfl)))) (N7 hE v.row (by rw[aaY];lia))
   have d8:∀{T:SF} {r},T (kK g x (sW (iL (fS g x))) (sW (nV (bad u (b8 g.C x)))))=r->bN (dg (tV (e2 xw (bT "Gate" "bad" ud (aj 0) aB) (eC .aJ))) (h_ (gZ (au (eC (.str "halving")) (au (bT "Gate" "bad" ud (aj 0) aB) aB)))) eS) (bN (dG 7 (cI vW (au (aj 1) (au (e2 gx (aj 3) (aj 4)) (au (e2 bU (e2 bU (aj 1) (e2 g7 (aj 2) (eC (.int 1)))) (eC (.int 2))) aB))))) T) (kK g x (sW (iL (fS g x))) none)=r:=λe=>
    bV ((AV (by lia)).trans (by rw[hb];rfl)) (cP un e)
   cases yu:bad u (b8 g.C x) with
   |cons s r=>
    rw[yu] at d8;apply#[_,zF v h hi ho hl (afD v ht h hm hb hu yu),bg rfl (sG (d6 (d7 (d8 (jO rfl rfl))))),.int "unfit" _]
   |nil=>
    rw[yu] at d8;have hx:x∈oi g u:=acW.mpr #[acW.mpr #[qY.mpr #[h,hi,hl,ho],acn.mp hm],R7.mpr yu];have hr:Row g.C (oi g u):=λy m=>m9 y (acW.mp (acW.mp m).1).1
    have hn:(oi g u).Nodup:=(AY.sublist afv).sublist afv;have ah:=ab2 hE hL v.row (by rw[aaY];lia) h m9 eu.symm;have hw:=Z6 v ht h hm hb hu yu hx;rw[afp (Lx hr hn) hx] at hw;refine#[_,zF v h hi ho hl hw,bg rfl (sG (d6 (d7 (d8 (bV rfl (n_ (bZ (bX rfl (bX (cat _) (bX (eE rfl (vq (by lia))) (bX rfl (show aB _=some [] from rfl))))) ah) rfl)))))),.int "turn" _]
 .rw[aaR hm] at BU;refine#[_,zF v h hi ho hl (adj v ht h hm),bg rfl (sG (d6 (iF (jd BU ?_)))),.Gv _ rfl (aeC (afE _ _) (v.gc.few x))];have e:An (eC (.str "leans")) 6 (kK g x (sW (iL (fS g x))) none)=some (.ok (gb "leans" (iL (fS g x))) (rS (kK g x (sW (iL (fS g x))) none) 6)):=rfl;unfold zP;rw[e]
def Sh.facts(h:Sh d):(∃ds,d=.tup ds)/\FL 4 [d]=some (.bl true)/\dz d=true:=by
 have two:∀{s:Str}{e:D},FL 3 [e]=some (.bl true)->FL 4 [gb s e]=some (.bl true):=λ{s e} h=>Dn (λd m=>by
  simp only[aaA,ac6,ahz] at m;rcases m with rfl|rfl
  .rfl
  .exact h) (by show 2<=100;decide)
 have lay:∀{s:Str}{e:D},PyData.strOk s=true->Lz 4 e->dz (gb s e)=true:=λ{s e} hs h=>(pF (n:=4) λd m=>by
  simp only[aaA,ac6,ahz] at m;rcases m with rfl|rfl
  .exact(ur s hs).up (by decide)
  .exact h).lay (by decide)
 cases h with
 |one s e h hs ne hi hz hp=>subst h;apply#[#[_,rfl],two hp,lay hs hz]
 |LA h=>subst h;apply#[#[_,rfl],rfl,(pF λd m=>by rw[aaD.mp m];apply ur "stopped").lay (by decide)]
 |Gv l h hl=>subst h;apply#[#[_,rfl],two (aie (λd m=>by let#[x,_,rfl]:=abn.mp m;apply Rf x) (by rw[List.length_map];lia)),lay (by decide +kernel) ((BI l).up (by decide))]
def vn(g:G)(x:Int)(d e:D):aR:=[sS (gD g),sS (aL g.C),sS (.int x),sW d,sW e]
def Ow(k:Iv m g)(h:1<=x/\x<=(g.C.length:Int)):adT [gD g,aL g.C,.int x]=some (.bl true):=by
 let#[d,h1,h2,s]:=both k h;let#[#[ds,ed],hp,hl]:=s.facts;have fin:∀e,h_ (e2 mR (cI vC (au (aj 0) (au (aj 2) aB))) (aj 3)) (vn g x d e)=some (.rt (.bl true)):=λe=>cT (aF (bZ rfl h1) rfl (Rh hl))
 have app:∃e,dg (tV (e2 oEq (e2 bU (aj 4) (eC (.int 0))) (eC (.str "leans")))) (Ft 4 (eC (.int 0))) eS (vn g x d d)=some (.nx (vn g x d e)):=by
  cases s with
  |one s e h hs ne hi hz hp'=>
   subst h;have t:tV (e2 oEq (e2 bU (aj 4) (eC (.int 0))) (eC (.str "leans"))) (vn g x (gb s e) (gb s e))=some false:=bA (aF (aF rfl rfl (jn rfl rfl)) rfl (show some (D.bl (s == "leans"))=_ by rw[ne]));apply#[_,ji t rfl]
  |LA h=>subst h;apply#[_,ji rfl rfl]
  |Gv l h hl=>
   subst h;refine#[gb "leans" (.lst (l.map D.int++[.int 0])),jd (bA (aF (aF rfl rfl (jn rfl rfl)) rfl rfl)) ?_];show(if(aE (.str "leans")&&(aE (.int 0)&&aQ (l.map D.int)&&decide ((l.map D.int).length<sizeLine)))=true then some (Out.nx (cz (vn g x (gb "leans" (iL l)) (gb "leans" (iL l))) 4 (.tup [.str "leans",.lst (l.map D.int++[.int 0])]))) else none)=_;rw[dY,aas (size_le (by rw[List.length_map];lia))];rfl
 let#[e',app]:=app;have tup:Gq "tuple" d=some (.bl true):=by rw[ed];rfl
 refine bg rfl (cP (bZ rfl h2) (cP (bZ rfl h1) (tw (vn g x d d) (bV (qt (kN (bA (cE rfl tup))) (qt (kN (bA (bZ (ps:=[(d,.sh [4])]) rfl hp))) (bA (aF rfl rfl (agA hl))))) (sq app (fin e'))))))
def aaZ(hC:g.C.length<=60)(h:inR x 1 g.C.length=false):kZ (tV (bT "Changes" "has" xB (bT "Gate" "changes" Dt (aj 0) aB) (au (aj 1) aB))) (sS (gD g)::sS (.int x)::s)=some true:=
 kN (b:=false) (bA (kT (eE rfl (Ke hC)) (u_ (by decide)) rfl ((wo g.C x).trans (by rw[h]))))
def ads(hC:g.C.length<=60)(h:inR x 1 g.C.length=false)(hx:x.natAbs<2 ^ 128):Gj [gD g,.int x]=some (.er ("NoChange",none)):=
 uR rfl (vR (aaZ hC h) (wN (by rw[bG,Vv rfl hx];rfl)))
def aeA(hC:g.C.length<=60)(h:inR x 1 g.C.length=false)(hx:x.natAbs<2 ^ 128):OT [gD g,.int x]=some (.bl true):=by
 have m:tu (Hj Gj (au (aj 0) (au (aj 1) aB))) [sS (gD g),sS (.int x),sW (.bl false)]=some (.er false ("NoChange",none) [sS (gD g),sS (.int x),sW (.bl false)]):=by
  show(match(match Gj [gD g,.int x] with|some (.ok d)=>some (ER.ok d [sS (gD g),sS (.int x),sW (.bl false)])|some (.er en)=>some (ER.er en [sS (gD g),sS (.int x),sW (.bl false)])|none=>none) with|some (.ok d Y')=>some (Out.nx Y')|some (.er cn Y')=>some (.er false cn Y')|none=>none)=_;rw[ads hC h hx]
 apply bg rfl (cP rfl (sq (FF m rfl rfl) rfl))
def aaz{f:EF}{gg:GF}(h:f Y=some (d,t))(h2:gg d t Y=some Y')(k:Wq Q (sg Y')):Wq Q (bN (ux f gg) sg Y):=xj (by unfold ux;rw[h];show(gg d t Y).map _=_;rw[h2];rfl) k
def aet{F:MF}{dd:D}(h0:Y[i]? = some (sW dd))(hg:A Y=some ps)(ha:apart i ps=true)(h:F dd (ps.map (·.1))=some (r,d1))(hi:aE r=true):xx i F A Y=some (r,cz Y i d1):=by
 unfold xx;rw[h0,hg];dsimp only;rw[if_pos ha,h];apply if_pos hi
def aaF(hw:1<=w/\w<=16)(hh:1<=h/\h<=8)(nt:1<=n/\n<=t/\t<=20):Iv 0 (g0 w h n t):=by
 refine#[#[#[hw,hh,nt,#[aeQ _,aeQ _,λm=>#[#[.nil,aeQ _],.nil,λp m=>nomatch m],λm x h1 h2=>?_,λm=>?_],(λx m=>nomatch m),.nil,?_,(λx m=>nomatch m),#[rfl,.nil,(λk m=>nomatch m),λp m=>nomatch m],[],rfl],(λp m=>nomatch m),(λc m=>nomatch m),.nil,abi _,(λd m=>nomatch m),abi _,abi _],λL m=>nomatch m]
 .have h2:m<=((0:Nat):Int):=h2
  lia
 .unfold lean;split<;>apply aeQ _
 .show((0:Nat):Int)<=w;lia
def ac5(ha:ga Y=some ps)(hp:ps.map (·.1)=[.int w,.int h,.int n,.int t])(hw:1<=w/\w<=16)(hh:1<=h/\h<=8)(nt:1<=n/\n<=t/\t<=20):n8 "Gate" OA ga Y=sW (gD (g0 w h n t)):=by
 unfold n8;rw[ha,abR,hp,aea hw hh nt]
def jq(ns:List Int)(q:D)(g:G)(C:List Ch)(s4 s5 s6 s7 s8 s9 eO l5:Slot):aR:=[sS (dI ns),sW q,sW (gD g),sW (aL C),s4,s5,s6,s7,s8,s9,eO,l5]
def yY{C:List Ch}:gH (aL C)=some (.int C.length):=by unfold aL;rw[x8,List.length_map]
def adG(r:Rw){Y}(h:aj 8 Y=some (rD r,t)):tV (e2 oEq (e2 bU (aj 8) (eC (.int 0))) (eC (.str "ask"))) Y=some (match r with|.ask _ _ _=>true|_=>false):=by
 cases r with
 |ask=>apply bA (aF (aF h rfl (jn rfl rfl)) rfl rfl)
 |oO=>apply bA (aF (aF h rfl (jn rfl rfl)) rfl rfl)
 |qy=>apply bA (aF (aF h rfl (jn rfl rfl)) rfl rfl)
 |stop=>apply bA (aF (aF h rfl (jn rfl rfl)) rfl rfl)
 |go=>apply bA (aF (aF h rfl (jn rfl rfl)) rfl rfl)
def ahS{q:Int}{l:List Int}{E:List Ed}{C:List Ch}(h0:Y[3]? = some (sW (aL C)))(h:aj 8 Y=some (rD (.ask q l E),t))(hC:C.length<=100):k9 3 (gZ (au (e2 bU (aj 8) (eC (.int 1))) (au (e2 bU (aj 8) (eC (.int 2))) (au (e2 bU (aj 8) (eC (.int 3))) aB)))) Y=some (.nx (cz Y 3 (aL (C++[(q,l,E)])))):=by
 unfold k9;rw[l6 (bX (aF h rfl (jn rfl rfl)) (bX (aF h rfl (jn (d:=.c_ (l.map D.int)) rfl (dY l))) (bX (aF h rfl (jn (d:=.c_ (E.map dT)) rfl (o9 E))) (show aB _=some [] from rfl)))),h0];show(if(aE (aD (q,l,E))&&aQ (C.map aD)&&decide ((C.map aD).length<sizeLine))=true then some (Out.nx (cz Y 3 (.lst (C.map aD++[aD (q,l,E)])))) else none)=_;rw[if_pos (by rw[IU,aaa,List.length_map,aas (size_le (by lia))];rfl)];unfold aL;rw[adS];rfl
def yL(h:fz Y=some (true,Y'))(h2:ft Y'=some b):xS fz ft Y=some (b,Y'):=by
 unfold xS;rw[h,abR];dsimp only;rw[if_pos rfl,h2];rfl
def Cc(h:fz Y=some (false,Y')):xS fz ft Y=some (false,Y'):=by
 unfold xS;rw[h,abR];dsimp only;rw[aa0 aaH]
def abL(hl:ns.length<=63):yP [dI ns]=some (.bl true):=by
 let#[w,h,n,t,e4,hw,hh,nt]:=Xj;let#[N,hN,eN]:=YX hl
 suffices q:∃d,yP [dI ns]=some d/\d=.bl true by
  let#[_,e,rfl]:=q;apply e
 generalize eq:D.tup [.int w,.int h,.int n,.int t]=q at e4;refine J_ rfl (k8 (bZ rfl e4) (k8 (ac5 (by rw[<- eq];rfl) rfl hw hh nt) (k8 rfl (oq (jq ns q (g0 w h n t) [] none none none none none none none none) ?_))));refine S5 (λj Y=>∃g s4 s5 s6 s7 s8,Y=jq ns q g g.C s4 s5 s6 s7 s8 none none none/\Iv j g/\g.C.length<=j/\(j≠0->g.C≠[])) (λ_=>False) (Nj (bZ rfl eN) (by lia)) (.inl rfl) #[_,_,_,_,_,_,rfl,aaF hw hh nt,abi _,λz=>absurd rfl z] (λj Y d hd #[g,s4,s5,s6,s7,s8,e,k,hC,hn]=>?_) (λY ⟨g,s4,s5,s6,s7,s8,e,k,hC,hn⟩=>?_) λx f=>f.elim
 .subst e;obtain⟨hd,hj⟩:d=.int j/\j<N:=by
   rw[abV] at hd;let#[x,hx,rfl]:=abW.mp hd;unfold cN at hx;rw[abV] at hx;let#[y,hy,rfl]:=abW.mp hx;let#[cY,ey]:=acS.mp hy;rw[List.getElem_range] at ey;rw[ajv] at cY;subst ey;apply#[by rw[Int.zero_add],cY]
  subst hd;refine#[jq ns q g g.C (some (.int j,.sh [])) s5 s6 s7 s8 none none none,rfl,?_];let#[a,b,c,e3]:=Yv (k:=j) (by lia);let#[_,er,r,rfl,o,ra]:=acV (m:=g.C.length) (by lia);let#[bb,g3,eb,k3,nx]:=acD k (by lia) (by lia) r o;refine aaz (bZ rfl e3) rfl ?_;refine k8 (bZ (bX rfl (bX (cE rfl yY) (bX rfl (bX rfl (bX rfl (show aB _=some [] from rfl)))))) er) (oq (jq ns q g g.C (some (.int j,.sh [])) (some (.int a,.own)) (some (.int b,.own)) (some (.int c,.own)) (some (rD r,.own)) none none none) ?_);have hx:=aet (i:=2) (A:=au (aj 8) aB) (Y:=jq ns q g g.C (some (.int j,.sh [])) (some (.int a,.own)) (some (.int b,.own)) (some (.int c,.own)) (some (rD r,.own)) none none none) (ps:=[(rD r,.sh [8])]) rfl rfl rfl eb rfl;have hc:∃b0,xS (tZ (xx 2 As (au (aj 8) aB))) (tV (e2 oEq (e2 bU (aj 8) (eC (.int 0))) (eC (.str "ask")))) (jq ns q g g.C (some (.int j,.sh [])) (some (.int a,.own)) (some (.int b,.own)) (some (.int c,.own)) (some (rD r,.own)) none none none)=some (b0,jq ns q g3 g.C (some (.int j,.sh [])) (some (.int a,.own)) (some (.int b,.own)) (some (.int c,.own)) (some (rD r,.own)) none none none)/\(b0=true->∃q l E,r=.ask q l E/\g3.C=g.C++[(q,l,E)])/\(b0=false->g3.C=g.C/\∀q l E,r≠.ask q l E):=by
   have ia:=adG r (Y:=jq ns q g3 g.C (some (.int j,.sh [])) (some (.int a,.own)) (some (.int b,.own)) (some (.int c,.own)) (some (rD r,.own)) none none none) (t:=.sh [8]) rfl;have z:tZ (xx 2 As (au (aj 8) aB)) (jq ns q g g.C (some (.int j,.sh [])) (some (.int a,.own)) (some (.int b,.own)) (some (.int c,.own)) (some (rD r,.own)) none none none)=some (bb,jq ns q g3 g.C (some (.int j,.sh [])) (some (.int a,.own)) (some (.int b,.own)) (some (.int c,.own)) (some (rD r,.own)) none none none):=by
    unfold tZ;rw[hx];rfl
   cases r with
   |ask q0 l E=>
    let#[rfl,ec]:=nx;apply#[true,yL z ia,λ_=>#[q0,l,E,rfl,ec],λz=>nomatch z]
   |oO=>
    refine#[false,?_,(λz=>nomatch z),λ_=>#[nx,λ_ _ _ z=>nomatch z]];ext bb
    .exact Cc z
    .exact yL z ia
   |qy=>
    refine#[false,?_,(λz=>nomatch z),λ_=>#[nx,λ_ _ _ z=>nomatch z]];ext bb
    .exact Cc z
    .exact yL z ia
   |stop=>
    refine#[false,?_,(λz=>nomatch z),λ_=>#[nx,λ_ _ _ z=>nomatch z]];ext bb
    .exact Cc z
    .exact yL z ia
   |go=>
    refine#[false,?_,(λz=>nomatch z),λ_=>#[nx,λ_ _ _ z=>nomatch z]];ext bb
    .exact Cc z
    .exact yL z ia
  let#[b0,hc,ht,hf]:=hc;refine xj (Y':=jq ns q g3 g3.C (some (.int j,.sh [])) (some (.int a,.own)) (some (.int b,.own)) (some (.int c,.own)) (some (rD r,.own)) none none none) ?_ ?_
  .unfold EU;rw[hc];cases b0 with
   |true=>
    let#[q0,l,E,rfl,ec]:=ht rfl;rw[ec];apply ahS rfl rfl (by lia)
   |false=>rw[(hf rfl).1];rfl
  .have hC3:g3.C.length<=j+1:=by
    cases b0 with
    |true=>
     let#[q0,l,E,_,ec]:=ht rfl;rw[ec,aaY];show g.C.length+1<=j+1
     lia
    |false=>rw[(hf rfl).1];lia
   have Sk:g3.C≠[]:=by
    cases b0 with
    |true=>
     let#[q0,l,E,_,ec]:=ht rfl;rw[ec];apply List.append_ne_nil_of_right_ne_nil _ (by simp)
    |false=>
     let#[ec,na]:=hf rfl;rw[ec];intro z;let#[q0,l,E,e]:=ra (by rw[z];rfl);apply na q0 l E e
   have lp:=List.length_pos_iff.mpr Sk;have bx:=iE (a:=b) (p:=60013) (m:=(g3.C.length:Int)) (by lia);have hr:=Ow (x:=1+mx b 60013 g3.C.length) k3 (by lia);refine Dv (b:=false) (kN (b:=true) (bA (bZ (bX (p:=(gD g3,.sh [2])) rfl (bX (p:=(aL g3.C,.sh [3])) rfl (bX (aF rfl (ig rfl (by decide) (cE rfl yY) (by lia)) rfl) (show aB _=some [] from rfl)))) hr))) (λz=>nomatch z) λ_=>?_
   apply#[_,rfl,.inl #[_,rfl,g3,_,_,_,_,_,rfl,k3,hC3,λ_=>Sk]]
 .subst e;have VM:((cN 0 N).map D.int).length=N:=by rw[List.length_map,nR]
  rw[VM] at k hC;have adW:=k.gd.gc.ln;let#[sd,fs,ls]:=Xw k;refine k8 (bZ (ps:=[(gD g,.sh [2])]) rfl fs) (oq (jq ns q g g.C s4 s5 s6 s7 s8 (some (sd,.own)) none none) ?_);have hi:pW (eC (.int 1)) (e2 iz (e1 gH (aj 3)) (eC (.int 1))) (jq ns q g g.C s4 s5 s6 s7 s8 (some (sd,.own)) none none)=some ((cN 1 g.C.length).map D.int,.own):=by
   rw[yq rfl (aF (cE rfl yY) rfl rfl) (m6 (by lia) (by lia)) (m6 (by lia) (by lia)),show((g.C.length:Int)+1-1).toNat=g.C.length by lia]
  refine S5 (λ_ Y=>∃eO,Y=jq ns q g g.C s4 s5 s6 s7 s8 (some (sd,.own)) eO none) (λ_=>False) hi (.inl rfl) #[_,rfl] (λj Y d hd #[eO,e]=>?_) (λY ⟨eO,e⟩=>?_) λx f=>f.elim
  .subst e;obtain⟨x,qG,rfl⟩:∃x,x∈cN 1 g.C.length/\d=.int x:=by
    rw[abV] at hd;let#[x,hx,rfl]:=abW.mp hd;apply#[x,ah6 hx,rfl]
   have bx:=jT.mp qG;refine#[jq ns q g g.C s4 s5 s6 s7 s8 (some (sd,.own)) (some (.int x,.sh [])) none,rfl,?_];refine Dv (b:=false) (kN (b:=true) (bA (bZ (ps:=[(gD g,.sh [2]),(aL g.C,.sh [3]),(.int x,.sh [])]) rfl (Ow k (by lia))))) (λz=>nomatch z) λ_=>?_
   apply#[_,rfl,.inl #[_,rfl,_,rfl]]
  .subst e;have b1:=Int.emod_nonneg (cl ns 2) (show(10 ^ 30:Int)≠0 by decide);have b2:=Int.emod_lt_of_pos (cl ns 2) (show(0:Int)<10 ^ 30 by decide);generalize ef:(g.C.length:Int)+1+cl ns 2 % 10 ^ 30=AM;have hs:e2 iz (e2 iz (e1 gH (aj 3)) (eC (.int 1))) (e2 oMod (cI zR (au (aj 0) (au (eC (.int 2)) aB))) (e2 P0 (eC (.int 10)) (eC (.int 30)))) (jq ns q g g.C s4 s5 s6 s7 s8 (some (sd,.own)) eO none)=some (.int AM,.own):=by
    rw[<- ef];apply aF (aF (cE rfl yY) rfl rfl) (aF (Ln (k:=2) rfl rfl) (aF (d:=.int (10 ^ 30)) rfl rfl rfl) (uT (by decide))) rfl
   refine k8 hs (oq (jq ns q g g.C s4 s5 s6 s7 s8 (some (sd,.own)) eO (some (.int AM,.own))) ?_);have out:∀{x:Int},x<1\/(g.C.length:Int)<x->inR x 1 g.C.length=false:=λ{x} h=>by
    unfold inR;rw[Bool.and_eq_false_iff,decide_eq_false_iff_not,decide_eq_false_iff_not]
    lia
   have rf:∀{x:Int},x<1\/(g.C.length:Int)<x->x.natAbs<2 ^ 128->OT [gD g,.int x]=some (.bl true):=λh hx=>aeA adW (out h) hx
   have big:AM.natAbs<2 ^ 128:=by
    have:(10 ^ 30:Int)+100<2 ^ 128:=by decide
    lia
   refine D_ (b:=false) (qt (a:=false) (kN (b:=true) (bA (bZ (ps:=[(gD g,.sh [2]),(.int 0,.own)]) rfl (rf (.inl (by decide)) (by decide))))) (qt (a:=false) (b:=false) (kN (b:=true) (bA (bZ (bX (p:=(gD g,.sh [2])) rfl (bX (aF (cE rfl yY) rfl rfl) (show aB _=some [] from rfl))) (rf (.inr (by lia)) (by lia))))) (kN (b:=true) (bA (bZ (ps:=[(gD g,.sh [2]),(.int AM,.sh [11])]) rfl (rf (.inr (by lia)) big)))))) (λz=>nomatch z) λ_=>?_
   apply#[_,cT (sX (b:=true) (bZ (ps:=[(gD g,.sh [2]),(.int (-AM),.own)]) rfl (rf (.inl (by lia)) (by lia))) (aF (bZ (ps:=[(gD g,.sh [2])]) rfl fs) rfl (Rh ls))),_,rfl,rfl]
end K66
namespace HT
open PySem PySem.W PyProof.Rows
section
variable{K:Params->Frag}
end
end HT
namespace K66
open PySem L2 L2.Ev
local macro_rules | `(tactic| walk_at "ba")=>`(tactic| first | apply ba_n 1 rfl fun _ _ _ _ _ _ _=>rfl | apply ba_n 2 rfl fun _ _ _ _ _ _ _=>rfl | apply ba_n 3 rfl fun _ _ _ _ _ _ _=>rfl | apply ba_n 4 rfl fun _ _ _ _ _ _ _=>rfl | apply ba_n 5 rfl fun _ _ _ _ _ _ _=>rfl)
set_option maxHeartbeats 0 in
def all_mk{l:PySem.W.OpenLaw}{w:World}{K:Fr}{h:Heap}{mg:Str->Option Value}{fa:Addr}(X:K.In h)(G:h.Ns mainGlobals mg)(Jw:mg "law"=some (.ref fa))(q:tU L K=true)(t:tab.map (look K)=tab.map want):
  ∃fd:FuncData,(∀(s:Shared) (v:Value),BindsTo s fd #[[v],[]] [("_law_script",v)])/\∀base:Heap,K.In base->base.Ns mainGlobals mg->bS l.prog w K mg base dR 15 fa fd ["_law_script"] (a_ K yP):=by
 refine Zs (sp:=λ_=>a_ K yP) X G Jw (BS (s:=top 67) 36 t rfl) (λ_ _ _ _ _ _ _ _=>.of_eq rfl) λbase _ _ _ _ F=>?_
 have E:En L #[l.prog,w,K,mg,base]:=Wt X G q;have W0:=eT X G t 0 (Jb _ E);have W1:=eT X G t 1 (Ff _ E);have W2:=eT X G t 2 (IX _ #[E,W0,W1]);have W3:=eT X G t 3 (LQ _ E);have W4:=eT X G t 4 (JI _ #[E,W3]);have US:=Gy t q 37 (T9 _ E);have W47:=Gy t q 47 (Jq _ #[E,W4,W3,US]);have W5:=eT X G t 5 (Lj _ #[E,W1,W0]);have W6:=eT X G t 6 (Je _ #[E,W0]);have Uq:=dW t 48 (Ep _ E);have W7:=eT X G t 7 (Ia _ #[E,W1]);have W8:=eT X G t 8 (IM _ #[E,W1,Uq,W7]);have W9:=eT X G t 9 (KQ _ E);have Hi:=dW t 38 (LF _ E);have rP:=dW t 39 (KE _ #[E,W3,Hi]);have YD:=eT X G t 10 (G7 _ #[E,W3,W9]);have W40:=dW t 40 (L_ _ #[E,W3,W9,rP,YD]);have W41:=dW t 41 (JV _ #[E,W40,Hi]);have W49:=dW t 49 (IE _ E);have vB:=dW t 50 (EW _ #[E,Hi,W49]);have Hz:=dW t 42 (Ge _ #[E,rP]);have Ja:=dW t 43 (LX _ #[E,Hz]);have VD:=dW t 51 (JZ _ #[E,vB,Ja]);have ET:=dW t 78 (K5 _ E);have Ew:=dW t 52 (ID _ #[E,ET]);have KJ:=dW t 53 (Gx _ E);have vo:=dW t 54 (E9 _ #[E,Ew,KJ]);have IQ:=eT X G t 11 (G4 _ E);have W12:=eT X G t 12 (K_ _ E);have W13:=eT X G t 13 (T5 _ #[E,IQ,W12]);have AL:=dW t 44 (LR _ #[E,Hz]);have IT:=eT X G t 14 (F7 _ #[E,W13,AL]);have SR:=eT X G t 15 (GB _ #[E,IT]);have W45:=dW t 45 (L7 _ #[E,Hz]);have QT:=eT X G t 16 (Fo _ #[E,W45]);have Mr:=eT X G t 17 (Hl _ #[E,IQ,AL]);have X0:=eT X G t 18 (Gn _ #[E,QT,Mr]);have Ko:=eT X G t 19 (HF _ #[E,Ja]);have W20:=eT X G t 20 (JE _ #[E,SR,X0,Ko,AL]);have W55:=dW t 55 (L1 _ #[E,vo,KJ,Ew]);have W56:=dW t 56 (La _ #[E,IT]);have Ng:=eT X G t 21 (LO _ #[E,IQ]);have W57:=dW t 57 (Iz _ #[E,Ko,vB,W56,Ng,AL]);have Wm:=dW t 58 (EK _ #[E,vo,W20,vB,W55,W57]);have W59:=dW t 59 (LV _ #[E,Ew]);have W22:=eT X G t 22 (Kf _ E);have Z1:=eT X G t 23 (J6 _ #[E,W22]);have W60:=dW t 60 (FO _ #[E,W59,KJ,Z1,vo]);have uL:=dW t 61 (Lm _ #[E,VD,Wm,W60]);have W62:=dW t 62 (HA _ #[E,W41,uL]);have W63:=dW t 63 (Gm _ #[E,rP,uL]);have W64:=zX t 64 (IJ _ #[E,rP]);have ZQ:=zX t 65 (PD _ #[#[E,rP,uL],#[E,rP]]);have MD:=dW t 79 (JW _ #[E,ET]);have BZ:=Gy t q 80 (HZ _ #[E,W4]);have Qk:=dW t 66 (Lu _ E);have W67:=dW t 67 (E1 _ #[E,MD,BZ,Qk,uL]);have Pb:=zX t 81 (EV _ #[E,ET]);have W68:=zX t 68 (E6 _ #[E,BZ,Pb]);have W69:=zX t 69 (Uo _ #[#[E,MD,BZ,Qk,uL],#[E,BZ,Pb]]);have W70:=dW t 70 (Iu _ #[E,uL]);have XY:=dW t 71 (GS _ #[E,uL]);have W24:=eT X G t 24 (LY _ #[E,W62,ZQ,W69,W70,XY]);have D5:=dW t 72 (Ex _ E);have Bu:=dW t 73 (Ib _ E);have F4:=dW t 74 (JN _ E);have Uw:=dW t 75 (KG _ E);have QZ:=eT X G t 25 (Lq _ E);have W26:=eT X G t 26 (Im _ #[E,QZ]);have W27:=eT X G t 27 (Jr _ #[E,D5,Bu,F4,Uw,vo,QZ,W26,vB]);have Zf:=dW t 46 (KY _ #[E,US]);have GA:=dW t 76 (F2 _ #[E,Zf]);have Xm:=eT X G t 28 (Ld _ #[E,SR,Ko,Mr]);have W29:=eT X G t 29 (JL _ #[E,Uw,GA,D5,Bu,Ja,vo,Ng,AL,IT,QT,Xm,vB]);have W30:=eT X G t 30 (JY _ #[E,rP,GA,D5,F4,Bu,W29]);have W31:QE _:=aeD X G (BS 31 t rfl) (λm k b F=>abx E m k b F) (by walk_at "ba");have Wz:=eT X G t 32 (FD _ #[E,W27,W30,W31]);have W77:=dW t 77 (HN _ E);have ZV:=eT X G t 33 (KW _ #[E,W77,vo,Uq,F4,vB,Bu,D5]);have W34:=Yg X G t 34 (HJ _ #[E,rP,GA]);have W35:=eT X G t 35 (Hs _ #[E,W34]);apply o_law _ #[E,W2,W47,W5,W6,W8,W24,Wz,W1,ZV,W0,W35] _ _ F
def wk:Wk:=λhY hT hL hq ht Af hdn=>
 L2.adN (n:=63) (k:=15) (x:="_law_script") (CX:=λ_=>dR) (sp:=λw=>a_ (_:Fr) yP) rfl (by decide) Af #[λ_=>rfl,by decide,by decide,rfl] hY hT hL (λw mg fa h KX G yt=>all_mk KX G (hdn ▸ yt) (hq w) (ht w)) (λw H a ns hl hz=>by
  refine#[[dI ns],[]++[],.bl true,.cons (.yW hz (yh ns)) .nil,abL hl,λH' v gS _ r _ _=>?_];ext r;rfl) λ_ _ _ _ _ z=>z
open PySem PySem.W PyProof.Rows L2 L2.Ev
end K66
theorem PySem.Challenge.cw_linegate_k66_whole_reasons_holds : PySem.Challenge.rw_linegate_k66_whole_reasons.Holds := by
 apply K66.early K66.wk
