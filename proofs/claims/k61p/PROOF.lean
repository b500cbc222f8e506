import PyProof.Rows.All
import Wide.All
import OpenK.AllK
import Wide.FinOn
import PySem.Challenge.RW_linegate_k61_deeds_by_rows
set_option Elab.async false
set_option linter.all false
set_option maxRecDepth 100000
set_option hygiene false
local macro_rules(kind:=Lean.Parser.Command.declaration)|s=>if s[0][4].isNone&&(s[1].isOfKind ``Lean.Parser.Command.definition||s[1].isOfKind ``Lean.Parser.Command.abbrev) then pure (s.modifyArg 0 (·.setArg 4 (Lean.mkNullNode #[Lean.mkNode ``Lean.Parser.Command.noncomputable #[Lean.mkAtom "noncomputable"]]))) else Lean.Macro.throwUnsupported
local macro_rules(kind:=Lean.Parser.Tactic.tacticLet__)|s=>if s[2][0][0].isOfKind `«term#[_,]» then do
  let N k a:=Lean.Syntax.node .none k a;let T:=`Lean.Parser.Tactic;let L k a:=N (T++`rcasesPatLo) #[N (T++`rcasesPatMed) #[N `null #[N (T++k) a]],N `null #[]]
  let p<-s[2][0][0].rewriteBottomUpM fun x=>pure (if x.isIdent then L `rcasesPat.one #[x] else if x.isOfKind `Lean.Parser.Term.hole then L `rcasesPat.ignore #[x[0]] else if x.isOfKind `«term#[_,]» then L `rcasesPat.tuple #[Lean.mkAtom "⟨",x[1],Lean.mkAtom "⟩"] else x);`(tactic|obtain $(.mk p[0]):rcasesPatMed:=$(.mk s[2][0][4]))
 else Lean.Macro.throwUnsupported
local macro_rules|`(tactic|apply $x)=>`(tactic|exact $x)
local macro_rules|`(tactic|ext $x:ident)=>`(tactic|cases $x:ident)
local macro_rules|`(#[$a,*])=>`(⟨$a,*⟩)
abbrev Fr:=PySem.W.Frag
local macro_rules|`(tactic|exists 20,$p)=>`(tactic|refine #[_,$p,@fun H0 S z aq Y U H Q d tg ok e q=>?_])
local macro_rules|`(tactic|exists 21,$p)=>`(tactic|refine #[_,$p,@fun H0 S z aq Y U H Q d tg ok e k=>?_])
local macro_rules|`(tactic|exists 22,$p)=>`(tactic|refine #[_,$p,@fun H0 S z aq Y U H Q c ok e k=>?_])
local macro_rules|`(tactic|exists 23,$p)=>`(tactic|refine #[_,$p,@fun H0 S z aq Y U H E o ok e k=>?_])
local macro_rules|`(tactic|exists 24,$p)=>`(tactic|refine #[_,$p,@fun H0 S z aq Y U H R ds tg ok e k=>?_])
local macro_rules|`(tactic|exists 25,$p)=>`(tactic|refine #[_,$p,@fun H0 S z aq Y U H E o ok e q=>?_])
set_option hygiene true
noncomputable section
abbrev aak:=@PySem.Heap.get?_push_of_some
abbrev aal:=@PySem.wpAny_bind
abbrev aao:=@List.mem_cons_of_mem
abbrev aap:=@List.mem_cons_self
abbrev aas:=@List.map_cons
abbrev aat:=@List.mem_cons
abbrev aaF:=@Bool.and_eq_true
abbrev aaK:=@List.mem_singleton
abbrev aaM:=@List.mem_append_right
abbrev aaY:=@of_decide_eq_true
abbrev aaZ:=@List.mem_append_left
abbrev aa1:=@decide_eq_true
abbrev aa3:=@Bool.false_ne_true
abbrev aa5:=@PySem.Heap.lt_size
abbrev aa9:=@Nat.le_refl
abbrev abc:=@PySem.wpAny_pure
abbrev abe:=@List.getElem?_eq_getElem
abbrev abm:=@if_neg
abbrev abx:=@PySem.Heap.get?_push_size
abbrev abB:=@List.mem_append
abbrev abE:=@List.length_append
abbrev abG:=@List.mem_map
abbrev abS:=@decide_eq_false
abbrev ab0:=@List.size_toArray
abbrev ab3:=@List.nodup_cons
abbrev acq:=@Option.some.inj
abbrev acv:=@List.nodup_nil
abbrev acy:=@Nat.ne_of_lt
abbrev acB:=@List.getElem?_map
abbrev acK:=@List.length_cons
abbrev acN:=@List.getElem?_eq_some_iff
abbrev acO:=@List.not_mem_nil
abbrev acU:=@List.append_nil
abbrev acV:=@Nat.lt_of_lt_of_le
abbrev ac1:=@Option.bind_some
abbrev ac3:=@Option.map_eq_some_iff
abbrev ac6:=@List.getElem?_set_ne
abbrev ac7:=@List.nodup_append
abbrev ac8:=@Option.bind_eq_some_iff
abbrev adv:=@List.getD_eq_getElem?_getD
abbrev adw:=@List.map_map
abbrev adE:=@List.find?_cons
abbrev adJ:=@Nat.le_trans
abbrev adK:=@List.map_append
abbrev adN:=@Nat.zero_le
abbrev adR:=@List.all_eq_true
abbrev adY:=@List.any_eq_true
abbrev ad1:=@PySem.wpAny_mono
abbrev ad3:=@List.mem_filter
abbrev aea:=@List.length_singleton
abbrev aeh:=@List.pairwise_cons
abbrev aei:=@beq_eq_false_iff_ne
abbrev aet:=@List.contains_iff_mem
abbrev aeI:=@PySem.Heap.get?_update_other
abbrev aeM:=@Nat.lt_irrefl
abbrev aeN:=@PySem.wpAny_newObj_type
abbrev aeU:=@List.lookup_cons
abbrev aeX:=@List.filterMap_cons
abbrev ae0:=@List.getElem?_set_self
abbrev ae6:=@PyProof.Rows.slot_tuple_getitem
abbrev ae7:=@List.filterMap_map
abbrev ae9:=@Array.length_toList
abbrev afa:=@List.foldl_cons
abbrev afb:=@PySem.Around.under_plainId
abbrev afm:=@PySem.sizeLine_eq
abbrev afo:=@PySem.wpAny_Call_Name_kw
abbrev afr:=@PyProof.Rows.callWith_type1
abbrev aft:=@Array.getD_eq_getD_getElem?
abbrev afy:=@PySem.wpAny_holding
abbrev afC:=@PySem.wpAny_truthy_bool
abbrev afG:=@List.append_assoc
abbrev afH:=@or_false
abbrev afP:=@List.find?_cons_of_neg
abbrev afR:=@PySem.codeAny_builtin
abbrev afS:=@List.getElem?_append_left
abbrev afT:=@Option.ite_none_right_eq_some
abbrev afW:=@Ne.symm
abbrev af1:=@Nat.le_succ
abbrev agc:=@Nat.le_of_lt
abbrev ago:=@Option.isSome_iff_exists
abbrev agp:=@PySem.wpAny_field
abbrev agy:=@PySem.wpAny_callSpecial?_slot
abbrev agA:=@List.cons.injEq
abbrev agD:=@Bool.and_self
abbrev agF:=@Nat.ne_of_gt
abbrev agH:=@List.getElem?_append_right
abbrev agI:=@List.append_eq_nil_iff
abbrev agL:=@List.map_congr_left
abbrev agN:=@Bool.eq_false_iff
abbrev ag0:=@PySem.wpAny_seqItems
abbrev ag3:=@List.mem_of_find?_eq_some
abbrev ag5:=@PySem.Heap.get?_update_self
abbrev ahb:=@List.length_filter_le
abbrev ahc:=@Nat.le_of_ble_eq_true
abbrev ahd:=@beq_iff_eq
abbrev ahm:=@PySem.tupleKind_room_in1
abbrev ahn:=@Nat.lt_of_le_of_lt
abbrev ahp:=@List.find?_eq_none
abbrev ahs:=@List.length_take
abbrev aht:=@Option.isSome_map
abbrev ahw:=@List.length_set
abbrev ahA:=@PySem.Heap.get?_update_ne
abbrev ahE:=@List.filter_sublist
abbrev ahG:=@List.find?_cons_of_pos
abbrev ahT:=@PySem.F.slot_tuple_iterator_next
abbrev ahU:=@Array.perm_iff_toList_perm
abbrev ah3:=@PySem.wpAny_call_entry
abbrev aid:=@Nat.lt_succ_self
abbrev aij:=@beq_self_eq_true
abbrev air:=@PySem.F.plain_min_loop
abbrev ais:=@List.mem_filterMap
abbrev aiK:=@Bool.false_eq_true
abbrev aiL:=@PySem.plainId_quiet
abbrev aiN:=@List.getElem?_eq_none
abbrev aiO:=@PySem.Heap.size_push
abbrev aiP:=@List.getElem?_zip_eq_some
abbrev aiQ:=@Classical.byContradiction
abbrev aiS:=@List.mem_of_getElem?
abbrev aiT:=@PySem.wpAny_passesOwn
abbrev aiU:=@decide_eq_true_eq
abbrev aiV:=@List.pairwise_map
abbrev aiX:=@List.any_map
abbrev aiY:=@List.any_cons
abbrev ai1:=@List.pairwise_singleton
abbrev ai3:=@List.filter_cons_of_pos
abbrev ai4:=@List.filter_cons_of_neg
abbrev ai5:=@Option.getD_some
abbrev ai6:=@PySem.wpAny_setField_rec
abbrev ai7:=@of_decide_eq_false
abbrev ai8:=@PySem.codeAny_mono
abbrev aja:=@PySem.wpAny_typeOf
abbrev ajc:=@Bool.or_eq_true
abbrev ajd:=@List.length_range
abbrev aje:=@PySem.Heap.get?_none_of_le
abbrev ajf:=@PySem.wpAny_tryCatch
abbrev ajh:=@List.drop_eq_getElem_cons
abbrev aji:=@List.pairwise_iff_getElem
abbrev ajj:=@List.length_drop
abbrev ajk:=@List.filter_cons
abbrev ajl:=@decide_eq_decide
abbrev ajn:=@PySem.wpAny_pyIter_zip
abbrev ajo:=@List.prefix_refl
abbrev ajp:=@Nat.zero_add
abbrev ajq:=@List.all_map
abbrev ajr:=@PySem.wpAny_execs_nil
abbrev ajs:=@Bool.eq_iff_iff
abbrev ajt:=@List.all_cons
abbrev aju:=@PySem.wpAny_updateSeq
abbrev ajv:=@List.find?_some
abbrev ajw:=@List.length_zip
abbrev ajx:=@PySem.strLen_append
abbrev ajy:=@PySem.wpAny_rule
abbrev ajz:=@Sum.inl.inj
abbrev ajA:=@Int.toNat_natCast
abbrev ajB:=@Nat.lt_succ_of_lt
abbrev ajC:=@PySem.wpAny_letGo
abbrev ajD:=@List.mem_range
abbrev ajE:=@List.map_nil
namespace L2
open PySem PySem.Spec
open PySem PySem.Spec PyProof.Rows
def wD(o:Obj):Option (Value×Str×Pos):=match o.data with
 |.func fd=>match fd.body with
  |.stmts [.Return (some (.Call _ _ [#[_,.Lambda _ _ _ pos,_]] _)) _]=>some (fd.code,fd.qualname++".<locals>."++"<lambda>",pos)
  |_=>none
 |_=>none
def CJ(K:Fr)(p:Addr×Obj):Option (Addr×Addr×Str×Pos):=match wD p.2 with
 |some (.ref c,q,pos)=>match K.lookup c with
  |some #[_,_,.fields vs,_]=>match(vs[11]? : Option Value) with
   |some (.ref P)=>some (c,P,q,pos)
   |_=>none
  |_=>none
 |_=>none
def ji(K:Fr):List (Addr×Addr×Str×Pos):=K.filterMap (CJ K)
def vB(K:Fr):Bool:=K.all λp=>match p.2.data with
 |.seq aA _=>aA.size==0||aA.toList.any λv=>match v with|.int _ _=>false|_=>true
 |_=>true
def yg(K:Fr):Bool:=(vB K&&K.all λp=>(wD p.2).isNone||(CJ K p).isSome)&&match ji K with
 |[]=>true
 |[r]=>PySem.W.codeHdIn K r.1 r.2.1&&(K.lookup r.2.1).isNone
 |_=>false
end L2
namespace L2
open PySem PySem.Spec PyProof.Rows
def inClass(s:Stmt)(j:Nat):Stmt:=match s with
 |.ClassDef _ _ _ body _ _ _ _ _ _ _=>body.getD j (.Pass #[0,0,0,0])
 |_=>.Pass #[0,0,0,0]
def lZ(s:Stmt):Arguments:=match s with
 |.FunctionDef _ a _ _ _ _ _ _ _ _=>a
 |_=>{ posonlyargs:=[],args:=[],vararg:=none,kwonlyargs:=[],kw_defaults:=[],kwarg:=none,defaults:=[] }
def gS(s:Stmt):List Stmt:=match s with
 |.FunctionDef _ _ b _ _ _ _ _ _ _=>b
 |_=>[]
def c9(s:Stmt):Scope:=match s with
 |.FunctionDef _ _ _ _ _ _ sc _ _ _=>sc
 |_=>{ kind:=.function,names:=[],isGenerator:=false,isCoroutine:=false }
end L2
namespace L2.Ev
open PySem PySem.W
abbrev Q2:List Value:=[.type "ValueError",.type "Exception",.type "BaseException",.type "object"]
def zp(K:Frag)(C:Addr):Bool:=match K.lookup C with
 |some #[c,_,.cls cd,#[sl]]=>c == .type "type"&&cd.mro == .ref C::cd.mro.tail&&sl==[sl.getD 0 none,sl.getD 1 none,sl.getD 2 none,sl.getD 3 none,some (.builtin "ValueError.__new__"),sl.getD 5 none]&&cd.hasDel==false&&tailIn K Q2 cd.mro.tail&&nsOkIn K cd.ns&&nsIn K cd.ns "__init__" == some none
 |_=>false
end L2.Ev
namespace L2
open PySem PySem.Spec PyProof.Rows
def tabs_ok{K:Params->Fr}{e:∀P,as=(K P).map (·.1)}(h:∀w:World,(ji (K w.params)).map (·.2.1)=ts)(w:World)(hp:Heap)(YY:(PySem.W.kmHook K as e ts).says w hp):∀r∈ji (K w.params),hp.get? r.2.1=some (PySem.W.tabObj ([].toArray)):=
 λr m=>PySem.W.km_tabs_of YY _ (by rw[<- h w];apply List.mem_map_of_mem m)
end L2
namespace L2.Ev
open PySem PySem.Spec PySem.W PyProof.Rows
structure Ls where
 bt:List Str
 gi:List (Str×Int)
 tp:List (Str×List Str)
 cl:List Str
 na:List (Str×Str)
 ni:Bool
 ex:List Str
 xc:List Str
 ct:List (Str×List Str)
 kt:List (Str×List (Str×Bool))
 ki:List (Str×List Str×List (Str×Bool))
def cA(K:Frag)(c:Str):Addr:=match nsIn K mainGlobals c with
 |some (some (.ref a))=>a
 |_=>0
def kv(K:Frag)(c:Str):Value:=if c == "ValueError" then .type "ValueError" else .ref (cA K c)
def gG:Stmt->Str
 |.FunctionDef x ..=>x
 |_=>Str.empty
def iC(c:Str)(s:Stmt):Str:=if c==Str.empty then gG s else c++"."++gG s
def strOf:Value->Option Str
 |.str s _=>some s
 |_=>none
def Lj(K:Frag)(x:Str)(l:List Str):Bool:=match nsIn K mainGlobals x with
 | some (some (.ref a))=>(match K.lookup a with
  |some #[c,none,.seq aA _,_]=>c == .type "tuple"&&decide (aA.size<=sizeLine)&&aA.toList.map strOf==l.map some
  |_=>false)
 |_=>false
def N6(K:Frag)(x:Str)(n:Int):Bool:=match nsIn K mainGlobals x with
 |some (some (.int m _))=>m==n
 |_=>false
def zQ(K:Frag)(c:Str):Bool:=nsIn K mainGlobals c==some (some (.ref (cA K c)))&&plainGet K (cA K c) Str.empty&&hasDictIn K (cA K c)&&plainOver K (cA K c)&&findIn K (.ref (cA K c)) "__setattr__" == some (some (.builtin "object.__setattr__"))&&makesIn K (cA K c)&&keepIn K (.ref (cA K c))
def ek(K:Frag)(r:Str):Bool:=findIn K (.ref (cA K r)) "__getattribute__" == some (some (.builtin "BaseException.__getattribute__"))&&findIn K (.ref (cA K r)) "__getattr__" == some none&&findIn K (.ref (cA K r)) "__class__" == some (some (.builtin "object.__class__"))&&specialIn K (.builtin "object.__class__") "__get__" == some (some (.builtin "getset_descriptor.__get__"))&&takesIn K (.builtin "object.__class__")==some true&&mroIn K (cA K r) (.type "object")==some true&&mroIn K (cA K r) (.type "BaseException")==some true
def Td(L:Ls)(K:Frag):Bool:=L.ex.all (λc=>nsIn K mainGlobals c==some (some (.ref (cA K c))))&&L.xc.all (λc=>zp K (cA K c))&&L.ct.all (λp=>L.xc.contains p.1&&mroIn K (cA K p.1) (.type "BaseException")==some true&&p.2.all λr=>L.xc.contains r&&L.ex.contains r&&mroIn K (cA K r) (.ref (cA K p.1))==some true)&&L.kt.all (λp=>p.2.all λr=>L.ex.contains r.1&&ek K r.1&&kitOne K (.ref (cA K r.1)) (kv K p.1)==some r.2)&&L.ki.all (λp=>p.2.2.all λr=>L.ex.contains r.1&&ek K r.1&&kitAny K (.ref (cA K r.1)) ((p.2.1.map (cA K)).map Value.ref)==some r.2)
def sE(L:Ls)(K:Frag):Bool:=(!L.ni||vB K)&&Td L K&&L.bt.all (λx=>nsIn K mainGlobals x==some none)&&L.gi.all (λp=>N6 K p.1 p.2)&&L.tp.all (λp=>Lj K p.1 p.2)&&L.cl.all (zQ K)&&L.na.all (λp=>findIn K (.ref (cA K p.1)) p.2==some none)
def S9(fd:FuncData):FuncData:={ fd with kwdefaults:=.none,doc:=.none,pyModule:=.none,annotations:=none,code:=.none,closureTuple:=.none }
def Em(K:Frag)(q:Str):Option (Option Value)->Option FuncData
 | some (some (.ref a))=>(match K.lookup a with
  |some #[_,_,.func fd,_]=>if(codeIn K fd.code q&&keepIn K (.ref a)&&isFn K (.ref a))=true then some (S9 fd) else none
  |_=>none)
 |_=>none
def look(K:Frag)(p:Str×Stmt):Option FuncData:=Em K (iC p.1 p.2) (if p.1==Str.empty then nsIn K mainGlobals (gG p.2) else findIn K (.ref (cA K p.1)) (gG p.2))
def want(p:Str×Stmt):Option FuncData:=some (fnOf (gG p.2) (iC p.1 p.2) (lZ p.2) (gS p.2) (c9 p.2) .none .none .none .none none .none .none)
end L2.Ev
namespace K61
open PySem L2 L2.Ev
def top(i:Nat):Stmt:=PySem.Challenge.pw_linegate_k61_deeds_by_rows.main.body.getD i (.Pass #[0,0,0,0])
def L:Ls:=#[["ValueError","all","bool","dict","int","isinstance","len","list","max","min","range","sorted","str","tuple","zip"],[("GREATEST_RANK",9),("GREATEST_SLOT",999),("GREATEST_VALUE",1000000000),("MOST_CHANGES",60),("MOST_EDITS",20),("MOST_HANDS",8),("MOST_TRIES",20),("MOST_WIDTH",16)],[("BAD_WORDS",["no","unsure"]),("WORDS",["yes","no","unsure"])],["Changes","Gate","Tally"],[("Changes","entries"),("Gate","answers"),("Gate","breaks"),("Gate","ended"),("Gate","grounds"),("Gate","grown"),("Gate","halted"),("Gate","known"),("Gate","laid_ones"),("Gate","looks"),("Gate","numbers"),("Gate","on_line"),("Gate","tallies"),("Tally","heard"),("Tally","need"),("Tally","tries")],true,["LinegateError","NoAnswer","NoChange","NoLook","TooLate","TooMany"],["LinegateError","NoAnswer","NoChange","NoLook","TooLate"],[("LinegateError",["NoChange","TooLate","NoLook","NoAnswer"])],[("NoAnswer",[("NoChange",false),("TooLate",false),("NoLook",false),("NoAnswer",true)]),("NoChange",[("NoChange",true),("TooLate",false),("NoLook",false),("NoAnswer",false)]),("NoLook",[("NoChange",false),("TooLate",false),("NoLook",true),("NoAnswer",false)]),("TooLate",[("NoChange",false),("TooLate",true),("NoLook",false),("NoAnswer",false)]),("TooMany",[("NoChange",false),("TooLate",false),("NoLook",false),("NoAnswer",false)]),("ValueError",[("NoChange",true),("TooLate",true),("NoLook",true),("NoAnswer",true)])],[]]
end K61
namespace HT
open PySem PySem.W PyProof.Rows
def IS:List Obj->List Obj
 |[]=>[]
 |[a]=>[a]
 |a::_::l=>a::IS l
def EN:Nat->List Obj->BT
 |0,_=>.nil
 |_+1,[]=>.nil
 |k+1,o::l=>.node o (EN k (IS l)) (EN k (IS l.tail))
def pR(tb:String->Option Builtin)(p:Program)(w:World)(zZ:Nat)(ann:Option Value):Nat->SharedT->Thread->Option SharedT
 |0,_,_=>none
 |k+1,s,t=>match through t with
  |true=>some s
  |false=>match stepOk zZ ann t with
   |false=>none
   |true=>match stepT (denote tb) p w s t with
    |none=>none
    |some (s',t')=>pR tb p w zZ ann k s' t'
theorem Pb:∀{k} {s s'} {t},pR tb p w zZ ann k s t=some s'->topRun tb p w zZ ann k s.abs t=some s'.abs
 |0,_,_,_,h=>by ext h
 |k+1,s,s',t,h=>by
  unfold pR at h;unfold topRun;cases e:through t with
  |true=>rw[e] at h;ext h;rfl
  |false=>
   rw[e] at h;cases o:stepOk zZ ann t with
   |false=>rw[o] at h;ext h
   |true=>
    rw[o] at h;cases g:stepT (denote tb) p w s t with
    |none=>rw[g] at h;ext h
    |some r=>let#[s2,t2]:=r;rw[g] at h;rw[stepT_spec g];apply Pb h
def GJ(P:Params):BT:=EN 12 (boot_heap P).objs.toList
def nh:Nat:=11
def V8(P:Params):(boot_heap P).objs.size=nh:=by kernel_rfl
def boot_abs(P:Params):absHeap (GJ P) nh (boot_heap P).life=boot_heap P:=by kernel_rfl
def tN(P:Params)(os:OsState):SharedT:=#[GJ P,nh,(boot_heap P).life,Array.mk [],boot_drawn,boot_toks,os]
def aiB
  (he:opening p=plainProg p.main.scope.names) (hf:∀s,fenceModules? p s=some s) (hN:Nat.ble 600 N=true)
  (hz:∀P:Params,((boot_heap P).isNs mainGlobals,(boot_heap P).nsMap mainGlobals "__annotations__")=(true,ann))
  (h:∀(w) (os),(pR treeTable p w nh ann N (tN w.params os) (topStub p)).map (λsT=>
    ((staticsOk (importedModules p.main.body) (boot_heap w.params) sT.abs.heap&&namesBound p sT.abs.heap&&gensDone sT.abs&&laidKept (boot_heap w.params) sT.abs.heap),openSeen q loose (importedModules p.main.body) Xt true sT.abs,Yf sT.abs))=some (true,openGood q loose,Ya w)) :
  LeftO p q loose Xt Yf Ya N:=λw=>by
 let#[#[hh,gs,d,k,os],e,e']:=ac3.mp (boot_open he hN hf w);obtain⟨rfl,rfl,rfl,rfl⟩:hh=boot_heap w.params/\gs=Array.mk []/\d=boot_drawn/\k=boot_toks:=by simpa using e'
 obtain⟨z1,z2⟩:_/\_:=by simpa only[Prod.mk.injEq] using hz w.params
 let#[sT,r,l]:=ac3.mp (h w os);obtain⟨l1,l2,l3⟩:_/\_/\_:=by simpa only[Prod.mk.injEq] using l
 have r':=Pb r;have ab:(tN w.params os).abs=#[boot_heap w.params,Array.mk [],boot_drawn,boot_toks,os]:=by
  show Shared.mk (absHeap (GJ w.params) nh (boot_heap w.params).life) _ _ _ _=_;rw[boot_abs];rfl
 rw[ab] at r';have t:topFrom treeTable p w N #[boot_heap w.params,Array.mk [],boot_drawn,boot_toks,os]=some sT.abs:=by
  unfold topFrom;dsimp only;rw[z1,z2,V8,r'];show(match staticsOk (importedModules p.main.body) (boot_heap w.params) sT.abs.heap&&namesBound p sT.abs.heap&&gensDone sT.abs&&laidKept (boot_heap w.params) sT.abs.heap with|true=>_|false=>_)=_;rw[l1]
 unfold openEnds;rw[e];show(topFrom treeTable p w N _).map _=_;rw[t];apply congrArg some (Prod.ext l2 l3)
def agT
  (he:opening p=plainProg p.main.scope.names) (hf:∀s,fenceModules? p s=some s) (hN:Nat.ble 600 N=true)
  (hz:∀P:Params,((boot_heap P).isNs mainGlobals,(boot_heap P).nsMap mainGlobals "__annotations__")=(true,ann))
  (h1:∀(w) (os),(pR treeTable p w nh ann N (tN w.params os) (topStub p)).map (λsT=>((staticsOk (importedModules p.main.body) (boot_heap w.params) sT.abs.heap&&namesBound p sT.abs.heap&&gensDone sT.abs&&laidKept (boot_heap w.params) sT.abs.heap),openSeen q loose (importedModules p.main.body) Xt true sT.abs))=some (true,openGood q loose))
  (h3:∀(w) (os),(pR treeTable p w nh ann N (tN w.params os) (topStub p)).map (λsT=>Yf sT.abs)=some (Ya w)) :
  LeftO p q loose Xt Yf Ya N:=aiB he hf hN hz λw os=>by
 let#[sT,r,e1]:=ac3.mp (h1 w os);have e3:=h3 w os;rw[r] at e3 ⊢;have e3:=acq e3;obtain⟨e1,e2⟩:_/\_:=by simpa only[Prod.mk.injEq] using e1
 show some (_,_,_)=some (true,openGood q loose,Ya w);rw[e1,<- e2,<- e3]
def tg(s:SharedT)(a:Nat):Option Obj:=match Nat.blt a s.n with
 |true=>match s.tree.get a with
  |some o=>alive o
  |none=>none
 |false=>none
def Yw(h:tg s a=some o):s.abs.heap.get? a=some o:=by
 unfold tg at h;cases e:Nat.blt a s.n with
 |false=>rw[e] at h;ext h
 |true=>
  rw[e] at h;dsimp only at h;cases g:s.tree.get a with
  |none=>rw[g] at h;ext h
  |some o'=>
   rw[g] at h;have cI:a<s.n:=by simpa using e
   apply(abs_get cI g).trans h
theorem J6:∀{as:List Addr}{os:List Obj},as.map (tg s)=os.map some->as.map s.abs.heap.get? = os.map some
 |[],[],_=>rfl
 |[],_::_,h=>by ext h
 |_::_,[],h=>by ext h
 |a::as,o::os,h=>by
  rw[aas,aas] at h;injection h with h1 h2;rw[aas,aas,Yw h1,J6 h2]
end HT
namespace HT
open PySem PySem.W PyProof.Rows
variable{K:Params->Frag}
def left_Tkm(he:opening p=plainProg p.main.scope.names)(hf:∀s,fenceModules? p s=some s)(hN:Nat.ble 600 N=true)
  (hz:∀P:Params,((boot_heap P).isNs mainGlobals,(boot_heap P).nsMap mainGlobals "__annotations__")=(true,ann))
  (h1:∀(w:World) (os),(pR treeTable p w nh ann N (tN w.params os) (topStub p)).map (λsT=>((staticsOk (importedModules p.main.body) (boot_heap w.params) sT.abs.heap&&namesBound p sT.abs.heap&&gensDone sT.abs&&laidKept (boot_heap w.params) sT.abs.heap),openSeen q loose (importedModules p.main.body) Xt true sT.abs))=some (true,openGood q loose))
  (h3:∀(w) (os),(pR treeTable p w nh ann N (tN w.params os) (topStub p)).map (λsT=>(as.map (tg sT),ts.map (tg sT)))=some (((K w.params).map (·.2)).map some,(ts.map λ_=>tabObj ([].toArray)).map some)) :
  LeftO p q loose Xt (Hook.obs (kmHook K as e ts)) (Hook.val (kmHook K as e ts)) N:=agT he hf hN hz h1 λw os=>by
 let#[sT,r,e1]:=ac3.mp (h3 w os);obtain⟨e1,e2⟩:_/\_:=by simpa only[Prod.mk.injEq] using e1
 rw[r];show some (as.map sT.abs.heap.get?,ts.map sT.abs.heap.get?)=some ((K w.params).map λp=>some p.2,ts.map λ_=>some (tabObj ([].toArray)));rw[J6 e1,J6 e2,adw,adw];rfl
end HT
namespace K61
open PySem L2 L2.Ev
def tab:List (Str×Stmt):=[51,52,55,12,42,53,54,57,56,58,59,13,19,20,21,18,27,33,32,34,31,29,30,17,37,36,49,49,49,60,60,60,61,62,64,63,65].map (λi=>(Str.empty,top i))++[0,2,9,11,1,10,4,5,3,1].map (λi=>(("Changes":Str),inClass (top 26) i))++[0,10,19,8,24,21,20,11,26,13,27,25,29,28,23,1,2,22,3,4,5,1,2,3,18,16,15,14,12,9,7,6].map (λi=>(("Gate":Str),inClass (top 47) i))++[3,1,0,1].map (λi=>(("Tally":Str),inClass (top 41) i))
def isNm:Stmt->Bool
 |.FunctionDef x ..=>!(x == "law")
 |_=>true
def lo:List Str:=(["_wall","LinegateError","NoFit","NoChange","TooMany","NoRule","NoAnswer","NoLook","TooLate","NoRow","within","rising","GREATEST_SLOT","GREATEST_VALUE","unfit","edited_in_turn","are_edits","misfit","sheet_of_values","MOST_CHANGES","MOST_EDITS","GREATEST_RANK","Changes","sheet_of","free","filled","first_fitting","in_turn","values_behind","fits","wanted_places","middle_of_gap","WORDS","MOST_TRIES","Tally","makes_tally","MOST_WIDTH","MOST_HANDS","BAD_WORDS","Gate","done","_law_cell_at","_law_mixed","_law_turns_of","_law_three","_law_four","_law_edits","_law_bad_ask","_law_row","_law_turned","_law_by_method","_law_kinds","_law_tried","_law_shot","_law_same_kind"]:List String).map Str.ofString
def vw:Program:={ PySem.Challenge.pw_linegate_k61_deeds_by_rows with main:={ (PySem.Challenge.pw_linegate_k61_deeds_by_rows).main with body:=(PySem.Challenge.pw_linegate_k61_deeds_by_rows).main.body.filter λs=>!isNm s } }
def Wk:Prop:=∀{YP:World->Heap->Prop}{K:Params->Fr}{d:DefRec},(∀(w:World) (h:Heap),YP w h->(K w.params).In h)->(∀(w:World) (h:Heap),YP w h->∀r∈ji (K w.params),h.get? r.2.1=some (PySem.W.tabObj ([].toArray)))->(∀w:World,yg (K w.params)=true)->(∀w:World,sE L (K w.params)=true)->(∀w:World,tab.map (look (K w.params))=tab.map want)->d.params.defaults=[]->d.name="law"->PySem.W.WalkO vw lo (PySem.W.XL vw []) YP (PySem.W.OpenLaw.row PySem.Challenge.rw_linegate_k61_deeds_by_rows).toRowW d [] (λf vs=>PySem.call f vs)
end K61
namespace K61
open PySem L2 L2.Ev
open PySem PySem.W PyProof.Rows L2 L2.Ev
def xt(s:Shared):Bool:=xlAt vw [] s&&recOk (RowW.records (OpenRow.toRowW (OpenLaw.row PySem.Challenge.rw_linegate_k61_deeds_by_rows))) s
def xt1(s:Shared)(e:xt s=true):XL vw [] (s.heap.nsMap mainGlobals) s.heap:=xl_of s (Bool.and_eq_true_iff.mp e).1
def rn(w:World)(os:OsState):(HT.pR treeTable PySem.Challenge.pw_linegate_k61_deeds_by_rows w HT.nh (some (.ref 6)) 20000 (HT.tN w.params os) (topStub PySem.Challenge.pw_linegate_k61_deeds_by_rows)).map (λsT=>((staticsOk (importedModules (PySem.Challenge.pw_linegate_k61_deeds_by_rows).main.body) (boot_heap w.params) sT.abs.heap&&namesBound PySem.Challenge.pw_linegate_k61_deeds_by_rows sT.abs.heap&&gensDone sT.abs&&laidKept (boot_heap w.params) sT.abs.heap),openSeen vw lo (importedModules (PySem.Challenge.pw_linegate_k61_deeds_by_rows).main.body) xt true sT.abs))=some (true,openGood vw lo):=by kernel_rfl
def xt2(s:Shared)(e:xt s=true):RecFacts (RowW.records (OpenRow.toRowW (OpenLaw.row PySem.Challenge.rw_linegate_k61_deeds_by_rows))) s.heap:=recFacts_of (Bool.and_eq_true_iff.mp e).2
local macro_rules | `(tactic| o_head $H)=>`(tactic| (refine PySem.W.holds_open (q:=K61.vw) (loose:=K61.lo) (N:=20000) (Xt:=K61.xt) (XP:=XL K61.vw []) (Yf:=Hook.obs $H) (Ya:=Hook.val $H) (YP:=Hook.says $H) ?hl (Hook.of $H) (Hook.keeps $H) K61.xt1 XL.keeps (by rfl) (by rfl) (by rfl) K61.xt2 (by rfl) (by assumption) (by decide +kernel) #[rfl,rfl,rfl,rfl,rfl,by decide +kernel] ?hw ?hc;(case hl=>apply HT.left_Tkm (ann:=some (.ref 6)) (by rfl) (fun _=>rfl) (by decide) (fun _=>by kernel_rfl) K61.rn fun w os=>by kernel_rfl);(case hw=>w_witness2)))
def wsd:OpenLaw.wellSaid PySem.Challenge.rw_linegate_k61_deeds_by_rows=true:=by kernel_rfl
set_option maxHeartbeats 0 in
def early(H:Wk):PySem.Challenge.rw_linegate_k61_deeds_by_rows.Holds:=by
 w_on;refine holds_law wsd λaiR=>?_;k_head
 k_fill
 apply H (λw h YY=>PySem.W.km_in_of YY) (L2.tabs_ok λw=>by kernel_rfl) (λw=>by kernel_rfl) (λw=>by kernel_rfl) (λw=>by kernel_rfl) rfl rfl
end K61
local macro_rules | `(tactic| walk_at "va")=>`(tactic| apply #[rfl,by first | apply Or.inl rfl | apply Or.inr (Or.inl rfl) | apply Or.inr (Or.inr rfl),by decide,by decide])
local macro_rules | `(tactic| exists $h:ident, $x, $w:ident, $e:ident) => `(tactic| (rcases $h:ident : $x:term with _ | $w:ident; (rw [$h:ident] at $e:ident; cases $e:ident); rw [$h:ident] at $e:ident))
local macro_rules | `(tactic| exists $h:ident, $x, $w:ident, $e:ident, 0) => `(tactic| (rcases $h:ident : $x:term with _ | $w:ident; (rw [$h:ident] at $e:ident; cases $e:ident)))
def ci{c:Prop}[Decidable c]{α:Type}{a:Option α}{y:α}(e:(if c then a else none)=some y):c/\a=some y:=by
 by_cases h:c
 .rw[if_pos h] at e;apply#[h,e]
 .rw[abm h] at e;ext e
namespace L2
open PySem PySem.Spec
def aiq:entryFor table "proto.unchain"=some Builtin.«proto.unchain»:=entryFor_of_tree (by kernel_rfl)
def Xm{α:Type}{Q:α->Shared->Prop}(hh:A.handled=some (.ref h))(he:s.heap.get? e=some oe)(hd:oe.data=.fields ve)(h2:2<ve.size)
  (hx:s.heap.get? h=some oh) (HA:oh.data=.fields vh) (yX:vh[2]? = some .none) (ne:h≠e) (q:E (.ref e) { s with heap:=s.heap.update e (Obj.mapFields (·.setIfInBounds 2 (.ref h))) }):wpAny (model prog w) A (raiseNew (.ref e):Sem α) Q E s:=by
 unfold raiseNew;refine aal (wpAny_handled ?_);rw[hh];dsimp only;rw[if_pos (by simpa using ne)];refine aal (afy (wpAny_runValue (afR aiq ?_)));unfold Builtin.«proto.unchain»;refine aal (agp hx HA yX ?_);rw[if_pos (by rfl)];refine abc ?_;refine aal ?_;unfold updateField;refine aal (wpAny_load he ?_);rw[hd];dsimp only;rw[if_pos h2];apply wpAny_update' he (wpAny_throw q)
def agR{prog:Program}{w:World}{A:Around}{E:Value->Shared->Prop}{s:Shared}{it h:Addr}{x left step:Int}{oh:Obj}{vh:Array Value}{Q:Option Value->Shared->Prop}(hh:A.handled=some (.ref h))(hx:s.heap.get? h=some oh)(HA:oh.data=.fields vh)(yX:vh[2]? = some .none)(hit:IsRangeIter s.heap it x left step)(adV:left<=0)
  (hQ:∀h',Heap.ExtBut it s.heap h'->Q none { s with heap:=h' }):wpAny (model prog w) A (pyNext (.ref it)) Q E s:=by
 have hT:s.TypeIs (.ref it) "range_iterator":=#[_,hit,rfl]
 unfold pyNext;refine aal (wpAny_attempt (agy hT F.slot_range_iterator_next
  (ah3 F.slot_range_iterator_next hT F.entry_range_iterator_next ?_ (F.args_range_iterator_next_1 _))))
 show wpAny _ _ (field (.ref it) 0 >>= _) _ _ s;refine aal (agp hit rfl rfl ?_);refine aal (agp hit rfl rfl ?_);refine aal (agp hit rfl rfl ?_);show wpAny _ _ (if left<=0 then _ else _) _ _ s;rw[if_pos adV];refine aal (ajy ?_);refine aal ?_;refine aal ?_;simp only[newExc,newTuple];refine aal (aeN ?_ (by size_fits));refine aal (wpAny_of_eq (by first|rfl|(simp only[firstArgMember];rfl)) ?_);refine aeN ?_ (by size_fits);have hn:h≠(s.heap.push { cls:=.type "tuple",dict:=none,data:=.seq ([]:List Value).toArray }).objs.size:=acy (aa5 (aak _ hx));refine Xm (by first|exact hh|(show A.in1.handled=_;apply hh)) (abx _ rfl) rfl (by simp<;>lia) (aak _ (aak _ hx)) HA yX hn ?_;refine aal (wpAny_isInstance #[_,ag5 _ (abx _ rfl) rfl,rfl] isSubtype_stop ?_);refine abc (hQ _ λb o hb e=>?_);rw[aeI _ _ (afW (acy (aa5 (aak _ e))))];apply aak _ (aak _ e)
open PySem PySem.Spec PyProof.Rows
abbrev Key:=Sum Int Str
def uh:Key->Value->Bool
 |.inl k,v=>Value.isInt k v
 |.inr x,v=>Value.isStrOf x v
def afc(w:World):Key->Int
 |.inl k=>hashInt k
 |.inr x=>hashStr w x
def l_:∀{k} {v},uh k v=true->(∃i t,k=Sum.inl i/\v=Value.int i t)\/(∃x t,k=Sum.inr x/\v=Value.str x t)
 |.inl i,v,h=>by
  let#[t,e]:=Value.isInt_shape h;apply .inl #[i,t,rfl,e]
 |.inr x,v,h=>by
  let#[t,e]:=Value.isStrOf_shape h;apply .inr #[x,t,rfl,e]
def Vr(i:Int)(t:Tok):uh (.inl i) (.int i t)=true:=by simp[uh,Value.isInt]
def acA(x:Str)(t:Tok):uh (.inr x) (.str x t)=true:=by simp[uh,Value.isStrOf]
def Vc(a b:Int):decide ((Sum.inl a:Key)=Sum.inl b)=(a==b):=by
 by_cases e:a=b
 .subst e;simp
 .have h:¬(Sum.inl a:Key)=Sum.inl b:=λq=>e (ajz q)
  rw[abS h];apply(aei.mpr e).symm
def Yd(a b:Str):decide ((Sum.inr a:Key)=Sum.inr b)=decide (a=b):=by
 by_cases e:a=b
 .subst e;simp
 .have h:¬(Sum.inr a:Key)=Sum.inr b:=λq=>e (Sum.inr.inj q)
  rw[abS h,abS e]
def aaj(a:Int)(b:Str):decide ((Sum.inl a:Key)=Sum.inr b)=false:=abS (λq=>nomatch q)
def WT(a:Str)(b:Int):decide ((Sum.inr a:Key)=Sum.inl b)=false:=abS (λq=>nomatch q)
def fQ(prog:Program)(w:World):PySem.KeyKind prog w Key where
 is:=uh
 hash:=afc w
 inj:=λv a b ha hb=>by
  rcases l_ ha with⟨i,t,rfl,rfl⟩|⟨x,t,rfl,rfl⟩
  .rcases l_ hb with⟨j,u,rfl,e⟩|⟨y,u,rfl,e⟩
   .injection e with e1 _;rw[e1]
   .exact nomatch e
  .rcases l_ hb with⟨j,u,rfl,e⟩|⟨y,u,rfl,e⟩
   .exact nomatch e
   .injection e with e1 _;rw[e1]
 byValue:=λk v h=>by
  rcases l_ h with⟨i,t,rfl,rfl⟩|⟨x,t,rfl,rfl⟩<;>rfl
 pyHash:=λhv h=>by
  rcases l_ hv with⟨i,t,rfl,rfl⟩|⟨x,t,rfl,rfl⟩
  .exact wpAny_pyHash_int h
  .exact wpAny_pyHash_str h
 eqBool:=λhu hv h=>by
  rcases l_ hu with⟨i,t,rfl,rfl⟩|⟨x,t,rfl,rfl⟩
  .rcases l_ hv with⟨j,u,rfl,rfl⟩|⟨y,u,rfl,rfl⟩
   .rw[Vc] at h;apply wpAny_eqBool_int h
   .rw[aaj] at h;apply SeqAt.EqAt.int_str i t y u _ _ _ _ h
  .rcases l_ hv with⟨j,u,rfl,rfl⟩|⟨y,u,rfl,rfl⟩
   .rw[WT] at h;apply SeqAt.EqAt.str_int x t j u _ _ _ _ h
   .rw[Yd] at h;apply wpAny_eqBool_str h
 «strs»:=λk x t v h=>by
  rcases l_ h with⟨i,u,rfl,e⟩|⟨y,u,rfl,e⟩
  .exact nomatch e
  .injection e with e1 _;subst e1;ext v<;>rfl
def adk(prog:Program)(w:World)(i:Int)(t:Tok):(fQ prog w).is (.inl i) (.int i t)=true:=Vr i t
def agC(prog:Program)(w:World)(x:Str)(t:Tok):(fQ prog w).is (.inr x) (.str x t)=true:=acA x t
inductive V where
 |aI|bl (b:Bool)|int (i:Int)|str (x:Str)|jV (b:Array UInt8)|sF (b:UInt64)|ref (a:Addr)|ty (n:String)
 deriving DecidableEq
def RelV:V->Value->Prop
 |.aI,u=>u=Value.none
 |.bl b,u=>u=Value.bool b
 |.int i,u=>∃t,u=Value.int i t
 |.str x,u=>∃t,u=Value.str x t
 |.jV b,u=>∃t,u=Value.bytes b t
 |.sF b,u=>∃t,u=Value.float b t
 |.ref a,u=>u=Value.ref a
 |.ty n,u=>u=Value.type n
abbrev aT:List V->List Value->Prop:=Paired RelV
def aT.length(r:aT xs us):xs.length=us.length:=Paired.length r
def aT.get:∀{xs} {us}{i:Nat} {x},aT xs us->xs[i]? = some x->∃u,us[i]? = some u/\RelV x u
 |_,_,_,_,.nil,e=>by simp at e
 |_,_,0,_,.cons r _,e=>by simp at e;subst e;apply#[_,rfl,r]
 |_,_,i+1,x,.cons _ t,e=>by
  let#[u,h1,h2]:=aT.get t (by simpa using e);apply#[u,by simpa using h1,h2]
def aT.append:∀{xs ys} {us ws},aT xs us->aT ys ws->aT (xs++ys) (us++ws)
 |_,_,_,_,.nil,s=>s
 |_,_,_,_,.cons r t,s=>.cons r (aT.append t s)
def aT.take:∀{xs} {us} (n),aT xs us->aT (xs.take n) (us.take n)
 |_,_,0,_=>.nil
 |_,_,_+1,.nil=>.nil
 |_,_,n+1,.cons r t=>.cons r (aT.take n t)
def aT.drop:∀{xs} {us} (n),aT xs us->aT (xs.drop n) (us.drop n)
 |_,_,0,r=>r
 |_,_,_+1,.nil=>.nil
 |_,_,n+1,.cons _ t=>aT.drop n t
def g9:Option V->Option Value->Prop
 |some v,some u=>RelV v u
 |none,none=>True
 |_,_=>False
def KV{κ:Type}:List (κ×V)->List (κ×Value)->Prop:=Paired λ(p:κ×V) (q:κ×Value)=>p.1=q.1/\RelV p.2 q.2
def kV:Key->V
 |.inl i=>.int i
 |.inr x=>.str x
def lI(h:Heap)(a:Addr)(items:Array Value):Prop:=∃o,h.get? a=some o/\o.cls=.type "tuple"/\o.dict=none/\∃n,o.data=.seq items n
def lI.isTup(x:lI h a items):IsTup h a items:=let#[o,e,c,_,d]:=x;#[o,e,c,d]
def lI.lt(x:lI h a items):a<h.objs.size:=let#[_,e,_]:=x;aa5 e
def lI.new(h:Heap)(items:Array Value):lI (h.push { cls:=.type "tuple",data:=.seq items }) h.objs.size items:=#[_,abx _ rfl,rfl,rfl,_,rfl]
inductive HO where
 |lst (xs:List V)
 |tup (xs:List V)
 |dK (ak:List (Key×V))|dT (ak:List (List Key×V))
 |set (S:Int->Bool) (n:Nat)
 |ins (C dx:Addr) (fs:List (Str×V))
 |own (x:Addr)
 |xd (fs:List (Str×V))
 |met (f x:Addr)
 |cz (lo hi:Int)
 |cG (o:Obj) (u:HO)
 |qk (ps:Array Value)
 |iH (q:Str) (pos:Pos)|ja (q:Str)
 |ext (φ:Heap->Prop)
abbrev Hp:=Addr->Option HO
inductive mJ where
 |tup (xs:List V)|vC (o:Obj) (xs:List V)|iH (q:Str) (pos:Pos)|ja (q:Str)
def mJ.ho:mJ->HO
 |.tup xs=>.tup xs
 |.vC o xs=>.cG o (.tup xs)
 |.iH q p=>.iH q p
 |.ja q=>.ja q
def mJ.tp:mJ->Option (List V)
 |.tup xs=>some xs
 |.vC _ xs=>some xs
 |_=>none
def Tk(H:Hp)(b:Addr)(xs:List V):Prop:=∃t:mJ,t.tp=some xs/\H b=some t.ho
def upd(H:Hp)(a:Addr)(o:HO):Hp:=λb=>if b=a then some o else H b
def bI:upd H a o a=some o:=by unfold upd;rw[if_pos rfl]
def aM(h:b≠a):upd H a o b=H b:=by unfold upd;rw[abm h]
def ahh{H:Hp}(h:H a=some o)(h':H b=some u)(d:o≠u):a≠b:=by
 intro e;subst e;rw[h] at h';apply d (acq h')
def cO{H:Hp}(h:H a=some o)(h':H b=none):a≠b:=by
 intro e;subst e;rw[h] at h';ext h'
section
variable(P:Program)(w:World)
def dz(H:Hp)(h:Heap)(a:Addr):HO->Prop
 |.lst xs=>xs.length<=sizeLine/\∃(aA:List Value) (n:Nat),aT xs aA/\h.get? a=some { cls:=.type "list",data:=.seq aA.toArray n }
 |.tup xs=>xs.length<=sizeLine/\∃aA:List Value,aT xs aA/\lI h a aA.toArray
 |.dK ak=>ak.length<=sizeLine/\(a==sysModules)=false/\∃vs,KV ak vs/\h.DictOf (fQ P w) a vs
 |.dT ak=>ak.length<=sizeLine/\(a==sysModules)=false/\∃xs:List (List Key×Addr×Value),
   Paired (λ(p:List Key×V) (q:List Key×Addr×Value)=>p.1=q.1/\Tk H q.2.1 (p.1.map kV)/\RelV p.2 q.2.2) ak xs/\
   ∃o es ep,h.get? a=some o/\o.ExactDict/\o.data=.dict es ep/\es.toList=xs.map (entryOfKey (tupleKind (fQ P w)))/\(xs.map (·.1)).Nodup
 |.set S n=>h.SetOf (intKind P w) a S n
 |.ins C dx fs=>H dx=some (.own a)/\fs.length<=1000/\dx≠a/\h.get? a=some (PySem.W.instObj C dx)/\
   ∃mA,h.Ns1 dx mA/\(∀f,g9 (fs.lookup f) (mA f))/\PySem.Within mA (fs.map (·.1))
 |.own _=>∃o,h.get? a=some o
 |.xd fs=>∃mA,h.Ns1 a mA/\∀f,g9 (fs.lookup f) (mA f)
 |.cz lo hi=>∃t u v,h.get? a=some { cls:=.type "range",data:=.fields ([.int lo t,.int hi u,.int 1 v].toArray) }
 |.cG o u=>h.get? a=some o/\dz H h a u
 |.qk ps=>h.get? a=some { cls:=.none,data:=.fields ps }
 |.iH q pos=>∃ps:Array Value,h.get? a=some { cls:=.none,data:=.fields ps }/\(ps=([].toArray)\/∃c,ps=([rawInt pos.line,rawInt pos.col,.ref c].toArray)/\H c=some (.ja q))
 |.ja q=>h.CodeRec (.ref a) q
 |.met f x=>h.get? a=some (PySem.W.methodObj (.ref f) (.ref x))
 |.ext φ=>φ h/\(∃o,h.get? a=some o)/\∀h1 h2:Heap,φ h1->(∀o,h1.get? a=some o->h2.get? a=some o)->φ h2
def c8(H:Hp)(h:Heap):Prop:=∀a o,H a=some o->dz P w H h a o
end
def dz.lt(x:dz P w H h a o):a<h.objs.size:=by
 cases o with
 |lst xs=>let#[_,_,_,_,e]:=x;apply aa5 e
 |tup xs=>let#[_,_,_,p]:=x;apply p.lt
 |dK ak=>let#[_,_,_,_,o,_,_,e,_]:=x;apply aa5 e
 |dT ak=>let#[_,_,_,_,o,_,_,e,_]:=x;apply aa5 e
 |set S n=>let#[o,_,_,_,e,_]:=x;apply aa5 e
 |ins C dx fs=>let#[_,_,_,e,_]:=x;apply aa5 e
 |own y=>let#[_,e]:=x;apply aa5 e
 |xd fs=>let#[_,#[_,_,_,e,_],_]:=x;apply aa5 e
 |cz lo hi=>let#[_,_,_,e]:=x;apply aa5 e
 |cG ob u=>let#[e,_]:=x;apply aa5 e
 |qk ps=>apply aa5 (show h.get? a=some _ from x)
 |iH q pos=>let#[_,e,_]:=x;apply aa5 e
 |ja q=>let#[_,_,_,_,e,g,_]:=x;ext e;apply aa5 g
 |met f y=>apply aa5 (show h.get? a=some _ from x)
 |ext φ=>let#[_,#[_,e],_]:=x;apply aa5 e
def Paired.B7:∀{NG} {RE},Paired F NG RE->(∀a b,F a b->G a b)->Paired G NG RE
 |_,_,.nil,_=>.nil
 |_,_,.cons r t,f=>.cons (f _ _ r) (Paired.B7 t f)
def dz.fS(x:dz P w H h a o)(k:∀b u,(b=a\/H b=some (.own a))->h.get? b=some u->h'.get? b=some u)
  (ho:∀b,H b=some (.own a)->H' b=some (.own a)) (ht:∀b (t:mJ),H b=some t.ho->H' b=some t.ho):dz P w H' h' a o:=by
 induction o with
 |lst xs=>let#[z,aA,n,r,e]:=x;apply#[z,aA,n,r,k _ _ (.inl rfl) e]
 |tup xs=>let#[z,aA,r,ob,e,c]:=x;apply#[z,aA,r,ob,k _ _ (.inl rfl) e,c]
 |dK ak=>let#[z,y,vs,r,ob,es,ep,e,c]:=x;apply#[z,y,vs,r,ob,es,ep,k _ _ (.inl rfl) e,c]
 |dT ak=>
  let#[z,y,xs,r,ob,es,ep,e,c]:=x;apply#[z,y,xs,Paired.B7 r λp q z=>#[z.1,let#[t,e,g]:=z.2.1;#[t,e,ht _ t g],z.2.2],ob,es,ep,k _ _ (.inl rfl) e,c]
 |set S n=>let#[ob,es,ep,t,e,c]:=x;apply#[ob,es,ep,t,k _ _ (.inl rfl) e,c]
 |ins C dx fs=>
  let#[d,z,ne,e,mA,#[od,es,ep,e2,c],r]:=x;apply#[ho _ d,z,ne,k _ _ (.inl rfl) e,mA,#[od,es,ep,k _ _ (.inr d) e2,c],r]
 |own y=>let#[ob,e]:=x;apply#[ob,k _ _ (.inl rfl) e]
 |xd fs=>let#[mA,#[od,es,ep,e,c],r]:=x;apply#[mA,#[od,es,ep,k _ _ (.inl rfl) e,c],r]
 |cz lo hi=>let#[t,u,v,e]:=x;apply#[t,u,v,k _ _ (.inl rfl) e]
 |cG ob u ih=>let#[e,q]:=x;apply#[k _ _ (.inl rfl) e,ih q]
 |iH q pos=>let#[ps,e,g]:=x;apply#[ps,k _ _ (.inl rfl) e,g.imp id λ⟨c,e1,e2⟩=>#[c,e1,ht c (.ja q) e2]]
 |ja q=>let#[_,o,vs,t,e,g,r]:=x;ext e;apply#[_,o,vs,t,rfl,k _ _ (.inl rfl) g,r]
 |qk ps=>
  have e:=x;apply k a _ (.inl rfl) e
 |met f y=>
  have e:=x;apply k a _ (.inl rfl) e
 |ext φ=>let#[p,#[o,e],st]:=x;apply#[st _ _ p λo q=>k _ _ (.inl rfl) q,#[o,k _ _ (.inl rfl) e],st]
def c8.lt(x:c8 P w H h)(e:H a=some o):a<h.objs.size:=(x a o e).lt
def c8.fresh(x:c8 P w H h)(e:h.objs.size<=a):H a=none:=by
 cases q:H a with
 |none=>rfl
 |some u=>apply absurd (acV (x.lt q) e) (aeM _)
def c8.kept(x:c8 P w H h)(k:∀b u,h.get? b=some u->h'.get? b=some u):c8 P w H h':=λa o e=>
 (x a o e).fS (λb u _ q=>k b u q) (λ_ q=>q) λ_ _ q=>q
def c8.laid(x:c8 P w H h)(k:∀b u,h.get? b=some u->h'.get? b=some u)(hp:h.objs.size<=a)(new:dz P w (upd H a o) h' a o):c8 P w (upd H a o) h':=λb u e=>by
 have hn:=x.fresh hp
 by_cases hb:b=a
 .subst hb;rw[bI] at e;ext e;apply new
 .rw[aM hb] at e;apply(x b u e).fS (λc v _ q=>k c v q) (λc q=>by rw[aM (cO q hn)];apply q) λc xs q=>by rw[aM (cO q hn)];apply q
def Rd(H:Hp)(a:Addr)(u:HO):Prop:=H a=some u\/∃o,H a=some (.cG o u)
def Rd.ok(r:Rd H a u)(x:c8 P w H h):dz P w H h a u:=by
 rcases r with r|⟨o,r⟩
 .exact x a u r
 .let#[_,q]:=x a _ r;apply q
def yR:Option HO->Prop
 |some (.lst _)=>True
 |some (.dK _)=>True
 |some (.dT _)=>True
 |some (.set _ _)=>True
 |some (.ins _ _ _)=>True
 |some (.ext _)=>True
 |_=>False
def c8.write(ok:c8 P w H h)(mu:yR (H x))(he:e=x\/H e=some (.own x))(k:∀b u,b≠e->h.get? b=some u->h'.get? b=some u)(wJ:∃u,h'.get? e=some u)
  (new:dz P w (upd H x o') h' x o'):c8 P w (upd H x o') h':=λb u q=>by
 have Uz:∀c y,H c=some (.own y)->c≠x:=λc y r z=>by subst z;rw[r] at mu;apply mu
 have adW:∀c (t:mJ),H c=some t.ho->c≠x:=λc t r z=>by subst z;rw[r] at mu;ext t<;>apply mu
 by_cases hb:b=x
 .subst hb;rw[bI] at q;ext q;apply new
 .rw[aM hb] at q
  by_cases ue:b=e
  .have q':H b=some (.own x):=by
    rcases he with z|z
    .exact absurd (ue.trans z) hb
    .rw[ue];apply z
   rw[q] at q';ext q';let#[v,hv]:=wJ;apply#[v,by rw[ue];apply hv]
  .refine(ok b u q).fS (λc v hc r=>k c v ?_ r) (λc r=>by rw[aM (Uz c b r)];apply r) λc xs r=>by rw[aM (adW c xs r)];apply r
   rcases hc with rfl|hc
   .exact ue
   .rintro rfl
    rcases he with z|z
    .exact Uz c b hc z
    .rw[hc] at z;ext z;apply hb rfl
structure Un(fs ex:List Addr)(H H':Hp)(h h':Heap):Prop where
 keep:∀b o,h.get? b=some o->H b=none->b∉fs->b∉ex->h'.get? b=some o
 slot:∀b o,h.get? b=some o->H b=none->b∈fs->b∉ex->∃sl,h'.get? b=some { o with slots:=sl }
 free:∀b o,h.get? b=some o->H b=none->b∉ex->H' b=none
 there:∀b o,h.get? b=some o->b∉ex->∃o',h'.get? b=some o'
 iM:∀b (t:mJ),H b=some t.ho->H' b=some t.ho
 iz:∀b o u,H b=some (.cG o u)->H' b=some (.cG o u)
 jG:∀b ps,H b=some (.qk ps)->∃more,H' b=some (.qk (ps++more))
def Un.any(u:Un fs ex H H1 h h1)(q:h.get? b=some ob)(n:H b=none)(hx:b∉ex):∃sl,h1.get? b=some { ob with slots:=sl }:=by
 by_cases hb:b∈fs
 .exact u.slot b ob q n hb hx
 .exact#[ob.slots,u.keep b ob q n hb hx]
def Un.kept(k:∀b u,h.get? b=some u->h'.get? b=some u):Un fs ex H H h h':=
 #[λb ob q _ _ _=>k b ob q,λb ob q _ _ _=>#[ob.slots,k b ob q],λ_ _ _ n _=>n,λb ob q _=>#[ob,k b ob q],λ_ _ q=>q,λ_ _ _ q=>q,λ_ ps q=>#[([].toArray),by rw[q];simp]]
def Un.refl:Un fs ex H H h h:=Un.kept λ_ _ q=>q
def Un.laid(k:∀b u,h.get? b=some u->h'.get? b=some u)(hp:h.objs.size<=a)(hn:H a=none):Un fs ex H (upd H a o) h h' where
 keep:=λb u q _ _ _=>k b u q
 slot:=λb u q _ _ _=>#[u.slots,k b u q]
 free:=λb u q n _=>by rw[aM (acy (acV (aa5 q) hp))];apply n
 there:=λb u q _=>#[u,k b u q]
 iM:=λb xs q=>by rw[aM (cO q hn)];apply q
 iz:=λb u xs q=>by rw[aM (cO q hn)];apply q
 jG:=λb ps q=>#[([].toArray),by rw[aM (cO q hn),q];simp]
def Un.write(mu:yR (H x))(he:e=x\/H e=some (.own x))(k:∀b u,b≠e->h.get? b=some u->h'.get? b=some u)(wJ:∃u,h'.get? e=some u):Un fs ex H (upd H x o) h h':=by
 have hx:∀b,H b=none->b≠x:=λb n z=>by subst z;rw[n] at mu;apply mu
 have hb:∀b,H b=none->b≠e:=λb n z=>by
  subst z;rcases he with r|r
  .exact hx b n r
  .rw[n] at r;ext r
 have hm:∀b u,H b=some u->¬yR (some u)->b≠x:=λb u q nm z=>by subst z;rw[q] at mu;apply nm mu
 refine#[λb u q n _ _=>k b u (hb b n) q,λb u q n _ _=>#[u.slots,k b u (hb b n) q],λb u q n _=>by rw[aM (hx b n)];apply n,λb u q _=>?_,
  λb xs q=>by rw[aM (hm b _ q (by ext xs<;>apply λz=>z))];apply q,λb u xs q=>by rw[aM (hm b _ q λz=>z)];apply q,λb ps q=>#[([].toArray),by rw[aM (hm b _ q λz=>z),q];simp]]
 by_cases ue:b=e
 .subst ue;apply wJ
 .exact#[u,k b u ue q]
def DH(h:Heap)(H:Hp):List Addr:=(List.range h.objs.size).filter λa=>(H a).isSome
def qB(h:Heap)(H:Hp):Heap:=PySem.W.hideAll h (DH h H)
def agB(h:Heap)(H:Hp):(qB h H).objs.size=h.objs.size:=PySem.W.hideAll_size _ _
def Ko(e:h.get? b=some o)(n:H b=none):(qB h H).get? b=some o:=
 PySem.W.hideAll_get _ e λhm=>by
  have q:=(ad3.mp hm).2;rw[n] at q;simp at q
def Zr(e:(qB h H).get? b=some o):h.get? b=some o/\H b=none:=by
 have e':=PySem.W.of_hideAll (DH h H) e;refine#[e',?_];cases q:H b with
 |none=>rfl
 |some x=>
  have hm:b∈DH h H:=ad3.mpr #[ajD.mpr (aa5 e'),by simp[q]];have z:(qB h H).get? b=none:=PySem.W.hideAll_none (DH h H) hm;rw[z] at e;ext e
structure Mod(K:Fr)(mg:Str->Option Value)(base:Heap):Prop where
 qj:K.In base
 glob:base.Ns mainGlobals mg
 blt:∃mb,base.Ns builtinsNs mb/\∀x:Str,x≠"__name__"->mb x=bootBuiltins x
 nolimit:base.NoLimit
 VH:∃bm ob,mg "__builtins__"=some (.ref bm)/\bm≠builtinsNs/\base.get? bm=some ob/\ob.cls=.type "module"/\ob.dict=some builtinsNs/\ob.data=.plain
structure Cx where
 prog:Program
 w:World
 K:Fr
 mg:Str->Option Value
 base:Heap
 A:Around
 N:List Str
 cZ:Shared
 oY:Hp
 env:Env
 outer:List Env
 stack:List Env
 ex:List Addr
 fn:Str->Bool
 calm:Bool
 pn:List (Addr×Obj)
 xe:Value->Shared->Prop
def bq(l:List Env):List Addr:=l.filterMap (·.frame)
abbrev Cx.fs(X:Cx):List Addr:=bq X.outer
def CN(sc:Scope)(x:Str):Prop:=sc.names.lookup x=some .local\/sc.names.lookup x=some .cell\/sc.names.lookup x=some .free
def Loc(sc:Scope)(x:Str):Prop:=sc.names.lookup x=some .local\/sc.names.lookup x=some .cell
def Look(env:Env)(h:Heap)(m:Str->Option Value)(x:Str)(u:Value):Prop:=
 (env.kindOf x=some .local/\m x=some u)\/((env.kindOf x=some .cell\/env.kindOf x=some .free)/\∃c,env.cells.lookup x=some c/\h.IsCell c (some u))
structure Cx.Ok(X:Cx):Prop where
 mod:Mod X.K X.mg X.base
 kind:X.env.scope.kind=.function
 glob:X.env.globals=mainGlobals
 blt:X.env.builtins=builtinsNs
 above:X.cZ.heap.objs.size<=X.env.locals
 inj:∀x y c,X.env.cells.lookup x=some c->X.env.cells.lookup y=some c->x=y
 has:∀x,(X.env.kindOf x=some .cell\/X.env.kindOf x=some .free)->∃c,X.env.cells.lookup x=some c
 n_:∀x c,X.fn x=true->X.env.cells.lookup x=some c->X.cZ.heap.objs.size<=c
 hd:X.calm=true->X.A.handled=none
 frames:X.A.frames=some X.stack
 qQ:X.stack=X.outer\/(X.stack=X.env::X.outer/\X.env.frame=some X.env.locals)
 uu:∀b∈X.ex,b≠X.env.locals/\∀x c,X.env.cells.lookup x=some c->c≠b
 bs:∀b o,X.base.get? b=some o->X.cZ.heap.get? b=some o/\X.oY b=none
 jd:X.base.objs.size<=X.cZ.heap.objs.size
 pH:∀b o,X.base.get? b=some o->b∉X.ex
 oU:∀b∈X.ex,b∉X.fs
 jh:X.cZ.heap.FunFrames X.base X.outer
 mQ:∀b∈X.fs,X.oY b=none
def tP(A:Around)(H:Hp):Prop:=A.handled=none\/∃(a:Addr) (ob:Obj) (u:HO) (vs:Array Value),A.handled=some (.ref a)/\H a=some (.cG ob u)/\ob.data=.fields vs/\vs[2]? = some .none
def tP.mono(h:tP A H)(f:∀b o u,H b=some (.cG o u)->H' b=some (.cG o u)):tP A H':=h.elim .inl λ⟨a,ob,u,vs,h1,h2,h3⟩=>.inr #[a,ob,u,vs,h1,f _ _ _ h2,h3]
structure Hq(K:Fr)(A:Around)(H:Hp):Prop where
 hd:tP A H
 ok:yg K=true
 lm:∀r∈ji K,H r.2.1=some (.iH r.2.2.1 r.2.2.2)
def Hq.mono{K:Fr}(h:Hq K A H)(f:∀b o u,H b=some (.cG o u)->H' b=some (.cG o u))(g:∀b (t:mJ),H b=some t.ho->H' b=some t.ho):Hq K A H':=
 #[h.hd.mono f,h.ok,λr m=>g _ (.iH _ _) (h.lm r m)]
structure Inv(X:Cx)(af:List (Addr×Obj))(U:List (Option V))(H:Hp)(s:Shared):Prop where
 ok:X.Ok
 os:s.os=X.cZ.os
 bare:AllBare s.gens
 base:Un X.fs X.ex X.oY H X.cZ.heap s.heap
 loc:∃m,s.heap.Ns X.env.locals m/\∀(i:Nat) (x) (v),X.N[i]? = some x->U[i]? = some (some v)->CN X.env.scope x->∃u,RelV v u/\Look X.env s.heap m x u
 cell:∀x c,X.env.cells.lookup x=some c->∃v,s.heap.IsCell c v
 free:H X.env.locals=none
 gj:∀x c,X.env.cells.lookup x=some c->H c=none
 pin:∀p∈X.pn++af,s.heap.get? p.1=some p.2/\H p.1=none/\p.1≠X.env.locals/\p.1∉X.fs/\∀v,p.2.data≠.cell v
 aH:c8 X.prog X.w H s.heap
 len:U.length=X.N.length
 hq:Hq X.K X.A H
section
variable{X:Cx}
def Cx.Ok.ahf(ok:X.Ok)(e:X.base.get? b=some o):b∉X.fs:=λhb=>by
 have:=(ok.jh.mem hb).1;rw[e] at this;ext this
def Inv.bs(I:Inv X af U H s):∀b o,X.base.get? b=some o->s.heap.get? b=some o/\H b=none:=λb o e=>
 #[I.base.keep b o (I.ok.bs b o e).1 (I.ok.bs b o e).2 (I.ok.ahf e) (I.ok.pH b o e),I.base.free b o (I.ok.bs b o e).1 (I.ok.bs b o e).2 (I.ok.pH b o e)]
def Inv.bk(I:Inv X af U H s):∀b o,X.base.get? b=some o->s.heap.get? b=some o:=λb o e=>(I.bs b o e).1
def Inv.mod(I:Inv X af U H s):Mod X.K X.mg X.base:=I.ok.mod
def Inv.dU(I:Inv X af U H s):X.K.In s.heap:=I.ok.mod.qj.keeps I.bk
def Inv.lt(I:Inv X af U H s):X.env.locals<s.heap.objs.size:=let#[_,hn,_]:=I.loc;hn.lt
def Inv.sz(I:Inv X af U H s):X.cZ.heap.objs.size<=s.heap.objs.size:=adJ I.ok.above (agc I.lt)
def Inv.RT(I:Inv X af U H s)(h:s.heap.objs.size<=a):a∉X.fs:=λhb=>by
 let#[_,o,ho,_]:=I.ok.jh.mem hb;apply absurd (acV (aa5 ho) (adJ I.sz h)) (aeM _)
def Inv.jK(I:Inv X af U H s):∀x c,X.env.cells.lookup x=some c->c≠X.env.locals:=λx c e z=>by
 let#[v,o,ho,hd]:=I.cell x c e;let#[m,#[o',es,ep,mK,JE,_],_]:=I.loc;rw[z,mK] at ho;ext ho;rw[JE] at hd;ext hd
def Inv.jh(I:Inv X af U H s):s.heap.FunFrames X.base X.outer:=by
 have all:∀(l:List Env),(∀b∈bq l,b∈X.fs)->X.cZ.heap.FunFrames X.base l->s.heap.FunFrames X.base l:=by
  intro l
  induction l with
  |nil=>intro _ _;trivial
  |cons env r ih=>
   intro hs hl;let#[hk,#[L,o,hf,hn,ho,hd],hr]:=hl;have hL:=hs L (by unfold bq;rw[aeX,hf];apply aap);let#[sl,e]:=I.base.slot L o ho (I.ok.mQ L hL) hL λz=>I.ok.oU L z hL
   apply#[hk,#[L,_,hf,hn,e,hd],ih (λb hb=>hs b (by unfold bq;rw[aeX,hf];apply aao _ hb)) hr]
 apply all X.outer (λ_ hb=>hb) I.ok.jh
def Inv.stack(I:Inv X af U H s):s.heap.FunFrames X.base X.stack:=by
 rcases I.ok.qQ with e|⟨e,hf⟩
 .rw[e];apply I.jh
 .rw[e];let#[m,hn,_]:=I.loc;refine .cons (by rw[I.ok.kind];decide) hf hn ?_ I.jh;apply aje (adJ I.ok.jd I.ok.above)
def Inv.D4(I:Inv X af U H s):∀b∈bq X.stack,b∈X.env.locals::X.fs:=λb hb=>by
 rcases I.ok.qQ with e|⟨e,hf⟩
 .rw[e] at hb;apply aao _ hb
 .rw[e] at hb;unfold bq at hb;rw[aeX,hf] at hb;apply hb
def Inv.uE(I:Inv X af U H s):∀b∈bq X.stack,H b=none:=λb hb=>by
 rcases aat.mp (I.D4 b hb) with e|hb
 .rw[e];apply I.free
 .let#[_,o,ho,_]:=I.ok.jh.mem hb;apply I.base.free b o ho (I.ok.mQ b hb) λz=>I.ok.oU b z hb
def Inv.step{ch:List Addr}(I:Inv X af U H s)
  (nj:∀b∈ch,(b∈X.ex\/X.cZ.heap.objs.size<=b)/\b≠X.env.locals/\(∀x c,X.env.cells.lookup x=some c->c≠b)/\∀p∈X.pn++af,p.1≠b)
  (keep:∀b o,b≠X.env.locals->b∉X.fs->b∉ch->s.heap.get? b=some o->H b=none->h'.get? b=some o)
  (slot:∀b o,b≠X.env.locals->b∈X.fs->b∉ch->s.heap.get? b=some o->H b=none->∃sl,h'.get? b=some { o with slots:=sl }) (free:∀b o,b∉ch->s.heap.get? b=some o->H b=none->H' b=none)
  (there:∀b o,b∉ch->s.heap.get? b=some o->∃o',h'.get? b=some o')
  (iM:∀b (t:mJ),H b=some t.ho->H' b=some t.ho) (iz:∀b o u,H b=some (.cG o u)->H' b=some (.cG o u)) (jG:∀b ps,H b=some (.qk ps)->∃more,H' b=some (.qk (ps++more)))
  (ns:∀m,s.heap.Ns X.env.locals m->h'.Ns X.env.locals m) (aH:c8 X.prog X.w H' h') (hg:AllBare g') :
  Inv X af U H' { s with heap:=h',gens:=g',drawn:=d',toks:=t' }:=by
 have Cw:∀b o,X.cZ.heap.get? b=some o->b≠X.env.locals:=λb o e=>acy (acV (aa5 e) I.ok.above)
 have C0:∀b o,X.cZ.heap.get? b=some o->b∉X.ex->b∉ch:=λb o e hx hb=>by
  rcases(nj b hb).1 with z|z
  .exact hx z
  .exact absurd (acV (aa5 e) z) (aeM _)
 have cellK:∀x c,X.env.cells.lookup x=some c->∀v,s.heap.IsCell c v->h'.IsCell c v:=λx c e v #[o,ho,hd]=>by
  have mw:c∉ch:=λz=>(nj c z).2.2.1 x c e rfl
  by_cases hc:c∈X.fs
  .let#[sl,q]:=slot c o (I.jK x c e) hc mw ho (I.gj x c e);apply#[_,q,hd]
  .exact#[o,keep c o (I.jK x c e) hc mw ho (I.gj x c e),hd]
 refine#[I.ok,I.os,hg,#[λb o e n hb hx=>?_,λb o e n hb hx=>?_,λb o e n hx=>?_,λb o e hx=>?_,λb xs e=>iM b xs (I.base.iM b xs e),λb o xs e=>iz b o xs (I.base.iz b o xs e),λb ps e=>?_],?_,λx c e=>?_,?_,λx c e=>?_,λp hp=>?_,aH,I.len,I.hq.mono iz iM]
 .exact keep b o (Cw b o e) hb (C0 b o e hx) (I.base.keep b o e n hb hx) (I.base.free b o e n hx)
 .let#[sl,e1]:=I.base.slot b o e n hb hx;let#[rH,e2]:=slot b _ (Cw b o e) hb (C0 b o e hx) e1 (I.base.free b o e n hx);apply#[rH,e2]
 .let#[o',e1]:=I.base.there b o e hx;apply free b o' (C0 b o e hx) e1 (I.base.free b o e n hx)
 .let#[o',e1]:=I.base.there b o e hx;apply there b o' (C0 b o e hx) e1
 .let#[m1,e1]:=I.base.jG b ps e;let#[m2,e2]:=jG b _ e1;apply#[m1++m2,by rw[e2,Array.append_assoc]]
 .let#[m,hn,hl]:=I.loc;refine#[m,ns m hn,λi x v e1 e2 e3=>?_];let#[u,r,l]:=hl i x v e1 e2 e3;refine#[u,r,?_];rcases l with l|⟨k,c,e,z⟩
  .exact .inl l
  .exact .inr #[k,c,e,cellK x c e _ z]
 .let#[v,z]:=I.cell x c e;apply#[v,cellK x c e v z]
 .let#[m,#[o,_,_,ho,_],_]:=I.loc;apply free _ o (λz=>(nj _ z).2.1 rfl) ho I.free
 .let#[v,o,ho,hd]:=I.cell x c e;apply free c o (λz=>(nj c z).2.2.1 x c e rfl) ho (I.gj x c e)
 .let#[e,n,ne,nf,d]:=I.pin p hp;have mw:p.1∉ch:=λz=>(nj p.1 z).2.2.2 p hp rfl
  apply#[keep p.1 p.2 ne nf mw e n,free p.1 p.2 mw e n,ne,nf,d]
def Inv.un(I:Inv X af U H s)(u:Un X.fs [] H H' s.heap h')(aH:c8 X.prog X.w H' h'):Inv X af U H' { s with heap:=h',toks:=t' }:=by
 let#[m,#[o,es,ep,ho,r],_]:=id I.loc;let#[sl,hL]:=u.any ho I.free (by simp);apply I.step (g':=s.gens) (d':=s.drawn) (ch:=[]) (λ_ z=>nomatch z) (λb o _ hb _ e n=>u.keep b o e n hb (by simp)) (λb o _ hb _ e n=>u.slot b o e n hb (by simp)) (λb o _ e n=>u.free b o e n (by simp)) (λb o _ e=>u.there b o e (by simp)) u.iM u.iz u.jG (λm' hm=>by
  let#[o',uX,x8,mK,r']:=hm;rw[ho] at mK;ext mK;apply#[_,uX,x8,hL,r']) aH I.bare
def Inv.call{ch:List Addr}(I:Inv X af U H s)(u:Un (bq X.stack) ch H H' s.heap h')(aH:c8 X.prog X.w H' h')(hg:AllBare g')
  (nj:∀b∈ch,(b∈X.ex\/X.cZ.heap.objs.size<=b)/\b≠X.env.locals/\(∀x c,X.env.cells.lookup x=some c->c≠b)/\∀p∈X.pn++af,p.1≠b) :
  Inv X af U H' { s with heap:=h',gens:=g',drawn:=d',toks:=t' }:=by
 let#[m,#[o,es,ep,ho,r],_]:=id I.loc;let#[sl,hL]:=u.any ho I.free λz=>(nj _ z).2.1 rfl
 apply I.step (ch:=ch) nj (λb o hL hb hc e n=>u.keep b o e n (λz=>(aat.mp (I.D4 b z)).elim hL hb) hc) (λb o _ _ hc e n=>u.any e n hc) (λb o hc e n=>u.free b o e n hc) (λb o hc e=>u.there b o e hc) u.iM u.iz u.jG (λm' hm=>by
  let#[o',uX,x8,mK,r']:=hm;rw[ho] at mK;ext mK;apply#[_,uX,x8,hL,r']) aH hg
def Inv.turned{it:Addr}(I:Inv X af U H s)(k:∀b o,b≠it->s.heap.get? b=some o->h'.get? b=some o)(hn:H it=none)(hL:it≠X.env.locals)
  (h1:it∈X.ex\/X.cZ.heap.objs.size<=it) (h2:∀x c,X.env.cells.lookup x=some c->c≠it) (h3:∀p∈X.pn++af,p.1≠it):Inv X af U H { s with heap:=h',toks:=t' }:=by
 have Oe:∀b u,H b=some u->b≠it:=λb u e z=>by rw[z,hn] at e;ext e
 refine I.step (g':=s.gens) (d':=s.drawn) (ch:=[it]) (λb hb=>?_) (λb o _ _ hc e _=>k b o (λz=>hc (by simp[z])) e) (λb o _ _ hc e _=>#[o.slots,k b o (λz=>hc (by simp[z])) e]) (λ_ _ _ _ n=>n)
  (λb o hc e=>#[o,k b o (λz=>hc (by simp[z])) e]) (λ_ _ e=>e) (λ_ _ _ e=>e) (λb ps e=>#[([].toArray),by rw[e];simp]) (λm hm=>?_) (λb u e=>?_) I.bare
 .have e:b=it:=by simpa using hb
  subst e;apply#[h1,hL,h2,h3]
 .let#[o,es,ep,ho,r]:=hm;apply#[o,es,ep,k _ o (afW hL) ho,r]
 .refine(I.aH b u e).fS (λc v hc q=>k c v ?_ q) (λ_ q=>q) λ_ _ q=>q
  rcases hc with z|z
  .rw[z];apply Oe b u e
  .exact Oe c _ z
def Inv.tok(I:Inv X af U H s)(t:Nat):Inv X af U H { s with toks:=t }:=I.un Un.refl I.aH
def Inv.kept(I:Inv X af U H s)(k:∀b u,s.heap.get? b=some u->h'.get? b=some u):Inv X af U H { s with heap:=h',toks:=t' }:=I.un (Un.kept k) (I.aH.kept k)
def Inv.laid(I:Inv X af U H s)(k:∀b u,s.heap.get? b=some u->h'.get? b=some u)(hp:s.heap.objs.size<=a)(new:dz X.prog X.w (upd H a o) h' a o):
  Inv X af U (upd H a o) { s with heap:=h',toks:=t' }:=I.un (Un.laid k hp (I.aH.fresh hp)) (I.aH.laid k hp new)
def Inv.write(I:Inv X af U H s)(mu:yR (H x))(he:e=x\/H e=some (.own x))(k:∀b u,b≠e->s.heap.get? b=some u->h'.get? b=some u)(wJ:∃u,h'.get? e=some u)
  (new:dz X.prog X.w (upd H x o) h' x o):Inv X af U (upd H x o) { s with heap:=h',toks:=t' }:=I.un (Un.write mu he k wJ) (I.aH.write mu he k wJ new)
def Inv.sO(I:Inv X af U H s)(h:∀p∈wV,s.heap.get? p.1=some p.2/\H p.1=none/\p.1≠X.env.locals/\p.1∉X.fs/\∀v,p.2.data≠.cell v):Inv X wV U H s:=
 #[I.ok,I.os,I.bare,I.base,I.loc,I.cell,I.free,I.gj,λp hp=>(abB.mp hp).elim (λz=>I.pin p (aaZ _ z)) (h p),I.aH,I.len,I.hq]
def Il{N:List Str}(hN:N.Nodup){i j:Nat}(a:N[i]? = some x)(b:N[j]? = some x):i=j:=by
 let#[h1,e1]:=acN.mp a;let#[h2,e2]:=acN.mp b;apply(List.getElem_inj hN).mp (e1.trans e2.symm)
def Pw{M:Model}(I:Inv X af U H s)(hN:X.N.Nodup)(hi:X.N[i]? = some x)(hx:Loc X.env.scope x)(r:RelV v u)
  (h:∀s',Inv X af (U.set i (some v)) H s'->(∃a,Heap.SameBut a s.heap s'.heap/\(a=X.env.locals\/X.env.cells.lookup x=some a))->Q () s') (hf:X.fn x=true\/X.env.scope.names.lookup x=some .local:=by first|exact .inl rfl|exact .inr rfl|assumption):wpAny M A (storeName X.env x u) Q E s:=by
 let#[m,hn,hl]:=id I.loc;have yd:(X.env.scope.kind == .class||(X.env.scope.kind == .module&&X.env.locals != X.env.globals))=false:=by rw[I.ok.kind];rfl
 have R1:i<U.length:=by rw[I.len];apply(acN.mp hi).1
 have jK:=I.jK;have tracked:∀{a:Addr} {h'},(∃o,s.heap.get? a=some o/\H a=none)->Heap.SameBut a s.heap h'->c8 X.prog X.w H h':=λ{a h'} ha hs b ob e=>by
  let#[_,_,Ry]:=ha;refine(I.aH b ob e).fS (λc w' hc q=>(hs.2 c ?_).trans q) (λ_ q=>q) λ_ _ q=>q
  rintro rfl
  rcases hc with rfl|hc
  .rw[Ry] at e;ext e
  .rw[Ry] at hc;ext hc
 rcases hx with hk|hk
 .refine wpAny_storeName_local hk hn (λh' Ew hs=>?_) yd;let#[oL,_,_,CB,_]:=id hn;refine h _ #[I.ok,I.os,I.bare,#[λb o e n hb hx=>?_,λb o e n hb hx=>?_,I.base.free,λb o e hx=>?_,I.base.iM,I.base.iz,I.base.jG],#[_,Ew,λj y v' e1 e2 e3=>?_],λy c e=>?_,I.free,I.gj,λp hp=>?_,tracked #[oL,CB,I.free] hs,by simpa using I.len,I.hq] #[_,hs,.inl rfl]
  .exact(hs.2 b (acy (acV (aa5 e) I.ok.above))).trans (I.base.keep b o e n hb hx)
  .let#[sl,e1]:=I.base.slot b o e n hb hx;apply#[sl,(hs.2 b (acy (acV (aa5 e) I.ok.above))).trans e1]
  .let#[o',e1]:=I.base.there b o e hx;apply#[o',(hs.2 b (acy (acV (aa5 e) I.ok.above))).trans e1]
  .by_cases hj:j=i
   .subst hj;rw[hi] at e1;ext e1;rw[ae0 R1] at e2;ext e2;apply#[u,r,.inl #[hk,by simp]]
   .rw[ac6 (afW hj)] at e2;let#[u',r',q]:=hl j y v' e1 e2 e3;refine#[u',r',?_];rcases q with⟨k,e⟩|⟨k,c,e,z⟩
    .refine .inl #[k,?_];have:y≠x:=λe=>hj (Il hN e1 (e ▸ hi))
     simp[this,e]
    .exact .inr #[k,c,e,z.sameBut hs (jK y c e)]
  .let#[w',z]:=I.cell y c e;apply#[w',z.sameBut hs (jK y c e)]
  .let#[e,n,ne,nf,d]:=I.pin p hp;apply#[(hs.2 p.1 ne).trans e,n,ne,nf,d]
 .have Lb:X.fn x=true:=by
   rcases hf with z|z
   .exact z
   .rw[z] at hk;ext hk
  let#[c,hc]:=I.ok.has x (.inl hk);let#[w',z]:=I.cell x c hc;refine wpAny_storeName_cell I.ok.kind hk hc z (λh' uf hs=>?_);let#[oc,lB,aej]:=id z;refine h { s with heap:=h' } #[I.ok,I.os,I.bare,#[λb o e n hb hx=>?_,λb o e n hb hx=>?_,I.base.free,λb o e hx=>?_,I.base.iM,I.base.iz,I.base.jG],#[m,hn.sameBut hs (afW (jK x c hc)),λj y v' e1 e2 e3=>?_],λy c' e=>?_,I.free,I.gj,λp hp=>?_,tracked #[oc,lB,I.gj x c hc] hs,by simpa using I.len,I.hq] #[c,hs,.inr hc]
  .exact(hs.2 b (acy (acV (aa5 e) (I.ok.n_ x c Lb hc)))).trans (I.base.keep b o e n hb hx)
  .let#[sl,e1]:=I.base.slot b o e n hb hx;apply#[sl,(hs.2 b (acy (acV (aa5 e) (I.ok.n_ x c Lb hc)))).trans e1]
  .let#[o',e1]:=I.base.there b o e hx;apply#[o',(hs.2 b (acy (acV (aa5 e) (I.ok.n_ x c Lb hc)))).trans e1]
  .by_cases hj:j=i
   .subst hj;rw[hi] at e1;ext e1;rw[ae0 R1] at e2;ext e2;apply#[u,r,.inr #[.inl hk,c,hc,uf]]
   .rw[ac6 (afW hj)] at e2;let#[u',r',q]:=hl j y v' e1 e2 e3;refine#[u',r',?_];rcases q with q|⟨k,c',e,z'⟩
    .exact .inl q
    .refine .inr #[k,c',e,z'.sameBut hs ?_]
     rintro rfl
     apply hj (Il hN e1 (I.ok.inj _ _ _ e hc ▸ hi))
  .by_cases RL:c'=c
   .subst RL;apply#[_,uf]
   .let#[w2,z2]:=I.cell y c' e;apply#[w2,z2.sameBut hs RL]
  .let#[e,n,ne,nf,d]:=I.pin p hp;refine#[(hs.2 p.1 ?_).trans e,n,ne,nf,d];intro q;rw[q,lB] at e;have q':=acq e;apply d w' (by rw[<- q'];apply aej)
def Cr(I:Inv X af U H s)(hN:X.N.Nodup)(hi:X.N[i]? = some x)(hx:Loc X.env.scope x)(r:RelV v u)
  (h:∀s',Inv X af (U.set i (some v)) H s'->Q () s') (hf:X.fn x=true\/X.env.scope.names.lookup x=some .local:=by first|exact .inl rfl|exact .inr rfl|assumption):wpAny M A (storeName X.env x u) Q E s:=
 Pw I hN hi hx r (λs' I' _=>h s' I') hf
def Inv.NX(I:Inv X af U H s)(ho:s'.os=s.os)(u:Un (bq X.stack) ch H H' s.heap s'.heap)(aH:c8 X.prog X.w H' s'.heap)(hg:AllBare s'.gens)
  (nj:∀b∈ch,(b∈X.ex\/X.cZ.heap.objs.size<=b)/\b≠X.env.locals/\(∀x c,X.env.cells.lookup x=some c->c≠b)/\∀p∈X.pn++af,p.1≠b):Inv X af U H' s':=by
 let#[h',g',d',t',o']:=s';have e:=ho;subst e;apply I.call (g':=g') (d':=d') u aH hg nj
end
abbrev XK:=Value->Option Addr->Hp->Prop
abbrev St:=List (Option V)
abbrev VK:=V->Hp->Prop
abbrev TE:=St->Hp->VK->Prop
abbrev TT:=St->Hp->(Bool->Hp->Prop)->Prop
abbrev TA:=St->Hp->(List V->Hp->Prop)->Prop
structure Ends where
 nx:St->Hp->Prop
 rt:VK
 bk:St->Hp->Prop:=λ_ _=>False
 ct:St->Hp->Prop:=λ_ _=>False
abbrev TS:=Ends->St->Hp->Prop
def EP(X:Cx)(af:List (Addr×Obj))(U:St)(Q:VK)(u:Value)(s':Shared):Prop:=∃v H',Inv X af U H' s'/\RelV v u/\Q v H'
def TP(X:Cx)(af:List (Addr×Obj))(U:St)(Q:Bool->Hp->Prop)(b:Bool)(s':Shared):Prop:=∃H',Inv X af U H' s'/\Q b H'
def AP(X:Cx)(af:List (Addr×Obj))(U:St)(Q:List V->Hp->Prop)(us:List Value)(s':Shared):Prop:=∃vs H',Inv X af U H' s'/\aT vs us/\Q vs H'
def SP(X:Cx)(af:List (Addr×Obj))(D:Ends)(f:Flow)(s':Shared):Prop:=
 match f with
 |.next=>∃aE H',Inv X af aE H' s'/\D.nx aE H'
 |.brk=>∃aE H',Inv X af aE H' s'/\D.bk aE H'
 |.cont=>∃aE H',Inv X af aE H' s'/\D.ct aE H'
 |.ret u=>∃v aE H',Inv X af aE H' s'/\RelV v u/\D.rt v H'
def PE(X:Cx)(e:Expr)(t:TE):Prop:=
 ∀(af) (s) (U) (H) (Q),Inv X af U H s->t U H Q->wpAny (model X.prog X.w) X.A (eval e X.env) (EP X af U Q) X.xe s
def PT(X:Cx)(e:Expr)(t:TT):Prop:=
 ∀(af) (s) (U) (H) (Q),Inv X af U H s->t U H Q->wpAny (model X.prog X.w) X.A (isTrue e X.env (eval e X.env)) (TP X af U Q) X.xe s
def PW(X:Cx)(e:Expr)(t:TT):Prop:=
 ∀(whole) (af) (s) (U) (H) (Q),Inv X af U H s->t U H Q->wpAny (model X.prog X.w) X.A (isTrue e X.env whole) (TP X af U Q) X.xe s
def PW.pt(h:PW X e t):PT X e t:=h _
def PA(X:Cx)(es:List Expr)(t:TA):Prop:=
 ∀(pos) (af) (s) (U) (H) (Q),Inv X af U H s->t U H Q->wpAny (model X.prog X.w) X.A (spliced (backTo pos (starEach es X.env))) (AP X af U Q) X.xe s
def PS(X:Cx)(st:Stmt)(t:TS):Prop:=
 ∀(af) (s) (U) (H) (D),Inv X af U H s->t D U H->wpAny (model X.prog X.w) X.A (exec st X.env) (SP X af D) X.xe s
def g_(X:Cx)(st:List Stmt)(t:TS):Prop:=
 ∀(af) (s) (U) (H) (D),Inv X af U H s->t D U H->wpAny (model X.prog X.w) X.A (execs st X.env) (SP X af D) X.xe s
def cL(h:wpAny M A t Q E s)(hQ:∀a s,Q a s->Q' a s):wpAny M A t Q' E s:=ad1 h hQ λ_ _ x=>x
def wH(h:wpAny M A t (EP X af U Q) E s)(k:∀v s1 x H1,Inv X af U H1 s1->RelV x v->Q x H1->Q' v s1):wpAny M A t Q' E s:=cL h λv s1 #[x,H1,I,r,q]=>k v s1 x H1 I r q
def tU(h:wpAny M A t (AP X af U Q) E s)(k:∀v s1 x H1,Inv X af U H1 s1->aT x v->Q x H1->Q' v s1):wpAny M A t Q' E s:=cL h λv s1 #[x,H1,I,r,q]=>k v s1 x H1 I r q
def JG(h:wpAny M A t (TP X af U Q) E s)(k:∀v s1 H1,Inv X af U H1 s1->Q v H1->Q' v s1):wpAny M A t Q' E s:=cL h λv s1 #[H1,I,q]=>k v s1 H1 I q
def PE.n(a:PE X e t)(I:Inv X af U H s)(h:t U H Q)(k:∀v s1 x H1,Inv X af U H1 s1->RelV x v->Q x H1->Q' v s1):wpAny (model X.prog X.w) X.A (eval e X.env) Q' X.xe s:=wH (a af s U H Q I h) k
def PT.n(a:PT X e t)(I:Inv X af U H s)(h:t U H Q)(k:∀v s1 H1,Inv X af U H1 s1->Q v H1->Q' v s1):wpAny (model X.prog X.w) X.A (isTrue e X.env (eval e X.env)) Q' X.xe s:=JG (a af s U H Q I h) k
def PA.n(a:PA X e t)(I:Inv X af U H s)(h:t U H Q)(k:∀v s1 x H1,Inv X af U H1 s1->aT x v->Q x H1->Q' v s1):wpAny (model X.prog X.w) X.A (spliced (backTo pos (starEach e X.env))) Q' X.xe s:=tU (a pos af s U H Q I h) k
section
def oG(i:Nat):TE:=λU H Q=>∃v,U[i]? = some (some v)/\Q v H
def tC(v:V):TE:=λ_ H Q=>Q v H
def Lu(hN:X.N[i]? = some x)(hv:CN X.env.scope x)(hd:(x==("__debug__":Str))=false:=by decide)(gI:(x==("__classdict__":Str))=false:=by decide):PE X (.Name x pos) (oG i):=by
 intro af s U H Q I h;let#[v,e,h]:=h;let#[m,hn,hl]:=I.loc;let#[u,r,l]:=hl i x v hN e hv;have fin:EP X af U Q u s:=#[v,H,I,r,h]
 rcases l with⟨hk,hm⟩|⟨hk,c,hc,RY⟩
 .exact wpAny_Name (wpAny_loadName_local I.ok.kind hk hn hm fin) hd
 .rcases hk with hk|hk
  .exact wpAny_Name (wpAny_loadName_cell I.ok.kind hk hc RY fin) hd
  .exact wpAny_Name (wpAny_loadName_free I.ok.kind hk hc RY fin gI) hd
def Fj{i j pos}:PE X (.Constant (.int i) j pos) (tC (.int i)):=λ_ _ _ H _ I h=>wpAny_Constant_int #[.int i,H,I.tok _,#[_,rfl],h]
def WY{b j pos}:PE X (.Constant (.bool b) j pos) (tC (.bl b)):=λ_ _ _ H _ I h=>Constant_bool #[.bl b,H,I,rfl,h]
def ah2{j pos}:PE X (.Constant .none j pos) (tC .aI):=λ_ _ _ H _ I h=>Constant_none #[.aI,H,I,rfl,h]
def Sj{x j pos}:PE X (.Constant (.str x) j pos) (tC (.str x)):=λ_ _ _ H _ I h=>Calls.Constant_str #[.str x,H,I.tok _,#[_,rfl],h]
def Gl(X:Cx)(x:Str):Prop:=X.env.kindOf x=some .globalImplicit
def qI(I:Inv X af U H s)(hg:Gl X x)(hm:X.mg x=some u)(h:Q u s)
  (hd:(x==("__debug__":Str))=false:=by decide):wpAny (model X.prog X.w) X.A (eval (.Name x pos) X.env) Q E s:=
 Calls.Name_function_global I.ok.kind hg (Calls.loadGlobal_global (by rw[I.ok.glob];apply I.mod.glob.keeps I.bk) hm h) hd
def nZ(I:Inv X af U H s)(hg:Gl X x)(hm:X.mg x=none)(hv:bootBuiltins x=some u)(h:Q u s)
  (hn:x≠"__name__":=by decide) (hd:(x==("__debug__":Str))=false:=by decide):wpAny (model X.prog X.w) X.A (eval (.Name x pos) X.env) Q E s:=by
 let#[mb,h1,h2]:=I.mod.blt;apply Calls.Name_function_global I.ok.kind hg (Calls.loadGlobal_builtin (by rw[I.ok.glob];apply I.mod.glob.keeps I.bk) hm (by rw[I.ok.blt];apply h1.keeps I.bk) ((h2 x hn).trans hv) h) hd
def Nf(hg:Gl X x)(hm:X.mg x=some u)(r:RelV v u)(hd:(x==("__debug__":Str))=false:=by decide):PE X (.Name x pos) (tC v):=
 λ_ _ _ H _ I h=>qI I hg hm #[v,H,I,r,h] hd
def P6(hg:Gl X x)(hm:X.mg x=none)(hv:bootBuiltins x=some u)(r:RelV v u)(hn:x≠"__name__":=by decide)(hd:(x==("__debug__":Str))=false:=by decide):PE X (.Name x pos) (tC v):=
 λ_ _ _ H _ I h=>nZ I hg hm hv #[v,H,I,r,h] hn hd
def PC(X:Cx)(op:CmpOp)(a b:Expr)(t:TE):Prop:=
 ∀(af) (s) (U) (H) (Q),Inv X af U H s->t U H Q->
  wpAny (model X.prog X.w) X.A (eval a X.env) (λv cg=>wpAny (model X.prog X.w) X.A (eval b X.env) (λu qz=>wpAny (model X.prog X.w) X.A (compareOp op v u) (EP X af U Q) X.xe qz) X.xe cg) X.xe s
def tB(t:TE):TT:=λU H Q=>t U H λx H1=>∃c,x=.bl c/\Q c H1
def PL(h:PC X op a b t)(h1:behindInMarks op b=false:=by first|exact YQ _ (by decide) (by decide)|rfl):PE X (.Compare a [op] [b] pos) t:=λaf s U H Q I hw=>wpAny_Compare1 (h af s U H Q I hw) h1
def aih(h:PC X op a b t)(h1:behindInMarks op b=false:=by first|exact YQ _ (by decide) (by decide)|rfl):PT X (.Compare a [op] [b] pos) (tB t):=by
 intro af s U H Q I hw;refine wpAny_isTrue_Compare1 (cL (h af s U H _ I hw) λv s1 h1=>cL h1 λu s2 h2=>cL h2 λc s3 #[x,H1,I1,r1,q1]=>?_) h1;let#[d,rfl,q]:=q1;ext r1;apply afC #[H1,I1,q]
def MK(h:PE X e t)(he:∀whole,isTrue e X.env whole=(do let v <- whole;standAt e.pos;holding [v] (truthy v)):=by intro _;rfl):PT X e (tB t):=by
 intro af s U H Q I hw;refine isTrue_plain (h.n I hw λv s1 x H1 I1 r1 q1=>?_) (he _);let#[d,rfl,q]:=q1;ext r1;apply afC #[H1,I1,q]
variable{rest:List Expr}
def ZO(t u:TT):TT:=λU H Q=>t U H λc H1=>if c=true then u U H1 Q else Q false H1
def tOr(t u:TT):TT:=λU H Q=>t U H λc H1=>if c=true then Q true H1 else u U H1 Q
def X7(t:TT):TT:=λU H Q=>t U H λc H1=>Q (!c) H1
def MG(ha:PT X a tA):PW X (.BoolOp .And [a] pos) tA:=by
 intro wh af s U H Q I h;refine isTrue_and (cL (ha af s U H Q I h) λc s1 e=>?_);cases c with
 |true=>apply isTrue_and_nil e
 |false=>apply e
def aiA(ha:PT X a tA):PW X (.BoolOp .Or [a] pos) tA:=by
 intro wh af s U H Q I h;refine isTrue_or (cL (ha af s U H Q I h) λc s1 e=>?_);cases c with
 |false=>apply isTrue_or_nil e
 |true=>apply e
def Pk(ha:PT X a tA)(hb:PW X (.BoolOp .And (b::rest) pos) El):PW X (.BoolOp .And (a::b::rest) pos) (ZO tA El):=by
 intro wh af s U H Q I h;refine isTrue_and (ha.n I h λc s1 H1 I1 q1=>?_);cases c with
 |true=>apply hb wh af s1 U H1 Q I1 q1
 |false=>apply#[H1,I1,q1]
def aad(ha:PT X a tA)(hb:PW X (.BoolOp .Or (b::rest) pos) El):PW X (.BoolOp .Or (a::b::rest) pos) (tOr tA El):=by
 intro wh af s U H Q I h;refine isTrue_or (ha.n I h λc s1 H1 I1 q1=>?_);cases c with
 |true=>apply#[H1,I1,q1]
 |false=>apply hb wh af s1 U H1 Q I1 q1
def agP(ha:PT X a tA):PT X (.UnaryOp .Not a pos) (X7 tA):=by
 intro af s U H Q I h;apply isTrue_not (ha af s U H (λc H1=>Q (!c) H1) I h)
def acH(ta tb:TE):TE:=λU H Q=>ta U H λx H1=>∃c,x=.bl c/\if c=true then tb U H1 Q else Q (.bl false) H1
def aa8(ta tb:TE):TE:=λU H Q=>ta U H λx H1=>∃c,x=.bl c/\if c=true then Q (.bl true) H1 else tb U H1 Q
def adL(ta:TE):TE:=λU H Q=>ta U H λx H1=>∃c,x=.bl c/\Q (.bl (!c)) H1
def Uw{op}(h:PE X a t):PE X (.BoolOp op [a] pos) t:=λaf s U H Q I hw=>BoolOp_one (h af s U H Q I hw)
def X4(ha:PE X a ta)(hb:PE X (.BoolOp .And (b::rest) pos) tb):PE X (.BoolOp .And (a::b::rest) pos) (acH ta tb):=by
 intro af s U H Q I h;refine BoolOp_and (ha.n I h λv s1 x H1 I1 r1 q1=>?_);let#[c,rfl,q1]:=q1;ext r1;refine afC ?_;cases c with
 |true=>apply hb af s1 U H1 Q I1 q1
 |false=>apply#[.bl false,H1,I1,rfl,q1]
def YJ(ha:PE X a ta)(hb:PE X (.BoolOp .Or (b::rest) pos) tb):PE X (.BoolOp .Or (a::b::rest) pos) (aa8 ta tb):=by
 intro af s U H Q I h;refine BoolOp_or (ha.n I h λv s1 x H1 I1 r1 q1=>?_);let#[c,rfl,q1]:=q1;ext r1;refine afC ?_;cases c with
 |false=>apply hb af s1 U H1 Q I1 q1
 |true=>apply#[.bl true,H1,I1,rfl,q1]
def XM(ha:PE X a ta):PE X (.UnaryOp .Not a pos) (adL ta):=by
 intro af s U H Q I h;refine UnaryOp_ (ha.n I h λv s1 x H1 I1 r1 q1=>?_);let#[c,rfl,q1]:=q1;ext r1;apply not_of (afC #[.bl (!c),H1,I1,rfl,q1])
def VB(t:TT)(ta tb:TE):TE:=λU H Q=>t U H λc H1=>if c=true then ta U H1 Q else tb U H1 Q
def Yn(hc:PT X c tA)(ha:PE X a ta)(hb:PE X b tb):PE X (.IfExp c a b pos) (VB tA ta tb):=by
 intro af s U H Q I h;refine wpAny_IfExp (hc.n I h λd s1 H1 I1 q1=>?_);cases d with
 |true=>apply ha af s1 U H1 Q I1 q1
 |false=>apply hb af s1 U H1 Q I1 q1
end
def ck(K:Fr)(H:Hp)(a:Addr)(xs:List V):Prop:=
 Rd H a (.lst xs)\/
  ∃(o:Obj) (aA:Array Value) (n:Nat),K.lookup a=some o/\o.cls=.type "list"/\o.dict=none/\o.data=.seq aA n/\aA.size<=sizeLine/\aT xs aA.toList
def bK(K:Fr)(H:Hp)(a:Addr)(xs:List V):Prop:=
 Rd H a (.tup xs)\/
  ∃(o:Obj) (aA:Array Value) (n:Nat),K.lookup a=some o/\o.cls=.type "tuple"/\o.dict=none/\o.data=.seq aA n/\aA.size<=sizeLine/\aT xs aA.toList
def ag8:Value->Option V
 |.none=>some .aI
 |.bool b=>some (.bl b)
 |.int i _=>some (.int i)
 |.str x _=>some (.str x)
 |.bytes b _=>some (.jV b)
 |.float b _=>some (.sF b)
 |.ref a=>some (.ref a)
 |.type n=>some (.ty n)
 |_=>none
def RelV.abs(r:RelV x u):ag8 u=some x:=by
 cases x with
 |aI=>ext r;rfl
 |bl _=>ext r;rfl
 |int _=>let#[t,rfl]:=r;rfl
 |str _=>let#[t,rfl]:=r;rfl
 |jV _=>let#[t,rfl]:=r;rfl
 |sF _=>let#[t,rfl]:=r;rfl
 |ref _=>ext r;rfl
 |ty _=>ext r;rfl
def RelV.inj(r:RelV x u)(q:RelV y u):x=y:=acq (r.abs.symm.trans q.abs)
def aT.inj:∀{xs ys} {us},aT xs us->aT ys us->xs=ys
 |_,_,_,.nil,.nil=>rfl
 |_,_,_,.cons r t,.cons r' t'=>by rw[r.inj r',aT.inj t t']
def ck.of{K:Fr}(h:H a=some (.lst xs)):ck K H a xs:=.inl (.inl h)
def bK.of{K:Fr}(h:H a=some (.tup xs)):bK K H a xs:=.inl (.inl h)
def Inv.list(I:Inv X af U H s)(h:ck X.K H a xs):∃aA:List Value,aT xs aA/\PlainL s.heap a aA.toArray/\xs.length<=sizeLine:=by
 rcases h with h|⟨o,aA,n,hk,hc,hd,hs,hz,r⟩
 .let#[z,aA,n,r,e]:=h.ok I.aH;apply#[aA,r,#[_,n,e,rfl,rfl,rfl],z]
 .refine#[aA.toList,r,#[o,n,I.dU a o hk,hc,hd,by simpa using hs],?_];have e:=r.length;simp only[ae9] at e;omega
def Inv.MW(I:Inv X af U H s)(h:bK X.K H a xs):∃aA:List Value,aT xs aA/\lI s.heap a aA.toArray/\xs.length<=sizeLine:=by
 rcases h with h|⟨o,aA,n,hk,hc,hd,hs,hz,r⟩
 .let#[z,aA,r,p]:=h.ok I.aH;apply#[aA,r,p,z]
 .refine#[aA.toList,r,#[o,I.dU a o hk,hc,hd,n,by simpa using hs],?_];have e:=r.length;simp only[ae9] at e;omega
def Inv.tuple(I:Inv X af U H s)(h:bK X.K H a xs):∃aA:List Value,aT xs aA/\IsTup s.heap a aA.toArray/\xs.length<=sizeLine:=by
 rcases h with h|⟨o,aA,n,hk,hc,hd,hs,hz,r⟩
 .let#[z,aA,r,p]:=h.ok I.aH;apply#[aA,r,p.isTup,z]
 .refine#[aA.toList,r,#[o,I.dU a o hk,hc,n,by simpa using hs],?_];have e:=r.length;simp only[ae9] at e;omega
def Inv.Li(I:Inv X af U H s)(h:ck X.K H a xs)(h':ck X.K H a ys):xs=ys:=by
 let#[aA,r,#[o,n,e,_,_,d],_]:=I.list h;let#[its',r',#[o',n',e',_,_,d'],_]:=I.list h';rw[e] at e';ext e';rw[d] at d';injection d' with d1 _;have:aA=its':=by simpa using congrArg Array.toList d1
 subst this;apply r.inj r'
def Inv.GX(I:Inv X af U H s)(h:bK X.K H a xs)(h':bK X.K H a ys):xs=ys:=by
 let#[aA,r,#[o,e,_,n,d],_]:=I.tuple h;let#[its',r',#[o',e',_,n',d'],_]:=I.tuple h';rw[e] at e';ext e';rw[d] at d';injection d' with d1 _;have:aA=its':=by simpa using congrArg Array.toList d1
 subst this;apply r.inj r'
abbrev Cx.kM(X:Cx)(E:Value->Shared->Prop):Cx:={ X with xe:=E }
abbrev Cx.f_(X:Cx):Cx:=X.kM λ_ _=>False
def Cx.Ok.kM{X:Cx}(ok:X.Ok)(E:Value->Shared->Prop):(X.kM E).Ok:=
 #[ok.mod,ok.kind,ok.glob,ok.blt,ok.above,ok.inj,ok.has,ok.n_,ok.hd,ok.frames,ok.qQ,ok.uu,ok.bs,ok.jd,ok.pH,ok.oU,ok.jh,ok.mQ]
def Cx.Ok.mW{X:Cx}(ok:(X.kM E).Ok):X.Ok:=
 #[ok.mod,ok.kind,ok.glob,ok.blt,ok.above,ok.inj,ok.has,ok.n_,ok.hd,ok.frames,ok.qQ,ok.uu,ok.bs,ok.jd,ok.pH,ok.oU,ok.jh,ok.mQ]
def Inv.kM(I:Inv X af U H s)(E:Value->Shared->Prop):Inv (X.kM E) af U H s:=#[I.ok.kM E,I.os,I.bare,I.base,I.loc,I.cell,I.free,I.gj,I.pin,I.aH,I.len,I.hq]
def Inv.mW(I:Inv (X.kM E) af U H s):Inv X af U H s:=#[I.ok.mW,I.os,I.bare,I.base,I.loc,I.cell,I.free,I.gj,I.pin,I.aH,I.len,I.hq]
def SP.mW(h:SP (X.kM E) af D f s'):SP X af D f s':=by
 cases f with
 |next=>let#[aE,H',I,q]:=h;apply#[aE,H',I.mW,q]
 |brk=>let#[aE,H',I,q]:=h;apply#[aE,H',I.mW,q]
 |cont=>let#[aE,H',I,q]:=h;apply#[aE,H',I.mW,q]
 |ret u=>let#[v,aE,H',I,r,q]:=h;apply#[v,aE,H',I.mW,r,q]
def g_.f_{st:List Stmt}(h:g_ X.f_ st t):g_ X st t:=λaf s U H D I hw=>
 ad1 (h af s U H D (I.kM _) hw) (λ_ _ q=>q.mW) λ_ _ z=>False.elim z
section
variable{st:Stmt}{rest:List Stmt}
def Vq:TS:=λD U H=>D.nx U H
def UK(t u:TS):TS:=λD U H=>t { D with nx:=u D } U H
def SV:g_ X [] Vq:=λ_ _ U H _ I h=>ajr #[U,H,I,h]
def xG(h1:PS X st t)(h2:g_ X rest u):g_ X (st::rest) (UK t u):=by
 intro af s U H D I h;refine wpAny_execs_cons (cL (h1 af s U H { D with nx:=u D } I h) λf s1 q=>?_);cases f with
 |next=>
  let#[aE,H',I',q]:=q;apply h2 af s1 aE H' D I' q
 |ret v=>apply q
 |brk=>apply q
 |cont=>apply q
def Uh(h1:PS X st t):g_ X [st] t:=by
 intro af s U H D I h;refine wpAny_execs_cons (cL (h1 af s U H D I h) λf s1 q=>?_);cases f with
 |next=>apply ajr q
 |ret v=>apply q
 |brk=>apply q
 |cont=>apply q
def Inv.quiet(I:Inv X af U H s):interactive X.env=false:=by simp[interactive,I.ok.kind]
def Z4(te:TE):TS:=λD U H=>te U H λ_ H1=>D.nx U H1
def Dm(he:PE X e te)(hs:swapsWith e none pos.line X.env=pure false:=by rfl):PS X (.Expr e pos) (Z4 te):=by
 intro af s U H D I h;apply wpAny_Expr_any (he.n I h λv s1 x H1 I1 r1 q1=>#[U,H1,I1,q1]) I.quiet hs
def aam(te:TE):TS:=λD U H=>te U H D.rt
def zW(he:PE X e te):PS X (.Return (some e) pos) (aam te):=by
 intro af s U H D I h;apply wpAny_Return_some (he.n I h λv s1 x H1 I1 r1 q1=>#[x,U,H1,I1,r1,q1])
def Xv(c:TT)(t u:TS):TS:=λD U H=>c U H λb H1=>if b=true then t D U H1 else u D U H1
def N4(hc:PT X c tc)(ha:g_ X a t)(hb:g_ X b u):PS X (.If c a b pos) (Xv tc t u):=by
 intro af s U H D I h;refine wpAny_If (hc.n I h λd s1 H1 I1 q1=>?_);cases d with
 |true=>apply ha af s1 U H1 D I1 q1
 |false=>apply hb af s1 U H1 D I1 q1
def R3:TS:=λ_ _ _=>False
def QU:PS X st R3:=λ_ _ _ _ _ _ h=>h.elim
def Ww:g_ X sts R3:=λ_ _ _ _ _ _ h=>h.elim
end
abbrev TG:=V->St->Hp->(St->Hp->Prop)->Prop
abbrev xJ:=List V->St->Hp->(St->Hp->Prop)->Prop
def PG(X:Cx)(target:Expr)(t:TG):Prop:=
 ∀(af) (s) (U) (H) (v) (u) (Q),Inv X af U H s->RelV v u->t v U H Q->
  wpAny (model X.prog X.w) X.A (assign target X.env u) (λ_ s'=>∃aE H',Inv X af aE H' s'/\Q aE H') X.xe s
def zm(X:Cx)(ts:List Expr)(t:xJ):Prop:=
 ∀(af) (s) (U) (H) (vs) (us) (Q),Inv X af U H s->aT vs us->t vs U H Q->
  wpAny (model X.prog X.w) X.A (assignInOrder ((assignEach ts X.env).map (·.2)) us) (λ_ s'=>∃aE H',Inv X af aE H' s'/\Q aE H') X.xe s
def tQ(i:Nat):TG:=λv U H Q=>Q (U.set i (some v)) H
def QF(hN:X.N.Nodup)(hi:X.N[i]? = some x)(hx:Loc X.env.scope x)(hf:X.fn x=true\/X.env.scope.names.lookup x=some .local:=by first|exact .inl rfl|exact .inr rfl|assumption):PG X (.Name x pos) (tQ i):=by
 intro af s U H v u Q I r h;apply wpAny_assign_Name (Cr I hN hi hx r (λs' I'=>#[_,H,I',h]) hf)
def adi:xJ:=λvs U H Q=>vs=[]/\Q U H
def Yg(t:TG)(u:xJ):xJ:=λvs U H Q=>∃v r,vs=v::r/\t v U H λaE H'=>u r aE H' Q
def Xo:zm X [] adi:=by
 intro af s U H vs us Q I r h;let#[e,h]:=h;subst e;ext r;apply assignInOrder_nil #[U,H,I,h]
def ahy(h1:PG X e t)(h2:zm X es u)
  (hs:(assignEach (e::es) X.env).map (·.2)=assign e X.env::(assignEach es X.env).map (·.2):=by rfl):zm X (e::es) (Yg t u):=by
 intro af s U H vs us Q I r h;let#[v,vr,e1,h]:=h;subst e1;cases r with
 |cons r rr=>
  rw[hs];refine assignInOrder_cons (cL (h1 af s U H _ _ _ I r h) ?_)
  rintro _ s1 ⟨pK,H1,I1,q1⟩
  apply h2 af s1 pK H1 _ _ Q I1 rr q1
def afO(K:Fr)(n:Nat)(t:xJ):TG:=λv U H Q=>∃a xs,v=.ref a/\bK K H a xs/\xs.length=n/\t xs U H Q
def WU(hc:X.calm=true)(h:zm X es t)
  (hn:(assignEach es X.env).length=n:=by rfl) (dJ:(assignEach es X.env).findIdx? (·.1)=none:=by rfl):PG X (.Tuple es k pos) (afO X.K n t):=by
 intro af s U H v u Q I r hw;let#[a,xs,e1,hq,hl,hw]:=hw;subst e1;ext r;let#[aA,rv,ht,hz]:=I.tuple hq;refine assign_Tuple_tuple (I.ok.hd hc) ht (by simp[hn,<- hl,rv.length]) dJ λh' hx=>?_
 have I1:=I.kept (t':=s.toks) λb o e=>hx b o (acy (aa5 e)) e
 apply h af _ U H xs _ Q I1 (by simpa using rv) hw
def Gp(te:TE)(g:TG):TS:=λD U H=>te U H λx H1=>g x U H1 D.nx
def aaG(he:PE X e te)(hg:PG X tg g)(hs:swapsWithSole [tg] e pos.line X.env=pure false:=by rfl)(hw:swappedStores [tg] e X.env=pure none:=by rfl)
  (h1:(assignEach [tg] X.env).map (·.2)=[assign tg X.env]:=by rfl):PS X (.Assign [tg] e pos) (Gp te g):=by
 intro af s U H D I h;refine wpAny_Assign_stores (he.n I h λv s1 x H1 I1 r1 q1=>?_) hs hw;rw[h1];apply cL (hg af s1 U H1 x v _ I1 r1 q1) λ_ s2 q=>q
def B0(hN:X.N.Nodup)(hi:X.N[i]? = some x)(hx:Loc X.env.scope x)(he:PE X e te)(hs:swapsWith e (some (.Name x pos')) pos.line X.env=pure false:=by rfl)(hf:X.fn x=true\/X.env.scope.names.lookup x=some .local:=by first|exact .inl rfl|exact .inr rfl|assumption):
  PS X (.Assign [.Name x pos'] e pos) (Gp te (tQ i)):=by
 intro af s U H D I h;refine wpAny_Assign_Name (he.n I h λv s1 y H1 I1 r1 q1=>?_) hs;apply Cr I1 hN hi hx r1 (λs2 I2=>#[_,H1,I2,q1]) hf
def Xz(c:TT)(tb:TS):TS:=λD U H=>∃W:Nat->St->Hp->Prop,(∃m,W m U H)/\∀m U H,W m U H->
 c U H λb H1=>if b=true then ∃N:St->Hp->Prop,(∀aE H',N aE H'->∃m',m'<m/\W m' aE H')/\tb { D with nx:=N,ct:=N,bk:=D.nx } U H1 else D.nx U H1
def RH(hp:PassesOwn (model X.prog X.w) X.A X.env X.xe)(hc:PT X c tc)(hb:g_ X body tb):PS X (.While c body [] pos) (Xz tc tb):=by
 intro af s U H D I h;let#[W,#[m0,w0],turn]:=h;refine wpAny_While (codeAny_whileLoop (λn s'=>∃aE H',Inv X af aE H' s'/\W n aE H') ?_ m0 #[U,H,I,w0])
 rintro n s1 ⟨pK,H1,I1,w1⟩
 refine aiT hp (JG (hc af s1 pK H1 _ I1 (turn n pK H1 w1)) λb s2 H2 I2 q2=>?_);cases b with
 |true=>
  let#[N,hN,q2]:=q2;rw[if_pos rfl];refine aiT hp (cL (hb af s2 pK H2 _ I2 q2) λf s3 q3=>?_);cases f with
  |next=>
   let#[dD,H3,I3,n3]:=q3;let#[m',hm,w3]:=hN dD H3 n3;apply#[m',hm,dD,H3,I3,w3]
  |cont=>
   let#[dD,H3,I3,n3]:=q3;let#[m',hm,w3]:=hN dD H3 n3;apply#[m',hm,dD,H3,I3,w3]
  |brk=>apply q3
  |ret v=>apply q3
 |false=>
  rw[abm aa3];apply ajr #[pK,H2,I2,q2]
structure It where
 go:Nat->Hp->Prop
 x9:Nat->Hp->V->Hp->Prop
 stop:Nat->Hp->Prop
 rg:Bool
def iw(X:Cx)(af:List (Addr×Obj))(H:Hp)(b:Addr):Prop:=
 H b=none/\b≠X.env.locals/\b∉X.fs/\(b∈X.ex\/X.cZ.heap.objs.size<=b)/\(∀x c,X.env.cells.lookup x=some c->c≠b)/\∀p∈X.pn++af,p.1≠b
def Inv.pN(I:Inv X af U H s)(hb:s.heap.objs.size<=b)(hn:H' b=none):iw X af H' b:=by
 refine#[hn,agF (acV I.lt hb),I.RT hb,.inr (adJ I.sz hb),λx c e z=>?_,λp hp z=>?_]
 .let#[v,q]:=I.cell x c e;apply absurd (acV q.lt (by rw[z];apply hb)) (aeM _)
 .exact absurd (acV (aa5 (I.pin p hp).1) (by rw[z];apply hb)) (aeM _)
structure Turn(P:Program)(w:World)(K:Fr)(tg:Expr)(J:It)(fp:List Addr)(it:Addr)(tn:Nat->Heap->Prop):Prop where
 mem:it∈fp
 obj:∀i h,tn i h->∀b∈fp,∃o,h.get? b=some o/\∀v,o.data≠.cell v
 keep:∀i h h',tn i h->(∀b∈fp,∀o,h.get? b=some o->h'.get? b=some o)->tn i h'
 item:∀(X),X.prog=P->X.w=w->X.K=K->(X.calm=true\/J.rg=true)->∀(i) (af) (s) (U) (H) (E),Inv X af U H s->(∀b∈fp,iw X af H b)->tn i s.heap->J.go i H->
  wpAny (model P w) X.A (pyNext (.ref it)) (λr s1=>∃u,r=some u/\
   wpAny (model P w) X.A (letOwnedTupleGo tg (.ref it) u) (λ_ s2=>∃x H',Inv X af U H' s2/\RelV x u/\J.x9 i H x H'/\tn (i+1) s2.heap/\∀b∈fp,H' b=none) E s1) E s
 done:∀(X),X.prog=P->X.w=w->X.K=K->(X.calm=true\/J.rg=true)->∀(i) (af) (s) (U) (H) (E),Inv X af U H s->(∀b∈fp,iw X af H b)->tn i s.heap->J.stop i H->
  wpAny (model P w) X.A (pyNext (.ref it)) (λr s1=>r=none/\Inv X af U H s1) E s
 self:∀(A) (i) (s) (Q) (E),tn i s.heap->Q (.ref it) s->wpAny (model P w) A (pyIter (.ref it)) Q E s
abbrev TI:=St->Hp->(It->Hp->Prop)->Prop
def PY(X:Cx)(af:List (Addr×Obj))(U:St)(tg:Expr)(R:It->Hp->Prop)(DQ:Value)(s2:Shared):Prop:=
 ∃(it:Addr) (fp:List Addr) (tn:Nat->Heap->Prop) (J:It) (H':Hp),DQ=.ref it/\Inv X af U H' s2/\Turn X.prog X.w X.K tg J fp it tn/\tn 0 s2.heap/\(∀b∈fp,iw X af H' b)/\R J H'
def PI(X:Cx)(tg iter:Expr)(wi:TI):Prop:=
 ∀(af) (s) (U) (H) (R),Inv X af U H s->wi U H R->
  wpAny (model X.prog X.w) X.A (eval iter X.env) (λv s1=>wpAny (model X.prog X.w) X.A (pyIter v) (PY X af U tg R) X.xe s1) X.xe s
def Bv(ho:s.heap.get? it=some o)(hc:o.cls=.type n)(hd:o.data=.fields vs)
    (hn:["enumerate","zip","dict_itemiterator","dict_reverseitemiterator","odict_iterator","itertools.zip_longest","itertools.pairwise"].contains n=false) (hQ:Q () s):wpAny M A (letOwnedTupleGo tg (.ref it) u) Q E s:=by
  unfold letOwnedTupleGo;ext tg<;>first
    |exact abc hQ
    | (cases u <;> first
        |exact abc hQ
        | (refine aal (wpAny_load ho ?_)
           rw[hc,hd];show wpAny M A (if(["enumerate","zip","dict_itemiterator","dict_reverseitemiterator","odict_iterator","itertools.zip_longest","itertools.pairwise"].contains n&&vs[0]?==some (rawInt _))=true then _ else _) Q E s;rw[abm (by intro h;rw[hn,Bool.false_and] at h;ext h)];apply abc hQ))
def Ai(K:Fr)(a:Addr):It:=
 #[λi H=>∃xs x,ck K H a xs/\xs[i]? = some x,λi H x H'=>H'=H/\∀xs,ck K H a xs->xs[i]? = some x,λi H=>∃xs,ck K H a xs/\xs.length<=i,false]
def EK(K:Fr)(a:Addr):It:=
 #[λi H=>∃xs x,bK K H a xs/\xs[i]? = some x,λi H x H'=>H'=H/\∀xs,bK K H a xs->xs[i]? = some x,λi H=>∃xs,bK K H a xs/\xs.length<=i,false]
def xj(lo:Int)(n:Nat):It:=#[λi _=>i<n,λi H x H'=>H'=H/\x=.int (lo+i),λi _=>n<=i,true]
def ahz{K:Fr}(a it:Addr):Turn P w K tg (Ai K a) [it] it (λi h=>h.IsListIter it a i) where
 mem:=by simp
 obj:=λi h st b hb=>by
  have e:b=it:=by simpa using hb
  subst e;let#[o,e,c,d]:=st;apply#[o,e,λv z=>by rw[d] at z;ext z]
 keep:=λi h h' st k=>st.at λo e=>k it (by simp) o e
 item:=by
  intro X hP hw hK hc i af s U H E I hf st hg;subst hP hw hK;let#[xs,x,hq,hx]:=hg;let#[aA,rv,p,hz]:=I.list hq;let#[u,hu,ru]:=rv.get hx;let#[f0,f1,f2,f3,f4,f5]:=hf it (by simp);refine wpAny_pyNext_list_item st p.isList (by simpa using hu) λh' kU sb=>?_
  have I1:=I.turned (t':=s.toks) (λb o hb e=>(sb.2 b hb).trans e) f0 f1 f3 f4 f5;let#[o,e,c,d]:=id kU;apply#[u,rfl,Bv e c d (by decide) #[x,H,I1,ru,#[rfl,λys hy=>by rw[I.Li hy hq];apply hx],kU,λb hb=>(hf b hb).1]]
 done:=by
  intro X hP hw hK hc i af s U H E I hf st hg;subst hP hw hK;let#[xs,hq,hx]:=hg;let#[aA,rv,p,hz]:=I.list hq;let#[f0,f1,f2,f3,f4,f5]:=hf it (by simp);have hl:=rv.length;apply wpAny_pyNext_list_end (I.ok.hd (hc.resolve_right λz=>aa3 z)) st p.isList (by simp;omega) λh' eb=>#[rfl,I.turned (λb o hb e=>eb b o hb e) f0 f1 f3 f4 f5]
 self:=λ_ _ _ _ _ st h=>wpAny_pyIter_listiter st h
def aeu{K:Fr}(a it:Addr):Turn P w K tg (EK K a) [it] it (λi h=>h.IsTupleIter it a i) where
 mem:=by simp
 obj:=λi h st b hb=>by
  have e:b=it:=by simpa using hb
  subst e;let#[o,e,c,d]:=st;apply#[o,e,λv z=>by rw[d] at z;ext z]
 keep:=λi h h' st k=>st.at λo e=>k it (by simp) o e
 item:=by
  intro X hP hw hK hc i af s U H E I hf st hg;subst hP hw hK;let#[xs,x,hq,hx]:=hg;let#[aA,rv,p,hz]:=I.tuple hq;let#[u,hu,ru]:=rv.get hx;let#[f0,f1,f2,f3,f4,f5]:=hf it (by simp);refine wpAny_pyNext_tuple_item st (show s.heap.IsTuple a aA.toArray from p) (by simpa using hu) λh' kU sb=>?_
  have I1:=I.turned (t':=s.toks) (λb o hb e=>(sb.2 b hb).trans e) f0 f1 f3 f4 f5;let#[o,e,c,d]:=id kU;apply#[u,rfl,Bv e c d (by decide) #[x,H,I1,ru,#[rfl,λys hy=>by rw[I.GX hy hq];apply hx],kU,λb hb=>(hf b hb).1]]
 done:=by
  intro X hP hw hK hc i af s U H E I hf st hg;subst hP hw hK;let#[xs,hq,hx]:=hg;let#[aA,rv,p,hz]:=I.tuple hq;let#[f0,f1,f2,f3,f4,f5]:=hf it (by simp);have hl:=rv.length;apply wpAny_pyNext_tuple_end (I.ok.hd (hc.resolve_right λz=>aa3 z)) st (show s.heap.IsTuple a aA.toArray from p) (by simp;omega) λh' eb=>#[rfl,I.turned (λb o hb e=>eb b o hb e) f0 f1 f3 f4 f5]
 self:=λ_ _ _ _ _ st h=>wpAny_pyIter_tupleiter st h
def Za{K:Fr}(it:Addr)(lo:Int)(n:Nat):Turn P w K tg (xj lo n) [it] it (λi h=>IsRangeIter h it (lo+(i:Nat)*1) ((n:Int)-(i:Nat)) 1) where
 mem:=by simp
 obj:=λi h st b hb=>by
  have e:b=it:=by simpa using hb
  subst e;apply#[_,st,λv z=>by
   have z':=z;ext z']
 keep:=λi h h' st k=>k it (by simp) _ st
 item:=by
  intro X hP hw hK hc i af s U H E I hf st hg;subst hP hw hK;let#[f0,f1,f2,f3,f4,f5]:=hf it (by simp);refine wpAny_pyNext_range_item st (by have:i<n:=hg;omega) λh' kU sb=>?_
  have I1:Inv X af U H { s with heap:=h',toks:=s.toks+1 }:=I.turned (λb o hb e=>(sb.2 b hb).trans e) f0 f1 f3 f4 f5;have e1:lo+((i+1:Nat):Int)*1=lo+(i:Int)*1+1:=by omega
  have e2:(n:Int)-((i+1:Nat):Int)=(n:Int)-(i:Int)-1:=by omega
  refine#[_,rfl,Bv kU rfl rfl (by decide) #[.int (lo+i),H,I1,#[s.toks,?_],#[rfl,rfl],by rw[e1,e2];apply kU,λb hb=>(hf b hb).1]];rw[Int.mul_one]
 done:=by
  intro X hP hw hK hc i af s U H E I hf st hg;subst hP hw hK;let#[f0,f1,f2,f3,f4,f5]:=hf it (by simp);rcases I.hq.hd with h0|⟨a',ob,u,vs,h0,h1,h2,h3⟩
  .exact wpAny_pyNext_range_end h0 st (by have:n<=i:=hg;omega) λh' eb=>#[rfl,I.turned (λb o hb e=>eb b o hb e) f0 f1 f3 f4 f5]
  .exact agR h0 (I.aH a' _ h1).1 h2 h3 st (by have:n<=i:=hg;omega) λh' eb=>#[rfl,I.turned (λb o hb e=>eb b o hb e) f0 f1 f3 f4 f5]
 self:=λ_ _ _ _ _ st h=>wpAny_pyIter_rangeiter st h
def R6{lo hi:Int}{tk:Nat}(I:Inv X af U H s)(h1:-(2 ^ 62)<=lo)(h2:lo<2 ^ 62)(h3:-(2 ^ 62)<=hi)(h4:hi<2 ^ 62)
  (q:R (xj lo (hi-lo).toNat) H):wpAny (model X.prog X.w) X.A (pyIter (.ref s.heap.objs.size)) (PY X af U tg R) E { s with heap:=s.heap.push { cls:=.type "range",data:=.fields ([.int lo t,.int hi u,.int 1 v].toArray) },toks:=tk }:=by
 refine wpAny_pyIter_range (IsRange.new ..) (small_one h1 h2 h3 h4) ?_;have I1:Inv X af U H { s with heap:=s.heap.push { cls:=.type "range",data:=.fields ([.int lo t,.int hi u,.int 1 v].toArray) },toks:=tk }:=I.kept λb o e=>aak _ e
 refine#[(s.heap.push { cls:=.type "range",data:=.fields ([.int lo t,.int hi u,.int 1 v].toArray) }).objs.size,[(s.heap.push { cls:=.type "range",data:=.fields ([.int lo t,.int hi u,.int 1 v].toArray) }).objs.size],_,_,H,rfl,
  I1.kept λb o e=>aak _ e,Za _ lo (hi-lo).toNat,?_,λb hb=>?_,q]
 .have e1:lo+((0:Nat):Int)*1=lo:=by simp
  have e2:(((hi-lo).toNat:Nat):Int)-((0:Nat):Int)=Builtin.Range.rangeSize lo hi 1:=by rw[rangeSize_one];split<;>omega
  rw[e1,e2];apply abx _ rfl
 .have e:b=(s.heap.push { cls:=.type "range",data:=.fields ([.int lo t,.int hi u,.int 1 v].toArray) }).objs.size:=by simpa using hb
  subst e;apply I1.pN (aa9 _) (I1.aH.fresh (aa9 _))
def acF(ta:TA):TI:=λU H R=>ta U H λvs H1=>∃j:Int,vs=[.int j]/\-(2 ^ 62)<=j/\j<2 ^ 62/\R (xj 0 j.toNat) H1
def Vk(ta:TA):TI:=λU H R=>ta U H λvs H1=>∃i j:Int,vs=[.int i,.int j]/\(-(2 ^ 62)<=i/\i<2 ^ 62/\-(2 ^ 62)<=j/\j<2 ^ 62)/\R (xj i (j-i).toNat) H1
def acu{ta:TA}(hg:Gl X "range")(hm:X.mg "range"=none)(ha:PA X [a] ta)(hs:starEach [a] X.env=[(false,eval a X.env)]:=by rfl):PI X tg (.Call (.Name "range" p) [a] [] pos) (acF ta):=by
 intro af s U H R I h;refine Call_ (nZ I hg hm boot_range (afr (ha.n I h λus s1 vs H1 I1 r1 q1=>?_) hs rfl));let#[j,e,q1,q2,q]:=q1;subst e;cases r1 with
 |cons r rr=>
  ext rr;let#[t,rfl]:=r;apply call_range_1 (R6 I1 (by omega) (by omega) q1 q2 (by simpa using q))
def YZ(hg:Gl X "range")(hm:X.mg "range"=none)(ha:PA X [a,b] ta)(hs:starEach [a,b] X.env=[(false,eval a X.env),(false,eval b X.env)]:=by rfl)(bS:starEach [b] X.env=[(false,eval b X.env)]:=by rfl):
  PI X tg (.Call (.Name "range" p) [a,b] [] pos) (Vk ta):=by
 intro af s U H R I h;refine Call_ (nZ I hg hm boot_range (afr (ha.n I h λus s1 vs H1 I1 r1 q1=>?_) (by rw[hs,bS]) (by rw[bS];rfl)));let#[i,j,e,#[q1,q2,q3,q4],q]:=q1;subst e;cases r1 with
 |cons r rr=>
  cases rr with
  |cons r' rr=>
   ext rr;let#[t,rfl]:=r;let#[t',rfl]:=r';apply call_range_2 (R6 I1 q1 q2 q3 q4 q)
def aiy(wi:TI)(g:TG)(tb:TS):TS:=λD U H=>wi U H λJ H1=>∃W:Nat->Nat->St->Hp->Prop,(∃m,W 0 m U H1)/\∀i m U H,W i m U H->
 (J.stop i H/\D.nx U H)\/(J.go i H/\∃N:St->Hp->Prop,(∀aE H',N aE H'->∃m',m'<m/\W (i+1) m' aE H')/\∀x H',J.x9 i H x H'->g x U H' λiE H2=>tb { D with nx:=N,ct:=N,bk:=D.nx } iE H2)
def zf(fp:List Addr)(h:Heap):List (Addr×Obj):=fp.filterMap λb=>(h.get? b).map λo=>(b,o)
def B_(hb:b∈fp)(e:h.get? b=some o):(b,o)∈zf fp h:=ais.mpr #[b,hb,by rw[e];rfl]
def Xk(hp:p∈zf fp h):p.1∈fp/\h.get? p.1=some p.2:=by
 let#[b,hb,e]:=ais.mp hp;exists q,h.get? b,o,e;have e':=acq e;subst e';apply#[hb,q]
def Inv.pinned(I:Inv X af U H s)(hf:∀b∈fp,iw X af H b)(ho:∀b∈fp,∃o,s.heap.get? b=some o/\∀v,o.data≠.cell v):Inv X (af++zf fp s.heap) U H s:=
 I.sO λp hp=>(abB.mp hp).elim (λz=>I.pin p (aaM _ z)) λz=>by
  let#[hb,e]:=Xk z;let#[f0,f1,f2,_]:=hf p.1 hb;let#[o,e',d]:=ho p.1 hb;rw[e] at e';ext e';apply#[e,f0,f1,f2,d]
def Inv.xy(I:Inv X (af++pl) U H s):Inv X af U H s:=I.sO λp hp=>I.pin p (aaM _ (aaZ _ hp))
def adq(hp:PassesOwn (model X.prog X.w) X.A X.env X.xe)(hc:X.calm=true)(hi:PI X tg iter wi)(hg:PG X tg g)(hb:g_ X body tb)
  (hs:∀x,foldedSetIterable iter X.env x=pure x:=by intro _;rfl):PS X (.For tg iter body [] pos) (aiy wi g tb):=by
 intro af s U H D I h;refine wpAny_For (cL (hi af s U H _ I h) λv s1 h1=>cL h1 λDQ s2 h2=>?_) hs;let#[it,fp,tn,J,H2,e,I2,T,rJ,f2,W,#[m0,w0],turn]:=h2;subst e;have tS:∀{H':Hp},(∀b∈fp,H' b=none)->∀b∈fp,iw X af H' b:=λhn b hb=>#[hn b hb,(f2 b hb).2]
 refine codeAny_forLoop_any (λn s'=>∃i aE H',Inv X af aE H' s'/\tn i s'.heap/\(∀b∈fp,H' b=none)/\W i n aE H') ?_ m0 #[0,U,H2,I2,rJ,λb hb=>(f2 b hb).1,w0]
 rintro n s3 ⟨i,dD,H3,I3,PB,LS,w3⟩
 rcases turn i n dD H3 w3 with⟨stop,qn⟩|⟨go,N,hN,step⟩
 .refine aiT hp (cL (T.done X rfl rfl rfl (.inl hc) i af s3 dD H3 X.xe I3 (tS LS) PB stop) ?_)
  rintro r s4 ⟨hr,I4⟩
  subst hr;apply ajr #[dD,H3,I4,qn]
 .refine aiT hp (cL (T.item X rfl rfl rfl (.inl hc) i af s3 dD H3 X.xe I3 (tS LS) PB go) ?_)
  rintro r s4 ⟨u,hr,h4⟩
  subst hr;refine aiT hp (cL h4 ?_)
  rintro _ s5 ⟨x,H5,I5,r5,y5,uJ,mz⟩
  have I5':=I5.pinned (tS mz) (T.obj _ _ uJ);refine aiT hp (cL (hg _ s5 dD H5 x u _ I5' r5 (step x H5 y5)) ?_)
  rintro _ s6 ⟨i7,H6,I6,q6⟩
  refine aiT hp (cL (hb _ s6 i7 H6 _ I6 q6) λf s7 q7=>?_);have again:∀{mH:St}{H7:Hp},Inv X (af++zf fp s5.heap) mH H7 s7->N mH H7->∃m,m<n/\∃i aE H',Inv X af aE H' s7/\tn i s7.heap/\(∀b∈fp,H' b=none)/\W i m aE H':=λ{mH H7} I7 n7=>by
   let#[m',hm,w7]:=hN mH H7 n7;refine#[m',hm,i+1,mH,H7,I7.xy,T.keep _ _ _ uJ λb hb o e=>(I7.pin (b,o) (aaM _ (aaM _ (B_ hb e)))).1,λb hb=>?_,w7];let#[o,e,d]:=T.obj _ _ uJ b hb;apply(I7.pin (b,o) (aaM _ (aaM _ (B_ hb e)))).2.1
  cases f with
  |next=>let#[mH,H7,I7,n7]:=q7;apply again I7 n7
  |cont=>let#[mH,H7,I7,n7]:=q7;apply again I7 n7
  |brk=>let#[mH,H7,I7,q7]:=q7;apply#[mH,H7,I7.xy,q7]
  |ret v=>let#[x7,mH,H7,I7,r7,q7]:=q7;apply#[x7,mH,H7,I7.xy,r7,q7]
abbrev R2:=V->V->Hp->VK->Prop
def dH(X:Cx)(f:Value->Value->Sem Value)(r:R2):Prop:=
 ∀(af:List (Addr×Obj)) (s:Shared) (U:St) (H:Hp) (x y:V) (v u:Value) (Q:VK),Inv X af U H s->RelV x v->RelV y u->r x y H Q->
  wpAny (model X.prog X.w) X.A (f v u) (EP X af U Q) X.xe s
def G4(X:Cx)(f:Value->Sem Value)(r:V->Hp->VK->Prop):Prop:=
 ∀(af:List (Addr×Obj)) (s:Shared) (U:St) (H:Hp) (x:V) (v:Value) (Q:VK),Inv X af U H s->RelV x v->r x H Q->
  wpAny (model X.prog X.w) X.A (f v) (EP X af U Q) X.xe s
def gO(X:Cx)(f:Value)(r:List V->Hp->VK->Prop):Prop:=
 ∀(af:List (Addr×Obj)) (s:Shared) (U:St) (H:Hp) (xs:List V) (us:List Value) (Q:VK),Inv X af U H s->aT xs us->r xs H Q->
  wpAny (model X.prog X.w) X.A (call f us) (EP X af U Q) X.xe s
def aez(X:Cx)(r:V->Hp->(Bool->Hp->Prop)->Prop):Prop:=
 ∀(af:List (Addr×Obj)) (s:Shared) (U:St) (H:Hp) (x:V) (v:Value) (Q:Bool->Hp->Prop),Inv X af U H s->RelV x v->r x H Q->
  wpAny (model X.prog X.w) X.A (truthy v) (TP X af U Q) X.xe s
def rm(r:R2)(ta tb:TE):TE:=λU H Q=>ta U H λx H1=>tb U H1 λy H2=>r x y H2 Q
def tUn(r:V->Hp->VK->Prop)(ta:TE):TE:=λU H Q=>ta U H λx H1=>r x H1 Q
def rI(C:Int->Int->Prop)(g:Int->Int->V):R2:=λx y H Q=>∃i j,x=.int i/\y=.int j/\C i j/\Q (g i j) H
def nS(g:Int->Int->V):R2:=λx y H Q=>∃i j,x=.int i/\y=.int j/\Q (g i j) H
def rU(g:Int->V):V->Hp->VK->Prop:=λx H Q=>∃i,x=.int i/\Q (g i) H
def FF(ha:PE X a ta)(hb:PE X b tb){R:V->V->Hp->Prop}(I:Inv X af U H s)
  (h:ta U H λx H1=>tb U H1 λy H2=>R x y H2) {f:Value->Value->Sem Value}
  (hf:∀v u s2 x y H2,Inv X af U H2 s2->RelV x v->RelV y u->R x y H2->wpAny (model X.prog X.w) X.A (f v u) Q X.xe s2) :
  wpAny (model X.prog X.w) X.A (eval a X.env) (λv cg=>wpAny (model X.prog X.w) X.A (eval b X.env) (λu qz=>wpAny (model X.prog X.w) X.A (f v u) Q X.xe qz) X.xe cg) X.xe s:=by
 refine ha.n I h λv s1 x H1 I1 r1 q1=>?_
 refine hb.n I1 q1 λu s2 y H2 I2 r2 q2=>?_
 apply hf v u s2 x y H2 I2 r1 r2 q2
def NZ{r:R2}(ho:dH X (binaryOp op) r)(ha:PE X a ta)(hb:PE X b tb):PE X (.BinOp a op b pos) (rm r ta tb):=by
 intro af s U H Q I h;apply wpAny_BinOp (FF ha hb I h λv u s2 x y H2 I2 rx ry q=>ho af s2 U H2 x y v u Q I2 rx ry q)
def aib(ho:G4 X (unaryOp op) r)(ha:PE X a ta):PE X (.UnaryOp op a pos) (tUn r ta):=by
 intro af s U H Q I h;apply UnaryOp_ (ha.n I h λv s1 x H1 I1 r1 q1=>ho af s1 U H1 x v Q I1 r1 q1)
def Av{g:Int->Int->Int}
  (rule:∀(i j:Int) (t u:Tok) (s:Shared) (Q:Value->Shared->Prop) (E:Value->Shared->Prop),C i j->Q (.int (g i j) s.toks) { s with toks:=s.toks+1 }->wpAny (model X.prog X.w) X.A (f (.int i t) (.int j u)) Q E s) :
  dH X f (rI C λi j=>.int (g i j)):=by
 intro af s U H x y v u Q I rx ry h;let#[i,j,rfl,rfl,hc,q]:=h;let#[t,rfl]:=rx;let#[t',rfl]:=ry;apply rule i j t t' s _ _ hc #[.int (g i j),H,I.tok _,#[_,rfl],q]
def Of{g:Int->Int->Int}
  (rule:∀(i j:Int) (t u:Tok) (s:Shared) (Q:Value->Shared->Prop) (E:Value->Shared->Prop),Q (.int (g i j) s.toks) { s with toks:=s.toks+1 }->wpAny (model X.prog X.w) X.A (f (.int i t) (.int j u)) Q E s) :
  dH X f (nS λi j=>.int (g i j)):=by
 intro af s U H x y v u Q I rx ry h;let#[i,j,rfl,rfl,q]:=h;let#[t,rfl]:=rx;let#[t',rfl]:=ry;apply rule i j t t' s _ _ #[.int (g i j),H,I.tok _,#[_,rfl],q]
def BR{g:Int->Int->Bool}
  (rule:∀(i j:Int) (t u:Tok) (s:Shared) (Q:Value->Shared->Prop) (E:Value->Shared->Prop),Q (.bool (g i j)) s->wpAny (model X.prog X.w) X.A (f (.int i t) (.int j u)) Q E s) :
  dH X f (nS λi j=>.bl (g i j)):=by
 intro af s U H x y v u Q I rx ry h;let#[i,j,rfl,rfl,q]:=h;let#[t,rfl]:=rx;let#[t',rfl]:=ry;apply rule i j t t' s _ _ #[.bl (g i j),H,I,rfl,q]
def abX(i j:Int):Prop:=0<j/\j<1073741824
def acm(i j:Int):Prop:=0<=j/\j<=1000000/\i.natAbs<2 ^ 64
def yS(i j:Int):Prop:=(-(2 ^ 64)<i/\i<2 ^ 64)\/(-(2 ^ 64)<j/\j<2 ^ 64)
def yS.ok(h:yS i j):IntMulOk i j:=by
 rcases h with⟨h1,h2⟩|⟨h1,h2⟩
 .exact .of_left (intBits_le_64 h1 h2)
 .exact .of_right (intBits_le_64 h1 h2)
def Zy:dH X (binaryOp .Add) (nS λi j=>.int (i+j)):=Of λ_ _ _ _ _ _ _ q=>add_int q
def aan:dH X (binaryOp .Sub) (nS λi j=>.int (i-j)):=Of λ_ _ _ _ _ _ _ q=>sub_int q
def ad4:dH X (binaryOp .Mult) (rI yS λi j=>.int (i*j)):=Av λ_ _ _ _ _ _ _ hc q=>mul_int q hc.ok
def ahx:dH X (binaryOp .FloorDiv) (rI abX λi j=>.int (i / j)):=Av λi j _ _ _ _ _ hc q=>by
 have h1:=hc.1;have h2:j<1073741824:=hc.2;apply floordiv_int (by omega) (by rw[Int.fdiv_eq_ediv_of_nonneg i (by omega)];apply q) (.inl (PyProof.noPylong_small (by omega)))
def Xa:dH X (binaryOp .Mod) (rI (λ_ j=>0<j) λi j=>.int (i % j)):=Av λi j _ _ _ _ _ hc q=>by
 have h1:=hc;apply mod_int' (by omega) (by rw[Int.fmod_eq_emod_of_nonneg i (by omega)];apply q)
def aiz:dH X (binaryOp .Pow) (rI acm λi j=>.int (i ^ j.toNat)):=Av λ_ _ _ _ _ _ _ hc q=>pow_int_small hc.1 hc.2.1 hc.2.2 q
def Zf{g:Int->Int}
  (rule:∀(i:Int) (t:Tok) (s:Shared) (Q:Value->Shared->Prop) (E:Value->Shared->Prop),Q (.int (g i) s.toks) { s with toks:=s.toks+1 }->wpAny (model X.prog X.w) X.A (f (.int i t)) Q E s) :
  G4 X f (rU λi=>.int (g i)):=by
 intro af s U H x v Q I rx h;let#[i,rfl,q]:=h;let#[t,rfl]:=rx;apply rule i t s _ _ #[.int (g i),H,I.tok _,#[_,rfl],q]
def XD:G4 X (unaryOp .USub) (rU λi=>.int (-i)):=Zf λ_ _ _ _ _ q=>neg_int q
def TY:V->V->Bool
 |.aI,.aI=>true|.aI,.int _=>true|.int _,.aI=>true|.aI,.bl _=>true|.bl _,.aI=>true|.aI,.str _=>true|.str _,.aI=>true
 |.int _,.int _=>true|.bl _,.bl _=>true|.str _,.str _=>true|.jV _,.jV _=>true
 |.int _,.str _=>true|.str _,.int _=>true|.bl _,.str _=>true|.str _,.bl _=>true
 |_,_=>false
def Kf:R2:=λx y H Q=>TY x y=true/\Q (.bl (decide (x=y))) H
def R8:R2:=λx y H Q=>TY x y=true/\Q (.bl (!decide (x=y))) H
def C5:decide (V.int i=V.int j)=(i==j):=by
 rw[ajs];simp
def Br:decide (V.bl i=V.bl j)=(i==j):=by
 rw[ajs];simp
def CD:decide (V.str i=V.str j)=(i==j):=by
 rw[ajs];simp
def Pf:decide (V.jV i=V.jV j)=(i.toList==j.toList):=by
 rw[ajs];ext i;ext j;simp
def d9(I:Inv X af U H s)(q:Q (.bl k) H)(e:k=k'):EP X af U Q (.bool k') s:=by
 subst e;apply#[.bl k,H,I,rfl,q]
def HK:dH X (compareOp .Eq) Kf:=by
 intro af s U H x y v u Q I rx ry h;let#[hs,q]:=h;cases x with
 |aI=>
  ext rx;cases y with
  |aI=>ext ry;apply PySem.EqNone.eq_none_none (d9 I q (by simp))
  |bl j=>ext ry;apply PySem.EqNone.eq_none_bool (d9 I q (by simp))
  |int j=>let#[t',rfl]:=ry;apply PySem.EqNone.eq_none_int (d9 I q (by simp))
  |str j=>let#[t',rfl]:=ry;apply PySem.EqNone.eq_none_str (d9 I q (by simp))
  |_=>apply absurd (show false=true from hs) aa3
 |bl i=>
  ext rx;cases y with
  |aI=>ext ry;apply PySem.EqNone.eq_bool_none (d9 I q (by simp))
  |bl j=>ext ry;apply eq_bool (d9 I q Br)
  |str j=>let#[t',rfl]:=ry;apply PySem.EqMixed.eq_bool_str (d9 I q (by simp))
  |_=>apply absurd (show false=true from hs) aa3
 |int i=>
  let#[t,rfl]:=rx;cases y with
  |aI=>ext ry;apply PySem.EqNone.eq_int_none (d9 I q (by simp))
  |int j=>let#[t',rfl]:=ry;apply eq_int (d9 I q C5)
  |str j=>let#[t',rfl]:=ry;apply PySem.EqMixed.eq_int_str (d9 I q (by simp))
  |_=>apply absurd (show false=true from hs) aa3
 |str i=>
  let#[t,rfl]:=rx;cases y with
  |aI=>ext ry;apply PySem.EqNone.eq_str_none (d9 I q (by simp))
  |bl j=>ext ry;apply PySem.EqMixed.eq_str_bool (d9 I q (by simp))
  |int j=>let#[t',rfl]:=ry;apply PySem.EqMixed.eq_str_int (d9 I q (by simp))
  |str j=>let#[t',rfl]:=ry;apply eq_str (d9 I q CD)
  |_=>apply absurd (show false=true from hs) aa3
 |jV i=>
  let#[t,rfl]:=rx;cases y with
  |jV j=>let#[t',rfl]:=ry;apply PySem.W.eq_bytes (d9 I q Pf)
  |_=>apply absurd (show false=true from hs) aa3
 |_=>ext y<;>apply absurd (show false=true from hs) aa3
def adZ:dH X (compareOp .NotEq) R8:=by
 intro af s U H x y v u Q I rx ry h;let#[hs,q]:=h;cases x with
 |aI=>
  ext rx;cases y with
  |aI=>ext ry;apply PySem.EqNone.ne_none_none (d9 I q (by simp))
  |bl j=>ext ry;apply PySem.EqNone.ne_none_bool (d9 I q (by simp))
  |int j=>let#[t',rfl]:=ry;apply PySem.EqNone.ne_none_int (d9 I q (by simp))
  |str j=>let#[t',rfl]:=ry;apply PySem.EqNone.ne_none_str (d9 I q (by simp))
  |_=>apply absurd (show false=true from hs) aa3
 |bl i=>
  ext rx;cases y with
  |aI=>ext ry;apply PySem.EqNone.ne_bool_none (d9 I q (by simp))
  |bl j=>ext ry;apply ne_bool (d9 I q (congrArg not Br))
  |str j=>let#[t',rfl]:=ry;apply PySem.EqMixed.ne_bool_str (d9 I q (by simp))
  |_=>apply absurd (show false=true from hs) aa3
 |int i=>
  let#[t,rfl]:=rx;cases y with
  |aI=>ext ry;apply PySem.EqNone.ne_int_none (d9 I q (by simp))
  |int j=>let#[t',rfl]:=ry;apply ne_int (d9 I q (congrArg not C5))
  |str j=>let#[t',rfl]:=ry;apply PySem.EqMixed.ne_int_str (d9 I q (by simp))
  |_=>apply absurd (show false=true from hs) aa3
 |str i=>
  let#[t,rfl]:=rx;cases y with
  |aI=>ext ry;apply PySem.EqNone.ne_str_none (d9 I q (by simp))
  |bl j=>ext ry;apply PySem.EqMixed.ne_str_bool (d9 I q (by simp))
  |int j=>let#[t',rfl]:=ry;apply PySem.EqMixed.ne_str_int (d9 I q (by simp))
  |str j=>let#[t',rfl]:=ry;apply ne_str (d9 I q (congrArg not CD))
  |_=>apply absurd (show false=true from hs) aa3
 |jV i=>
  let#[t,rfl]:=rx;cases y with
  |jV j=>let#[t',rfl]:=ry;apply PySem.W.ne_bytes (d9 I q (congrArg not Pf))
  |_=>apply absurd (show false=true from hs) aa3
 |_=>ext y<;>apply absurd (show false=true from hs) aa3
def Ol:dH X (compareOp .Lt) (nS λi j=>.bl (decide (i<j))):=BR λ_ _ _ _ _ _ _ q=>lt_int q
def Ib:dH X (compareOp .LtE) (nS λi j=>.bl (decide (i<=j))):=BR λ_ _ _ _ _ _ _ q=>le_int q
def Zj:dH X (compareOp .Gt) (nS λi j=>.bl (decide (j<i))):=BR λ_ _ _ _ _ _ _ q=>gt_int q
def aa2:dH X (compareOp .GtE) (nS λi j=>.bl (decide (j<=i))):=BR λ_ _ _ _ _ _ _ q=>ge_int q
def R9:dH X (compareOp .Is) (λx y H Q=>y=.aI/\Q (.bl (decide (x=.aI))) H):=by
 intro af s U H x y v u Q I rx ry h;let#[rfl,q]:=h;ext ry;refine is_none_gen (d9 I q ?_);ext x<;>first
  |(ext rx;rfl)
  |(let#[t,rfl]:=rx;rfl)
def acT:dH X (compareOp .IsNot) (λx y H Q=>y=.aI/\Q (.bl (!decide (x=.aI))) H):=by
 intro af s U H x y v u Q I rx ry h;let#[rfl,q]:=h;ext ry;refine isnot_none_gen (d9 I q ?_);ext x<;>first
  |(ext rx;rfl)
  |(let#[t,rfl]:=rx;rfl)
def jk(b:Expr)(h:op≠.In:=by decide)(h2:op≠.NotIn:=by decide):behindInMarks op b=false:=by
 have e1:(op==CmpOp.In)=false:=by ext op<;>first|rfl|exact absurd rfl h
 have e2:(op==CmpOp.NotIn)=false:=by ext op<;>first|rfl|exact absurd rfl h2
 ext b<;>simp[behindInMarks,e1,e2]
def aex{r:R2}(ho:dH X (compareOp op) r)(ha:PE X a ta)(hb:PE X b tb)(hm:behindInMarks op b=false):PE X (.Compare a [op] [b] pos) (rm r ta tb):=by
 intro af s U H Q I h;apply wpAny_Compare1 (FF ha hb I h λv u s2 x y H2 I2 rx ry q=>ho af s2 U H2 x y v u Q I2 rx ry q) hm
def Ul(t:TE):TT:=λU H Q=>t U H λx H'=>∃k,x=.bl k/\Q k H'
def Rx(ho:dH X (compareOp op) r)(ha:PE X a ta)(hb:PE X b tb)(hm:behindInMarks op b=false):PT X (.Compare a [op] [b] pos) (Ul (rm r ta tb)):=by
 intro af s U H Q I h;refine wpAny_isTrue_Compare1 (ha.n I h λv s1 x H1 I1 r1 q1=>hb.n I1 q1 λu s2 y H2 I2 r2 q2=>
  cL (ho af s2 U H2 x y v u _ I2 r1 r2 q2) λc s3 #[z,H3,I3,r3,k,e,q3]=>?_) hm
 subst e;ext r3;apply afC #[H3,I3,q3]
def afu(r r':R2)(ta tb tc:TE):TE:=λU H Q=>ta U H λx H1=>tb U H1 λy H2=>r x y H2 λz H3=>∃k,z=.bl k/\
 (if k=true then tc U H3 λw' H4=>r' y w' H4 Q else Q (.bl false) H3)
def Wd(ho:dH X (compareOp op) r)(mK:dH X (compareOp wY) r')(ha:PE X a ta)(hb:PE X b tb)(hc:PE X c tc)
  (hm:lastMarks [op,wY] [b,c]=false:=by with_unfolding_all rfl):PE X (.Compare a [op,wY] [b,c] pos) (afu r r' ta tb tc):=by
 intro af s U H Q I h;refine Compare_chain (ha.n I h λv s1 x H1 I1 r1 q1=>chain_link (hb.n I1 q1 λu s2 y H2 I2 r2 q2=>
  cL (ho af s2 U H2 x y v u _ I2 r1 r2 q2) λd s3 #[z,H3,I3,r3,k,e,q3]=>?_)) hm
 subst e;ext r3;refine afC ?_;cases k with
 |false=>apply ite_ff #[.bl false,H3,I3,rfl,q3]
 |true=>apply ite_tt (chain_last (hc.n I3 q3 λw' s4 z' H4 I4 r4 q4=>mK af s4 U H4 y z' u w' Q I4 r2 r4 q4))
def Ot(K:Fr)(x:V)(H:Hp)(k:Bool):Prop:=
 match x with
 |.aI=>k=false
 |.bl b=>k=b
 |.int i=>k=(i != 0)
 |.str y=>y.length<=sizeLine/\k=((y.length:Int) != 0)
 |.jV y=>y.size<=sizeLine/\k=((y.size:Int) != 0)
 |.ref p=>(∃xs,ck K H p xs/\k=!xs.isEmpty)\/(∃xs,bK K H p xs/\k=!xs.isEmpty)\/∃ak,H p=some (.dK ak)/\k=!ak.isEmpty
 |_=>False
def ah9(r:KV ak vs):(!vs.isEmpty)=!ak.isEmpty:=by
 ext r<;>rfl
def MY(r:aT xs aA):(!aA.toArray.isEmpty)=!xs.isEmpty:=by
 ext r<;>simp
def zO:(sizeLine:Nat)<2 ^ 63:=by rw[afm];decide
def Vu:aez X (λx H Q=>∃k,Ot X.K x H k/\Q k H):=by
 intro af s U H x v Q I rx h;let#[k,e,q]:=h;have hl:=zO;have hs:=afm;cases x with
 |aI=>
  ext rx;have e':=e;subst e';apply truthy_none #[H,I,q]
 |bl b=>
  ext rx;have e':=e;subst e';apply afC #[H,I,q]
 |int i=>
  let#[t,rfl]:=rx;have e':=e;subst e';apply PySem.P.truthy_int #[H,I,q]
 |str y=>
  let#[t,rfl]:=rx;obtain⟨hy,e'⟩:y.length<=sizeLine/\k=((y.length:Int) != 0):=e;subst e';apply PySem.P.truthy_str (by omega) #[H,I.tok _,q]
 |jV y=>
  let#[t,rfl]:=rx;obtain⟨hy,e'⟩:y.size<=sizeLine/\k=((y.size:Int) != 0):=e;subst e';apply PySem.W.truthy_bytes (by omega) #[H,I.tok _,q]
 |ref p=>
  ext rx;have e':=e;rcases e' with⟨xs,hx,e'⟩|⟨xs,hx,e'⟩|⟨ak,hx,e'⟩
  .subst e';let#[aA,r,pl,hz]:=I.list hx;have hlen:=r.length;apply wpAny_truthy_list pl.isList (by simp only[ab0];omega) #[H,I.tok _,by rw[MY r];apply q]
  .subst e';let#[aA,r,pl,hz]:=I.tuple hx;have hlen:=r.length;apply truthy_tuple pl (by simp only[ab0];omega) #[H,I.tok _,by rw[MY r];apply q]
  .subst e';obtain⟨hz,hS,vs,r,m⟩:ak.length<=sizeLine/\(p==sysModules)=false/\∃vs,KV ak vs/\s.heap.DictOf (fQ X.prog X.w) p vs:=I.aH p _ hx;have hlen:=Paired.length r;apply wpAny_truthy_dict hS m (by omega) #[H,I.tok _,by rw[ah9 r];apply q]
 |_=>apply(show False from e).elim
def aeb(ha:PE X a ta)(he:∀whole,isTrue a X.env whole=(do let v <- whole;standAt a.pos;holding [v] (truthy v))):
  PT X a (λU H Q=>ta U H λx H'=>∃k,Ot X.K x H' k/\Q k H'):=by
 intro af s U H Q I h;apply isTrue_plain (ha.n I h λv s1 x H1 I1 r1 q1=>Vu af s1 U H1 x v Q I1 r1 q1) (he _)
def vals1(r:aT [x] us):∃u,us=[u]/\RelV x u:=by
 cases r with
 |cons r1 r2=>ext r2;apply#[_,rfl,r1]
def vals2(r:aT [x,y] us):∃u w',us=[u,w']/\RelV x u/\RelV y w':=by
 cases r with
 |cons r1 r2=>
  cases r2 with
  |cons r3 r4=>ext r4;apply#[_,_,rfl,r1,r3]
def agi(hc:X.calm=true):gO X (.builtin "max") (λxs H Q=>∃i j,xs=[.int i,.int j]/\Q (.int (if j > i then j else i)) H):=by
 intro af s U H xs us Q I r h;let#[i,j,rfl,q]:=h;let#[u,w',rfl,#[t,rfl],#[t',rfl]]:=vals2 r;refine max_two_ints (I.ok.hd hc) λh' tk k=>#[_,H,I.kept k,?_,q]
 by_cases hj:j > i
 .rw[if_pos hj,if_pos hj];apply#[_,rfl]
 .rw[abm hj,abm hj];apply#[_,rfl]
def abL(hc:X.calm=true):gO X (.builtin "min") (λxs H Q=>∃i j,xs=[.int i,.int j]/\Q (.int (if j<i then j else i)) H):=by
 intro af s U H xs us Q I r h;let#[i,j,rfl,q]:=h;let#[u,w',rfl,#[t,rfl],#[t',rfl]]:=vals2 r;refine min_two_ints (I.ok.hd hc) λh' tk k=>#[_,H,I.kept k,?_,q]
 by_cases hj:j<i
 .rw[if_pos hj,if_pos hj];apply#[_,rfl]
 .rw[abm hj,abm hj];apply#[_,rfl]
structure sX(h:Heap)(x dx C:Addr)(mA:Str->Option Value):Prop where
 obj:h.get? x=some (PySem.W.instObj C dx)
 ns:h.Ns1 dx mA
 ne:dx≠x
def Xy{h:Heap}(n:h.Ns1 dx mA):∃od,h.get? dx=some od/\∀name,PySem.W.lookIn name od=some (mA name):=by
 let#[o,es,ep,ho,hd,hk,_,hm]:=n;refine#[o,ho,λname=>?_];have e:=hm name;unfold nsFind findBy at e;rw[<- Array.find?_toList] at e;unfold PySem.W.lookIn;rw[hd];dsimp only
 split
 .rename_i y q;rw[q] at e;apply congrArg some e
 .rename_i q;rw[q] at e;have a:es.toList.any (·.refKey)=false:=by
   rw[List.any_eq_false];intro y hy;let#[z,t,Ag]:=hk y (Array.mem_toList_iff.mp hy);simp[DictEntry.refKey,Ag]
  have a':¬es.toList.any (·.refKey)=true:=by rw[a];apply aa3
  rw[abm a'];apply congrArg some e
def sX.look(I:sX h x dx C mA):∃od,PySem.W.InstAt h x (PySem.W.instObj C dx) C (some od)/\∀name,PySem.W.lookIn name od=some (mA name):=
 let#[od,ho,hl]:=Xy I.ns
 #[od,#[I.obj,rfl,rfl,ho],hl]
section
variable{K:Fr}
def get_map(X:K.In s.heap)(I:sX s.heap x dx C mA)(hg:PySem.W.plainGet K C name=true)(hh:PySem.W.hasDictIn K C=true)
  (ha:PySem.W.findIn K (.ref C) name=some none) (hv:mA name=some v) (mU:PySem.W.handedIn v=true) (h:Q v { s with toks:=s.toks+1 }) :
  wpAny (model prog w) A (getAttr (.ref x) name expr) Q E s:=by
 let#[od,J,hl]:=I.look;apply PySem.W.get_value X J (PySem.W.plainGet_of hg).1 (PySem.W.findObj_own hh ha rfl (by rw[hl,hv])) mU h
def U5(X:K.In s.heap)(I:sX s.heap x dx C mA)(hg:PySem.W.plainGet K C name=true)
  (hf:PySem.W.findIn K (.ref C) name=some (some (.ref f))) (ht:PySem.W.isFn K (.ref f)=true) (hv:mA name=none) (h:Q (.ref f,[.ref x]) s) :
  wpAny (model prog w) A (getMethod (.ref x) name pl) Q E s:=by
 let#[od,J,hl]:=I.look;apply PySem.W.method_fn X J (PySem.W.plainGet_of hg).1 (PySem.W.plainGet_of hg).2 hf (ahd.mp ht) (by show(PySem.W.lookIn name od).map (·.isSome)=some false;rw[hl,hv];rfl) h
def YU(X:K.In s.heap)(I:sX s.heap x dx C mA)
  (hs:PySem.W.findIn K (.ref C) "__setattr__"=some (some (.builtin "object.__setattr__"))) (hp:PySem.W.plainOver K C=true) (ht:PySem.W.takerIn K C name=some none) (hh:PySem.W.hasDictIn K C=true)
  (hw:PySem.Within mA ns) (hsz:ns.length<=sizeLine)
  (h:∀h',sX h' x dx C (λy=>if y=name then some v else mA y)->Heap.SameBut dx s.heap h'->Q () { s with heap:=h',toks:=s.toks+2 }) :
  wpAny (model prog w) A (setAttr (.ref x) name v) Q E s:=by
 let#[od,J,hl]:=I.look;refine PySem.W.set_plain X J hs (PySem.W.osa_open (r:=none) X J hp ht λb=>?_);let#[cd,hc,JE]:=PySem.W.any_some hh;have hx:=I.obj;refine aal (abc (aal (aal (wpAny_loadPart hx (aal (PySem.W.Looks.here (PySem.W.looks_clsIn X hc) ?_))))));rw[JE];refine abc (aal (abc (aal ?_)));refine wpAny_nsSet1 I.ns λh' Dw bS=>?_
 let#[oD,esD,epD,JU,hdD,Vn]:=Dw.count (PySem.Within.cons name v hw);refine aal (wpAny_lookBehind JU (by rw[hdD];apply pastItsLine_dict (adJ Vn (by rw[acK];omega))) ?_);apply abc (h _ #[(bS.2 _ (afW I.ne)).trans I.obj,Dw,I.ne] bS)
def ZU(X:K.In s.heap)(hm:PySem.W.makesIn K C=true)
  (hi:PySem.W.findIn K (.ref C) "__init__"=some (some (.ref f))) (hf:PySem.W.typeIn K (.ref f)=some (.type "function"))
  (h:codeAny (model prog w) (A.under (.builtin "type.__call__" #[.ref C::vs,kw])) (.call (.ref f) #[.ref (s.heap.objs.size + 1)::vs,kw]) (PySem.W.InitBack (s.heap.objs.size + 1) R)
   { s with heap:=(s.heap.push PySem.W.emptyDict).push (PySem.W.instObj C s.heap.objs.size) }) :
  codeAny (model prog w) A (.call (.ref C) #[vs,kw]) R s:=by
 let#[hh,g,d,t,os]:=s;apply PySem.W.make_core (PySem.W.makes_of X hm) (PySem.W.looks_findIn X hi) (λself=>PySem.W.bind_fn X self hf) (.inl rfl) h
end
def fq(f:Str)(v:V):List (Str×V)->List (Str×V)
 |[]=>[(f,v)]
 |(g,x)::r=>if g=f then(g,v)::r else(g,x)::fq f v r
theorem Ud(f g:Str)(v:V):∀fs:List (Str×V),(fq f v fs).lookup g=if g=f then some v else fs.lookup g
 |[]=>by
  show List.lookup g [(f,v)]=_
  by_cases h:g=f
  .have hb:=ahd.mpr h;simp only[List.lookup,hb,if_pos h]
  .have hb:=aei.mpr h;simp only[List.lookup,hb,abm h]
 |(k,x)::r=>by
  have ih:=Ud f g v r;rw[show fq f v ((k,x)::r)=(if k=f then(k,v)::r else(k,x)::fq f v r) from rfl]
  by_cases hk:k=f
  .rw[if_pos hk]
   by_cases h:g=k
   .have hb:=ahd.mpr h;simp only[List.lookup,hb,if_pos (h.trans hk)]
   .have hb:=aei.mpr h;simp only[List.lookup,hb,abm (λe:g=f=>h (e.trans hk.symm))]
  .rw[abm hk]
   by_cases h:g=k
   .have hb:=ahd.mpr h;simp only[List.lookup,hb,abm (λe:g=f=>hk (h.symm.trans e))]
   .have hb:=aei.mpr h;simp only[List.lookup,hb];apply ih
theorem HJ(f:Str)(v:V):∀fs:List (Str×V),f∈(fq f v fs).map (·.1)/\∀g,g∈fs.map (·.1)->g∈(fq f v fs).map (·.1)
 |[]=>#[by simp[fq],λg h=>by simp at h]
 |(k,x)::r=>by
  let#[i1,i2]:=HJ f v r;rw[show fq f v ((k,x)::r)=(if k=f then(k,v)::r else(k,x)::fq f v r) from rfl]
  by_cases hk:k=f
  .rw[if_pos hk];subst hk;apply#[by simp,λg h=>by simpa using h]
  .rw[abm hk];refine#[?_,λg h=>?_]
   .rw[aas];apply aao _ i1
   .rw[aas] at h ⊢;rcases aat.mp h with e|e
    .exact aat.mpr (.inl e)
    .exact aao _ (i2 g e)
theorem Q5(f:Str)(v:V):∀fs:List (Str×V),(fq f v fs).length<=fs.length+1
 |[]=>by simp[fq]
 |(k,x)::r=>by
  have ih:=Q5 f v r;rw[show fq f v ((k,x)::r)=(if k=f then(k,v)::r else(k,x)::fq f v r) from rfl]
  by_cases hk:k=f
  .rw[if_pos hk,acK,acK];omega
  .rw[abm hk,acK,acK];omega
def g9.some_of(r:g9 (some v) o):∃u,o=some u/\RelV v u:=by
 cases o with
 |none=>apply(show False from r).elim
 |some u=>apply#[u,rfl,r]
def g9.none_of(r:g9 none o):o=none:=by
 cases o with
 |none=>rfl
 |some u=>apply(show False from r).elim
def X3(r:RelV v u):PySem.W.handedIn u=true:=by
 cases v with
 |aI=>cases(show u=Value.none from r);rfl
 |bl b=>cases(show u=Value.bool b from r);rfl
 |int i=>let#[t,e]:=(show ∃t,u=Value.int i t from r);ext e;rfl
 |str x=>let#[t,e]:=(show ∃t,u=Value.str x t from r);ext e;rfl
 |jV b=>let#[t,e]:=(show ∃t,u=Value.bytes b t from r);ext e;rfl
 |sF b=>let#[t,e]:=(show ∃t,u=Value.float b t from r);ext e;rfl
 |ref a=>cases(show u=Value.ref a from r);rfl
 |ty n=>cases(show u=Value.type n from r);rfl
def BE(aH:c8 P w H h)(e:H a=some (.ins C dx fs)):∃mA,sX h a dx C mA/\(∀f,g9 (fs.lookup f) (mA f))/\PySem.Within mA (fs.map (·.1))/\fs.length<=1000/\H dx=some (.own a):=by
 let#[d,z,ne,ob,mA,n,r,q]:=(show dz P w H h a (.ins C dx fs) from aH a _ e)
 apply#[mA,#[ob,n,ne],r,q,z,d]
structure jO(K:Fr)(C:Addr):Prop where
 pg:PySem.W.plainGet K C Str.empty=true
 hd:PySem.W.hasDictIn K C=true
 po:PySem.W.plainOver K C=true
 sa:PySem.W.findIn K (.ref C) "__setattr__"=some (some (.builtin "object.__setattr__"))
def jO.get{K:Fr}(c:jO K C)(f:Str):PySem.W.plainGet K C f=true:=c.pg
def iR(K:Fr)(C:Addr)(f:Str):Prop:=PySem.W.findIn K (.ref C) f=some none
def iR.aga{K:Fr}(n:iR K C f):PySem.W.takerIn K C f=some none:=by
 unfold PySem.W.takerIn;rw[show PySem.W.findIn K (.ref C) f=some none from n];rfl
structure kD(K:Fr)(C:Addr)(m:Str)(f:Addr):Prop where
 at_:PySem.W.findIn K (.ref C) m=some (some (.ref f))
 fn:PySem.W.isFn K (.ref f)=true
 kp:PySem.W.keepIn K (.ref f)=true
def R4(I:Inv X af U H s)(e:H a=some (.ins C dx fs))(c:jO X.K C)(n:iR X.K C f)(l:fs.lookup f=some v)
  (h:∀u s',Inv X af U H s'->RelV v u->Q u s'):wpAny (model X.prog X.w) A (getAttr (.ref a) f b) Q E s:=by
 let#[mA,O,r,_,_,_]:=BE I.aH e;let#[u,hu,ru]:=g9.some_of (by rw[<- l];apply r f);apply get_map I.dU O (c.get f) c.hd n hu (X3 ru) (h u _ (I.tok _) ru)
def KJ(I:Inv X af U H s)(e:H a=some (.ins C dx fs))(c:jO X.K C)(k:kD X.K C m g)(l:fs.lookup m=none)
  (h:Q (.ref g,[.ref a]) s):wpAny (model X.prog X.w) A (getMethod (.ref a) m pl) Q E s:=by
 let#[mA,O,r,_,_,_]:=BE I.aH e;have hn:=g9.none_of (by rw[<- l];apply r m);apply U5 I.dU O (c.get m) k.at_ k.fn hn h
def NU(I:Inv X af U H s)(e:H a=some (.ins C dx fs))(c:jO X.K C)(n:iR X.K C f)(hl:fs.length<1000)(ry:RelV y u)
  (h:∀s',Inv X af U (upd H a (.ins C dx (fq f y fs))) s'->Q () s'):wpAny (model X.prog X.w) A (setAttr (.ref a) f u) Q E s:=by
 let#[mA,O,r,wi,_,ho]:=BE I.aH e;have hz:(fs.map (·.1)).length<=sizeLine:=by rw[List.length_map,afm];omega
 refine YU I.dU O c.sa c.po n.aga c.hd wi hz λh' O' sb=>h _ ?_
 have hd:∃o,h'.get? dx=some o:=let#[o,_,_,e',_]:=O'.ns;#[o,e']
 refine I.write (by rw[e];apply True.intro) (.inr ho) (λb q hb z=>(sb.2 b hb).trans z) hd ?_;refine#[by rw[aM O.ne];apply ho,?_,O.ne,O'.obj,_,O'.ns,λg=>?_,λg hg=>?_]
 .have:=Q5 f y fs;omega
 .show g9 ((fq f y fs).lookup g) (if g=f then some u else mA g);rw[Ud]
  by_cases q:g=f
  .rw[if_pos q,if_pos q];apply ry
  .rw[abm q,abm q];apply r g
 .by_cases q:g=f
  .rw[q];apply(HJ f y fs).1
  .refine(HJ f y fs).2 g (wi g λz=>hg ?_);show(if g=f then some u else mA g)=none;rw[abm q];apply z
def Inv.made(I:Inv X af U H s):Inv X af U (upd (upd H s.heap.objs.size (.own (s.heap.objs.size+1))) (s.heap.objs.size+1) (.ins C s.heap.objs.size []))
  { s with heap:=(s.heap.push PySem.W.emptyDict).push (PySem.W.instObj C s.heap.objs.size) }:=by
 have e1:(s.heap.push PySem.W.emptyDict).get? s.heap.objs.size=some PySem.W.emptyDict:=abx s.heap rfl;have e2:((s.heap.push PySem.W.emptyDict).push (PySem.W.instObj C s.heap.objs.size)).get? (s.heap.objs.size+1)=some (PySem.W.instObj C s.heap.objs.size):=by
  have:=abx (s.heap.push PySem.W.emptyDict) (o:=PySem.W.instObj C s.heap.objs.size) rfl
  rwa [aiO] at this
 have e3:(s.heap.push PySem.W.emptyDict).Ns s.heap.objs.size (λ_=>none):=#[PySem.W.emptyDict,([].toArray),_,e1,rfl,(λe he=>absurd he (by simp)),λ_=>rfl]
 have I1:=I.laid (o:=.own (s.heap.objs.size+1)) (t':=s.toks) (λb u q=>aak _ q) (aa9 _) #[_,e1];refine I1.laid (λb u q=>aak _ q) (Nat.le_of_eq (aiO _ _)) ?_;have ne:s.heap.objs.size≠s.heap.objs.size+1:=acy (aid _);refine#[by rw[aM ne,bI],adN _,ne,e2,λ_=>none,(Heap.Ns1.of_empty e3).at λo q=>aak _ q,λ_=>True.intro,λy hy=>absurd rfl hy]
def Zb(hb:attributeBase e f env (eval e env)=eval e env)
  (h:wpAny (model prog w) A (eval e env) (λo cg=>wpAny (model prog w) A (getAttr o f true) Q E cg) E s):wpAny (model prog w) A (eval (.Attribute e f pos) env) Q E s:=
 Attribute_any_ h (by rw[arm_eval_Attribute,hb])
def G3(K:Fr)(ta:TE)(f:Str):TE:=λU H Q=>ta U H λx H1=>∃a C dx fs v,x=.ref a/\H1 a=some (.ins C dx fs)/\jO K C/\iR K C f/\fs.lookup f=some v/\Q v H1
def V0(K:Fr)(ta tv:TE)(f:Str):TS:=λD U H=>tv U H λy H1=>ta U H1 λx H2=>∃a C dx fs,x=.ref a/\H2 a=some (.ins C dx fs)/\jO K C/\iR K C f/\fs.length<1000/\
 D.nx U (upd H2 a (.ins C dx (fq f y fs)))
def Ur(X:Cx)(op:Operator)(rd:V->V->Hp->VK->Prop):Prop:=
 ∀(af) (s) (U) (H) (x y) (u v) (Q),Inv X af U H s->RelV x u->RelV y v->rd x y H Q->wpAny (model X.prog X.w) X.A (inplaceOp op u v) (EP X af U Q) X.xe s
def abi(K:Fr)(ta tv:TE)(rd:V->V->Hp->VK->Prop)(f:Str):TS:=λD U H=>ta U H λx H1=>∃a C dx fs v,x=.ref a/\H1 a=some (.ins C dx fs)/\jO K C/\iR K C f/\fs.lookup f=some v/\
 tv U H1 λy H2=>rd v y H2 λz H3=>∃xM uy,H3 a=some (.ins C xM uy)/\uy.length<1000/\D.nx U (upd H3 a (.ins C xM (fq f z uy)))
def qR(he:PE X e ta)(hb:attributeBase e f X.env (eval e X.env)=eval e X.env):PE X (.Attribute e f pos) (G3 X.K ta f):=by
 intro af s U H Q I h;refine Zb hb (he.n I h λu s1 x H1 I1 rx q=>?_);let#[a,C,dx,fs,v,ex,ea,c,n,l,q]:=q;subst ex;obtain rfl:u=Value.ref a:=rx;apply R4 I1 ea c n l λu' s2 I2 ru=>#[v,H1,I2,ru,q]
def Yt(ha:PE X o ta)(hv:PE X value tv)(hs:swapsWith value (some (.Attribute o f pos')) pos.line X.env=pure false):PS X (.Assign [.Attribute o f pos'] value pos) (V0 X.K ta tv f):=by
 intro af s U H D I h;refine plainObj_wpAny_Assign_Attribute (hv.n I h λu s1 y H1 I1 ry q=>ha.n I1 q λov s2 x H2 I2 rx q=>?_) hs;let#[a,C,dx,fs,ex,ea,c,n,l,q2]:=q;subst ex;obtain rfl:ov=Value.ref a:=rx;apply NU I2 ea c n l ry λs3 I3=>#[U,_,I3,q2]
def ZA(ha:PE X o ta)(hv:PE X value tv)(V4:Ur X op rd):PS X (.AugAssign (.Attribute o f aiW) op value pos) (abi X.K ta tv rd f):=by
 intro af s U H D I h;refine wpAny_AugAssign_AttributeAny (ha.n I h λov s1 x H1 I1 rx q=>?_);let#[a,C,dx,fs,v,ex,ea,c,n,l,q]:=q;subst ex;obtain rfl:ov=Value.ref a:=rx;refine R4 I1 ea c n l λu s2 I2 ru=>hv.n I2 q λw3 s3 y H2 I3 ry q3=>wH (V4 af s3 U H2 v y u w3 _ I3 ru ry q3) λw4 s4 z H3 I4 rz q=>?_
 let#[xM,uy,ea',l',q4]:=q;apply NU I4 ea' c n l' rz λs5 I5=>#[U,_,I5,q4]
def ag1:V->V->Hp->VK->Prop:=λx y H Q=>∃i j,x=.int i/\y=.int j/\Q (.int (i+j)) H
def WJ:Ur X .Add ag1:=by
 rintro af s U H x y u v Q I rx ry ⟨i,j,rfl,rfl,q⟩
 let#[t,rfl]:=(show ∃t,u=Value.int i t from rx)
 let#[t',rfl]:=(show ∃t',v=Value.int j t' from ry)
 apply PyProof.Rows.iadd_int #[.int (i+j),H,I.tok _,#[_,rfl],q]
inductive jZ(K:Fr)(H:Hp):V->Value->Prop where
 |aI:jZ K H .aI (.type "NoneType")
 |bl (x:Bool):jZ K H (.bl x) (.type "bool")
 |int (i:Int):jZ K H (.int i) (.type "int")
 |str (x:Str):jZ K H (.str x) (.type "str")
 |sF (x:UInt64):jZ K H (.sF x) (.type "float")
 |lst {a:Addr}{xs:List V} (e:H a=some (.lst xs)):jZ K H (.ref a) (.type "list")
 |cG {a:Addr}{o:Obj}{xs:List V} (e:H a=some (.cG o (.lst xs))):jZ K H (.ref a) (.type "list")
 |tup {a:Addr}{xs:List V} (e:H a=some (.tup xs)):jZ K H (.ref a) (.type "tuple")
 |dK {a:Addr}{ak:List (Key×V)} (e:H a=some (.dK ak)):jZ K H (.ref a) (.type "dict")
 |dT {a:Addr}{ak:List (List Key×V)} (e:H a=some (.dT ak)):jZ K H (.ref a) (.type "dict")
 |ins {a C dx:Addr}{fs:List (Str×V)} (e:H a=some (.ins C dx fs)) (cl:jO K C) (ha:PySem.W.findIn K (.ref C) "__class__"=some (some (.builtin "object.__class__")))
   (hn:PySem.W.specialIn K (.builtin "object.__class__") "__get__"=some (some (.builtin "getset_descriptor.__get__"))) (Mf:PySem.W.takesIn K (.builtin "object.__class__")=some true)
   (hm:PySem.W.mroIn K C (.type "object")=some true):jZ K H (.ref a) (.ref C)
def aiD(I:Inv X af U H s)(rx:RelV x u)(ty:jZ X.K H x t)(e:PySem.W.kitOne X.K t c=some b)(h:∀tk,Q (.bool b) { s with toks:=tk }):
  wpAny (model X.prog X.w) A (call (.builtin "isinstance") [u,c]) Q E s:=by
 cases ty with
 |aI=>cases(show u=Value.none from rx);apply PySem.W.kia_one PySem.W.kitx_none I.dU True.intro e (λz=>nomatch z) h
 |bl y=>cases(show u=Value.bool y from rx);apply PySem.W.kia_one PySem.W.kitx_bool I.dU True.intro e (λz=>nomatch z) h
 |int i=>let#[t,q]:=(show ∃t,u=Value.int i t from rx);ext q;apply PySem.W.kia_one PySem.W.kitx_int I.dU True.intro e (λz=>nomatch z) h
 |str y=>let#[t,q]:=(show ∃t,u=Value.str y t from rx);ext q;apply PySem.W.kia_one PySem.W.kitx_str I.dU True.intro e (λz=>nomatch z) h
 |sF y=>let#[t,q]:=(show ∃t,u=Value.float y t from rx);ext q;apply PySem.W.kia_one PySem.W.kitx_float I.dU True.intro e (λz=>nomatch z) h
 | @lst a xs ea=>
  cases(show u=Value.ref a from rx);let#[_,_,n,_,h1]:=(show dz X.prog X.w H s.heap a (.lst xs) from I.aH a _ ea)
  apply PySem.W.kia_one PySem.W.kitx_list I.dU #[_,h1,rfl] e (λz=>nomatch z) h
 | @cG a ob xs ea=>
  cases(show u=Value.ref a from rx);let#[_,_,_,n,_,h1]:=(show dz X.prog X.w H s.heap a (.cG ob (.lst xs)) from I.aH a _ ea)
  apply PySem.W.kia_one PySem.W.kitx_list I.dU #[_,h1,rfl] e (λz=>nomatch z) h
 | @tup a xs ea=>
  cases(show u=Value.ref a from rx);let#[_,_,_,p]:=(show dz X.prog X.w H s.heap a (.tup xs) from I.aH a _ ea)
  let#[o,h1,h2,_]:=p;apply PySem.W.kia_one PySem.W.kitx_tuple I.dU #[o,h1,h2] e (λz=>nomatch z) h
 | @dK a ak ea=>
  cases(show u=Value.ref a from rx);let#[_,_,vs,_,p]:=(show dz X.prog X.w H s.heap a (.dK ak) from I.aH a _ ea)
  let#[o,es,ep,h1,h2,_]:=p;apply PySem.W.kia_one PySem.W.kitx_dict I.dU #[o,h1,h2.1] e (λz=>nomatch z) h
 | @dT a ak ea=>
  cases(show u=Value.ref a from rx);let#[_,_,xs,_,o,es,ep,h1,h2,_]:=(show dz X.prog X.w H s.heap a (.dT ak) from I.aH a _ ea)
  apply PySem.W.kia_one PySem.W.kitx_dict I.dU #[o,h1,h2.1] e (λz=>nomatch z) h
 | @ins a C dx fs ea cl ha hn Mf hm=>
  cases(show u=Value.ref a from rx);let#[mA,O,_]:=BE I.aH ea;let#[od,J,_]:=O.look;apply PySem.W.kia_one (PySem.W.kitx_own (cl.get _) cl.hd ha hn Mf hm) I.dU J e (λz=>nomatch z) h
structure bz(k:Nat)(A:Around)(cm:Bool:=true):Prop where
 hd:cm=true->A.handled=none
 dp:A.depth+3*k+5<recursionLimit
 un:A.units+16*k+200<cLine
 gd:A.guards=some []
def bz.mono(r:bz k A cm)(h:j<=k):bz j A cm:=#[r.hd,by have:=r.dp;omega,by have:=r.un;omega,r.gd]
def bz.deeper(r:bz (k+1) A cm)(env:Env):bz k (A.deeper env) cm:=
 #[r.hd,by have:=r.dp;show A.depth+1+3*k+5<_;omega,by have:=r.un;show A.units+3+16*k+200<_;omega,r.gd]
def bz.in1(r:bz (k+1) A cm):bz k A.in1 cm:=
 #[r.hd,by have:=r.dp;show A.depth+3*k+5<_;omega,by have:=r.un;show A.units+1+16*k+200<_;omega,r.gd]
def Vm{A:Around}:(A.under (.builtin "type.__call__" #[.ref C::us,kw])).depth=A.depth+1:=by
 first|rfl|simp[Around.under,Code.weight,Code.isCreation,Code.isGuard,Code.isCaller,Code.frames,Code.isFrame,guardIds]
def UG{A:Around}:(A.under (.builtin "type.__call__" #[.ref C::us,kw])).units=A.units+1:=by
 first|rfl|simp[Around.under,Code.cUnits,Code.frames,Code.isFrame]
def bz.make(r:bz (k+1) A cm)(C:Addr)(us:List Value)(kw:List (Str×Value)):bz k (A.under (.builtin "type.__call__" #[.ref C::us,kw])) cm:=
 #[r.hd,by have:=r.dp;rw[Vm];omega,by have:=r.un;rw[UG];omega,by first|exact r.gd|(simp[Around.under,Code.guards,Code.isGuard,guardIds,pushGuards];apply r.gd)]
def bz.depth(r:bz k A cm):A.depth<recursionLimit:=by have:=r.dp;omega
def bz.units(r:bz k A cm):A.units+64<cLine:=by have:=r.un;omega
def DE:TA:=λ_ H Q=>Q [] H
def Um(ta:TE)(tr:TA):TA:=λU H Q=>ta U H λx H1=>tr U H1 λxs H2=>Q (x::xs) H2
def f7:PA X [] DE:=λ_ _ _ _ H Q I h=>Calls.spliced_nil #[[],H,I,.nil,h]
def eO(ha:PE X e te)(hr:PA X es t)(hs:starEach (e::es) X.env=(false,eval e X.env)::starEach es X.env:=by rfl):PA X (e::es) (Um te t):=by
 intro pos af s U H Q I h;rw[hs];show wpAny _ _ (spliced ((false,eval e X.env)::backTo pos (starEach es X.env))) _ _ s;refine Calls.spliced_cons (ha.n I h λu s1 x H1 I1 r1 q1=>?_);apply hr.n I1 q1 λus s2 xs H2 I2 r2 q2=>#[x::xs,H2,I2,.cons r1 r2,q2]
def Vd(t:TA):TE:=λU H Q=>t U H λxs H1=>xs.length<=sizeLine/\∀p,H1 p=none->Q (.ref p) (upd H1 p (.tup xs))
def um(t:TA):TE:=λU H Q=>t U H λxs H1=>xs.length<=sizeLine/\∀p,H1 p=none->Q (.ref p) (upd H1 p (.lst xs))
def ag4{x1}(h:PA X es t):PE X (.Tuple es x1 pos) (Vd t):=by
 intro af s U H Q I hq;refine wpAny_Tuple_spliced (cL (h pos af s U H _ I hq) ?_)
 rintro us s1 ⟨xs,H1,I1,r,z,q⟩
 refine#[by rw[<- r.length];apply z,?_];have hf:=I1.aH.fresh (aa9 _);refine#[.ref s1.heap.objs.size,upd H1 s1.heap.objs.size (.tup xs),I1.laid (t':=s1.toks) (λb u e=>aak _ e) (aa9 _) ?_,rfl,q _ hf];apply#[z,us,r,#[_,abx _ rfl,rfl,rfl,_,rfl]]
def afL(h:PA X es t):PE X (.List es pos) (um t):=by
 intro af s U H Q I hq;refine wpAny_List_spliced (cL (h pos af s U H _ I hq) ?_)
 rintro us s1 ⟨xs,H1,I1,r,z,q⟩
 refine#[by rw[<- r.length];apply z,?_];have hf:=I1.aH.fresh (aa9 _);refine#[.ref s1.heap.objs.size,upd H1 s1.heap.objs.size (.lst xs),I1.laid (t':=s1.toks) (λb u e=>aak _ e) (aa9 _) ?_,rfl,q _ hf];apply#[z,us,0,r,abx _ rfl]
abbrev Sp:=List V->Hp->VK->XK->Prop
abbrev qX:=List Env->Hp->Shared->XK->Value->Shared->Prop
structure sQ(P:Program)(w:World)(K:Fr)(mg:Str->Option Value)(base:Heap)(A:Around)(outer:List Env)(s:Shared)(H:Hp):Prop where
 frames:A.frames=some outer
 mod:Mod K mg base
 bs:∀b o,base.get? b=some o->s.heap.get? b=some o/\H b=none
 jd:base.objs.size<=s.heap.objs.size
 jh:s.heap.FunFrames base outer
 mQ:∀b∈bq outer,H b=none
 aH:c8 P w H s.heap
 bare:AllBare s.gens
 hq:Hq K A H
def CE(outer:List Env)(P:Program)(w:World)(H:Hp)(s:Shared)(Q:VK)(u:Value)(s':Shared):Prop:=
 ∃v H',s'.os=s.os/\AllBare s'.gens/\Un (bq outer) [] H H' s.heap s'.heap/\c8 P w H' s'.heap/\RelV v u/\Q v H'
def CR(CX:qX)(outer:List Env)(P:Program)(w:World)(H:Hp)(s:Shared)(Q:VK)(E:XK)(r:Result)(s':Shared):Prop:=
 match r with
 |.ok (.ret u)=>CE outer P w H s Q u s'
 |.ok _=>False
 |.error e=>CX outer H s E e s'
structure bQ(P:Program)(w:World)(K:Fr)(mg:Str->Option Value)(base:Heap)(CX:qX)(k:Nat)(f:Addr)(fd:FuncData)(ps:List Str)(sp:Sp)(cm:Bool:=true):Prop where
 len:∀vs H Q E,sp vs H Q E->vs.length=ps.length
 run:∀(A) (outer) (s) (H) (args) (us) (vs) (Q) (E),bz k A cm->sQ P w K mg base A outer s H->BindsTo s fd args (ps.zip us)->aT vs us->sp vs H Q E->
  codeAny (model P w) A (.call (.ref f) args) (CR CX outer P w H s Q E) s
def bQ.mono{K:Fr}(F:bQ P w K mg base CX j f fd ps sp cm)(h:j<=k):
  bQ P w K mg base CX k f fd ps sp cm:=#[F.len,λA outer s H args us vs Q E hr=>F.run A outer s H args us vs Q E (hr.mono h)]
def bQ.imp{K:Fr}(F:bQ P w K mg base CX k f fd ps sp cm)
  (h:∀vs H Q E,sp' vs H Q E->sp vs H Q E):bQ P w K mg base CX k f fd ps sp' cm:=
 #[λvs H Q E q=>F.len vs H Q E (h _ _ _ _ q),λA outer s H args us vs Q E hr he hb hv hs=>F.run A outer s H args us vs Q E hr he hb hv (h _ _ _ _ hs)]
def sQ.make{K:Fr}(e:sQ P w K mg base A outer s H)(C:Addr)(us:List Value)(kw:List (Str×Value)):
  sQ P w K mg base (A.under (.builtin "type.__call__" #[.ref C::us,kw])) outer s H:=#[by first|exact e.frames|(simpa[Around.under,Code.envs,Code.isFrame,pushEnvs] using e.frames),e.mod,e.bs,e.jd,e.jh,e.mQ,e.aH,e.bare,#[e.hq.hd,e.hq.ok,e.hq.lm]]
def Inv.JR(I:Inv X af U H s):sQ X.prog X.w X.K X.mg X.base X.A X.stack s H:=
 #[I.ok.frames,I.ok.mod,I.bs,adJ I.ok.jd I.sz,I.stack,I.uE,I.aH,I.bare,I.hq]
def Inv.after(I:Inv X af U H s)(h:CE X.stack X.prog X.w H s Q u s'):EP X af U Q u s':=by
 let#[v,H',os,bare,un,aH,r,q]:=h;let#[hh,g,d,t,XX]:=s';obtain rfl:XX=s.os:=os;apply#[v,H',I.call (g':=g) (d':=d) (ch:=[]) un aH bare (λb z=>absurd z (by simp)),r,q]
def adB(sp:Sp)(d8:List V)(E:XK)(t:TA):TE:=λU H Q=>t U H λvs H1=>sp (vs++d8) H1 Q E
def Cd(C:Addr)(m:Str)(sp:Sp)(d8:List V)(E:XK)(ta:TE)(t:TA):TE:=λU H Q=>ta U H λx H1=>∃a dx fs,x=.ref a/\H1 a=some (.ins C dx fs)/\fs.lookup m=none/\
 t U H1 λvs H2=>sp (x::(vs++d8)) H2 Q E
def K6(C:Addr)(sp:Sp)(d8:List V)(E:XK)(t:TA):TE:=λU H Q=>t U H λvs H1=>∀x dx,H1 x=none->H1 dx=none->dx≠x->
 sp (.ref x::(vs++d8)) (upd (upd H1 dx (.own x)) x (.ins C dx [])) (λv H2=>v=.aI/\Q (.ref x) H2) E
def Binds(K:Fr)(fd:FuncData)(ps:List Str)(ds:List Value):Prop:=
 ∀(s) (us),K.In s.heap->(us++ds).length=ps.length->BindsTo s fd #[us,[]] (ps.zip (us++ds))
def Binds.all{K:Fr}(h:∀us:List Value,us.length=ps.length->bindArgs fd #[us,[]]=pure (ps.zip us)):Binds K fd ps []:=λs us _ hl=>by
 rw[acU] at hl ⊢;apply .of_eq (h us hl)
def Passes(CX:qX)(X:Cx)(E:XK):Prop:=∀(af) (U) (H) (s) (e) (s'),Inv X af U H s->CX X.stack H s E e s'->X.xe e s'
def G2(F:bQ X.prog X.w X.K X.mg X.base CX k f fd ps sp cm)(hr:bz k X.A cm)(hb:Binds X.K fd ps ds)(hd:aT d8 ds)(hx:Passes CX X E)
  (I:Inv X af U H s) (r:aT vs us) (h:sp (vs++d8) H Q E):wpAny (model X.prog X.w) X.A (call (.ref f) us) (EP X af U Q) X.xe s:=by
 have r2:=r.append hd;have hl:(us++ds).length=ps.length:=by rw[<- r2.length];apply F.len _ _ _ _ h
 refine wpAny_call (ai8 (F.run X.A X.stack s H #[us,[]] (us++ds) (vs++d8) Q E hr I.JR (hb s us I.dU hl) r2 h) λr s' hq=>?_);cases r with
 |error e=>apply hx af U H s e s' I hq
 |ok fl=>
  cases fl with
  |ret u=>apply I.after hq
  |next=>apply False.elim hq
  |brk=>apply False.elim hq
  |cont=>apply False.elim hq
def O0(F:bQ X.prog X.w X.K X.mg X.base CX k f fd ps sp cm)(hr:bz k X.A cm)(hg:Gl X x)(hm:X.mg x=some (.ref f))(hk:PySem.W.keepIn X.K (.ref f)=true)(hb:Binds X.K fd ps ds)(hd:aT d8 ds)(hx:Passes CX X E)
  (ha:PA X (e::es) t) (fE:(x==("__debug__":Str))=false:=by decide) (he:starEach (e::es) X.env=(false,eval e X.env)::starEach es X.env:=by rfl) (hpl:(backTo pos (starEach es X.env)).any (·.1)=false:=by rfl) :
  PE X (.Call (.Name x p) (e::es) [] pos) (adB sp d8 E t):=by
 intro af s U H Q I h;refine afo (qI I hg hm ?_ fE);refine PySem.W.callWith_K (h₀:=X.base) I.ok.mod.qj hk (ha.n I h λus s1 vs H1 I1 r q=>#[I1.dU,?_]) he hpl;apply G2 F hr hb hd hx I1 r q
def A_(he:PE X o ta)(c:jO X.K C)(hm:kD X.K C m f)(F:bQ X.prog X.w X.K X.mg X.base CX k f fd ps sp cm)(hr:bz k X.A cm)(hb:Binds X.K fd ps ds)(hd:aT d8 ds)(hx:Passes CX X E)(ha:PA X (e::es) t)
  (dJ:starEach (e::es) X.env=(false,eval e X.env)::starEach es X.env:=by rfl) (hpl:(backTo pos (starEach es X.env)).any (·.1)=false:=by rfl)
  (ht:eval (.Call (.Attribute o m apos) (e::es) [] pos) X.env=(do
   let ov <- eval o X.env
   standAt apos.atName
   let(f,first) <- holding [ov] (getMethod ov m pl)
   callWith pos f first (backTo pos (starEach (e::es) X.env)) (backToKw pos (keywordEach [] X.env))):=by rfl) :
  PE X (.Call (.Attribute o m apos) (e::es) [] pos) (Cd C m sp d8 E ta t):=by
 intro af s U H Q I h;refine PySem.W.methodCall_KW (pl:=pl) (he.n I h λu s1 x H1 I1 rx q=>?_) ht;let#[a,dx,fs,ex,ea,l,q]:=q;subst ex;obtain rfl:u=Value.ref a:=rx;refine KJ I1 ea c hm l ?_;refine PySem.W.callWith_K (first:=[.ref a]) (h₀:=X.base) I.ok.mod.qj hm.kp (ha.n I1 q λus s2 vs H2 I2 r q2=>#[I2.dU,?_]) dJ hpl;apply G2 (us:=.ref a::us) (vs:=.ref a::vs) F hr hb hd hx I2 (.cons rfl r) q2
def Ui(he:PE X o ta)(c:jO X.K C)(hm:kD X.K C m f)(F:bQ X.prog X.w X.K X.mg X.base CX k f fd ps sp cm)(hr:bz k X.A cm)(hb:Binds X.K fd ps ds)(hd:aT d8 ds)(hx:Passes CX X E)
  (ht:eval (.Call (.Attribute o m apos) [] [] pos) X.env=(do
   let ov <- eval o X.env
   standAt apos.atName
   let(f,first) <- holding [ov] (getMethod ov m pl)
   callWith pos f first (backTo pos (starEach [] X.env)) (backToKw pos (keywordEach [] X.env))):=by rfl) :
  PE X (.Call (.Attribute o m apos) [] [] pos) (Cd C m sp d8 E ta DE):=by
 intro af s U H Q I h;refine PySem.W.methodCall_KW (pl:=pl) (he.n I h λu s1 x H1 I1 rx q=>?_) ht;let#[a,dx,fs,ex,ea,l,q]:=q;subst ex;obtain rfl:u=Value.ref a:=rx;refine KJ I1 ea c hm l ?_;apply PySem.W.callWith_K0 (first:=[.ref a]) I1.dU hm.kp (G2 (us:=[.ref a]) (vs:=[.ref a]) F hr hb hd hx I1 (.cons rfl .nil) q)
structure Mk(K:Fr)(C f:Addr):Prop where
 makes:PySem.W.makesIn K C=true
 init:PySem.W.findIn K (.ref C) "__init__"=some (some (.ref f))
 fn:PySem.W.isFn K (.ref f)=true
 kp:PySem.W.keepIn K (.ref C)=true
def N8(M:Mk X.K C f)(F:bQ X.prog X.w X.K X.mg X.base CX k f fd ps sp cm)(hr:bz (k+1) X.A cm)(hb:Binds X.K fd ps ds)(hd:aT d8 ds)
  (hx:Passes CX X E) (I:Inv X af U H s) (r:aT vs us)
  (h:∀x dx,H x=none->H dx=none->dx≠x->sp (.ref x::(vs++d8)) (upd (upd H dx (.own x)) x (.ins C dx [])) (λv H2=>v=.aI/\Q (.ref x) H2) E) :
  wpAny (model X.prog X.w) X.A (call (.ref C) us) (EP X af U Q) X.xe s:=by
 have hq:=h (s.heap.objs.size+1) s.heap.objs.size (I.aH.fresh (af1 _)) (I.aH.fresh (aa9 _)) (acy (aid _));have I2:=Inv.made (C:=C) I;have r2:aT (V.ref (s.heap.objs.size+1)::(vs++d8)) (Value.ref (s.heap.objs.size+1)::(us++ds)):=.cons rfl (r.append hd);have hl:(Value.ref (s.heap.objs.size+1)::us++ds).length=ps.length:=by
  have e:=r2.length;rw[F.len _ _ _ _ hq] at e;apply e.symm
 refine wpAny_call (ZU I.dU M.makes M.init (ahd.mp M.fn) (ai8 (F.run _ X.stack _ _ #[Value.ref (s.heap.objs.size + 1)::us,[]] (Value.ref (s.heap.objs.size + 1)::(us++ds)) _ _ E (hr.make C us [])
  (I2.JR.make C us []) (hb _ (Value.ref (s.heap.objs.size+1)::us) I2.dU hl) r2 hq) λr s' lQ=>?_))
 cases r with
 |error e=>apply hx af U _ _ e s' I2 lQ
 |ok fl=>
  cases fl with
  |ret u=>
   let#[v,H',I3,rv,ev,q3]:=I2.after lQ;subst ev;apply#[rv,#[V.ref (s.heap.objs.size+1),H',I3,rfl,q3]]
  |next=>apply False.elim lQ
  |brk=>apply False.elim lQ
  |cont=>apply False.elim lQ
def ah8(M:Mk X.K C f)(F:bQ X.prog X.w X.K X.mg X.base CX k f fd ps sp cm)(hr:bz (k+1) X.A cm)(hg:Gl X x)(hm:X.mg x=some (.ref C))(hb:Binds X.K fd ps ds)(hd:aT d8 ds)(hx:Passes CX X E)
  (ha:PA X (e::es) t) (fE:(x==("__debug__":Str))=false:=by decide) (he:starEach (e::es) X.env=(false,eval e X.env)::starEach es X.env:=by rfl) (hpl:(backTo pos (starEach es X.env)).any (·.1)=false:=by rfl) :
  PE X (.Call (.Name x p) (e::es) [] pos) (K6 C sp d8 E t):=by
 intro af s U H Q I h;refine afo (qI I hg hm ?_ fE);refine PySem.W.callWith_K (h₀:=X.base) I.ok.mod.qj M.kp (ha.n I h λus s1 vs H1 I1 r q=>#[I1.dU,?_]) he hpl;apply N8 M F hr hb hd hx I1 r q
def aeA(M:Mk X.K C f)(F:bQ X.prog X.w X.K X.mg X.base CX k f fd ps sp cm)(hr:bz (k+1) X.A cm)(hg:Gl X x)(hm:X.mg x=some (.ref C))(hb:Binds X.K fd ps ds)(hd:aT d8 ds)(hx:Passes CX X E)
  (fE:(x==("__debug__":Str))=false:=by decide):PE X (.Call (.Name x p) [] [] pos) (K6 C sp d8 E DE):=by
 intro af s U H Q I h;refine afo (qI I hg hm ?_ fE);apply PySem.W.callWith_K0 I.dU M.kp (N8 (us:=[]) M F hr hb hd hx I .nil h)
structure rG(N P:List Str)(sc:Scope):Prop where
 kind:sc.kind=.function
 co:sc.isCoroutine=false
 gen:sc.isGenerator=false
 nd:N.Nodup
 pre:N.take P.length=P
 par:∀x∈P,sc.names.lookup x=some .local\/sc.names.lookup x=some .cell
 aha:∀y∈sc.names,y.2≠.free
theorem Pe{kindOf:Str->Option NameKind}:∀{binds} {m},(∀v,(x,v)∉binds)->bindL kindOf binds m x=m x
 |[],_,_=>rfl
 |(n,v)::r,m,h=>by
  unfold bindL;rw[Pe λw hw=>h w (aao _ hw)]
  split
  .have:x≠n:=by rintro rfl;apply h v aap
   simp[this]
  .rfl
theorem LF{kindOf:Str->Option NameKind}:∀{binds} {m},(∀v,(x,v)∉binds)->bindC kindOf binds m x=m x
 |[],_,_=>rfl
 |(n,v)::r,m,h=>by
  unfold bindC;rw[LF λw hw=>h w (aao _ hw)]
  split
  .rfl
  .have:x≠n:=by rintro rfl;apply h v aap
   simp[this]
theorem Sd{kindOf:Str->Option NameKind}:∀{P:List Str} {vs}{i:Nat} {m},P.Nodup->P[i]? = some x->vs[i]? = some v->kindOf x=some .local->
  bindL kindOf (P.zip vs) m x=some v
 |[],_,_,_,_,h,_,_=>by simp at h
 |_::_,[],_,_,_,_,h,_=>by simp at h
 |p::P,w::vs,0,m,nd,h1,h2,hk=>by
  simp at h1 h2;subst h1;subst h2;show bindL kindOf ((p,w)::P.zip vs) m p=_;unfold bindL;rw[Pe λv hv=>(ab3.mp nd).1 (List.of_mem_zip hv).1,if_pos hk];simp
 |p::P,w::vs,i+1,m,nd,h1,h2,hk=>by
  unfold bindL;apply Sd (ab3.mp nd).2 (by simpa using h1) (by simpa using h2) hk
theorem RQ{kindOf:Str->Option NameKind}:∀{P:List Str} {vs}{i:Nat} {m},P.Nodup->P[i]? = some x->vs[i]? = some v->kindOf x≠some .local->
  bindC kindOf (P.zip vs) m x=some v
 |[],_,_,_,_,h,_,_=>by simp at h
 |_::_,[],_,_,_,_,h,_=>by simp at h
 |p::P,w::vs,0,m,nd,h1,h2,hk=>by
  simp at h1 h2;subst h1;subst h2;show bindC kindOf ((p,w)::P.zip vs) m p=_;unfold bindC;rw[LF λv hv=>(ab3.mp nd).1 (List.of_mem_zip hv).1,abm hk];simp
 |p::P,w::vs,i+1,m,nd,h1,h2,hk=>by
  unfold bindC;apply RQ (ab3.mp nd).2 (by simpa using h1) (by simpa using h2) hk
def start(N:List Str)(vs:List V):St:=vs.map some++List.replicate (N.length-vs.length) none
def gb(CX:qX)(P:Program)(w:World)(K:Fr)(mg:Str->Option Value)(base:Heap)(N:List Str)(qual:Str)(scope:Scope)(f:Addr)(cd:Value)(A:Around)(outer:List Env)(s:Shared)(H:Hp)(E:XK)(cm:Bool:=true):Cx where
 prog:=P
 w:=w
 K:=K
 mg:=mg
 base:=base
 A:=A.deeper (envOfC qual scope s.heap.objs.size f cd)
 N:=N
 cZ:=s
 oY:=H
 env:=envOfC qual scope s.heap.objs.size f cd
 outer:=outer
 stack:=envOfC qual scope s.heap.objs.size f cd::outer
 ex:=[]
 calm:=cm
 fn:=λ_=>true
 pn:=[]
 xe:=λe s'=>wpAny (model P w) (A.deeper (envOfC qual scope s.heap.objs.size f cd)) (leaving (envOfC qual scope s.heap.objs.size f cd) e) (λ_ gH=>CX outer H s E e gH) (λe' gH=>CX outer H s E e' gH) s'
def O3{sc:Scope}(h:sc.names.lookup x=some .cell):∃c,(cellsFrom n sc.names []).lookup x=some c:=by
 have q:=PySem.W.cellsFrom_some sc.names n [] (.inl h);apply ago.mp q
def abY{w:World}{K:Fr}{mg:Str->Option Value}
  (S:rG N ps scope) (hd:cm=true->A.handled=none) (e0:sQ P w K mg base A outer s H) (hl:vs.length=ps.length) (r:aT vs us)
  (x:InCallC s s.heap.objs.size (bindL (envOfC qual scope s.heap.objs.size f cd).kindOf (ps.zip us) λ_=>none) (cellsFrom (s.heap.objs.size+1) scope.names []) (bindC (envOfC qual scope s.heap.objs.size f cd).kindOf (ps.zip us) λ_=>none) s1) :
  Inv (gb CX P w K mg base N qual scope f cd A outer s H E cm) [] (start N vs) H s1:=by
 have hpl:ps.length<=N.length:=by have:=congrArg List.length S.pre;rw[ahs] at this;omega
 let#[h1,tk,rfl,hk]:=x.done;have ua:∀b:Addr,b∉(gb CX P w K mg base N qual scope f cd A outer s H E cm).ex:=λb z=>absurd (show b∈([]:List Addr) from z) (by simp)
 refine#[#[e0.mod,S.kind,rfl,rfl,aa9 _,λy z c h1 h2=>?_,λy hy=>?_,λy c _ h=>?_,hd,Around.frames_deeper e0.frames,.inr #[rfl,rfl],λb z=>absurd z (ua b),e0.bs,e0.jd,λb _ _=>ua b,λb z=>absurd z (ua b),e0.jh,e0.mQ],
  rfl,e0.bare,Un.kept hk,#[_,x.toInCall.ns,λi y v h1 h2 h3=>?_],λy c h=>#[_,x.cell y c h],e0.aH.fresh (aa9 _),λy c h=>?_,λp hp=>absurd (show p∈([]:List (Addr×Obj)) from hp) (by simp),e0.aH.kept hk,?_,#[e0.hq.hd,e0.hq.ok,e0.hq.lm]]
 .exact name_of_addr x.apart (PySem.mem_of_lookup h1) (PySem.mem_of_lookup h2)
 .have hy:=hy;rcases hy with hy|hy
  .exact O3 hy
  .exact absurd rfl (S.aha _ (PySem.mem_of_lookup hy))
 .exact agc (x.above y c (PySem.mem_of_lookup h))
 .have hi:i<vs.length:=by
   unfold start at h2
   by_cases hi:i<vs.length
   .exact hi
   .rw[agH (by simpa using hi)] at h2;rw[List.getElem?_replicate] at h2
    split at h2<;>ext h2
  have ha:vs[i]? = some v:=by
   unfold start at h2;rw[afS (by simpa using hi),acB] at h2;exists e,vs[i]?,a,h2;ext h2;rfl
  let#[u,hu,rv]:=r.get ha;have hp:ps[i]? = some y:=by
   rw[<- S.pre,List.getElem?_take_of_lt (by omega)];apply h1
  have RO:ps.Nodup:=by rw[<- S.pre];apply S.nd.sublist (List.take_sublist _ _)
  refine#[u,rv,?_];rcases S.par y (aiS hp) with k|k
  .exact .inl #[k,Sd RO hp hu k]
  .let#[c,e]:=O3 k;refine .inr #[.inl k,c,e,?_];have q:=x.cell y c e;rw[RQ RO hp hu (by show scope.names.lookup y≠_;rw[k];decide)] at q;apply q
 .exact e0.aH.fresh (agc (x.above y c (PySem.mem_of_lookup h)))
 .unfold start;show _=N.length;rw[abE,List.length_map,List.length_replicate];omega
def Ob{K:Fr}{dV kV doc pm aU ct oc:Value}
  (lk:K.lookup f=some #[oc,od,.func (PySem.W.fnOf name qual params body scope dV kV doc pm an aU ct),qm]) (gI:PySem.W.codeIn K aU qual=true) (S:rG N ps scope)
  (len:∀vs H Q E,sp vs H Q E->vs.length=ps.length)
  (x6:∀(A) (outer) (s) (H) (vs) (Q) (E),bz k (A.deeper (envOfC qual scope s.heap.objs.size f aU)) cm->sp vs H Q E->
   ∃t,g_ (gb CX P w K mg base N qual scope f aU A outer s H E cm) body t/\t { nx:=λ_ H'=>Q .aI H',rt:=Q } (start N vs) H) :
  bQ P w K mg base CX (k+1) f (PySem.W.fnOf name qual params body scope dV kV doc pm an aU ct) ps sp cm:=by
 refine#[len,λA outer s H args us vs Q E hr e0 hb r rj=>?_];have hl:=len _ _ _ _ rj;have KX:=e0.mod.qj.keeps λb o e=>(e0.bs b o e).1
 have lim:=e0.mod.nolimit.keeps λb o e=>(e0.bs b o e).1
 have abr:∀y∈ps.zip us,scope.names.lookup y.1=some .local\/(scope.names.lookup y.1=some .cell/\((cellsFrom (s.heap.objs.size+1) scope.names []).lookup y.1).isSome=true):=λ⟨n,v⟩ hy=>by
  rcases S.par n (List.of_mem_zip hy).1 with q|q
  .exact .inl q
  .exact .inr #[q,PySem.W.cellsFrom_some _ _ _ (.inl q)]
 refine codeAny_call_function hr.depth (KX _ _ lk) rfl S.co S.gen rfl (PySem.W.codeRec_of KX gI) (hb _ _ _ _ ?_);refine wpAny_newFunctionEnv_cells S.kind abr λenv he s1 x=>?_
 subst he;refine#[lim.keeps x.toInCall.keep,codeAny_func ?_];let#[t,ht,hq]:=x6 A outer s H vs Q E (hr.deeper _) rj;have I:Inv (gb CX P w K mg base N qual scope f aU A outer s H E cm) [] (start N vs) H s1:=abY S hr.hd e0 hl r x;refine ad1 (ht [] s1 (start N vs) H _ I hq) (λfl s' hs=>?_) λe s' hs=>hs
 have fin:∀{aE} {H'} {v} {u},Inv (gb CX P w K mg base N qual scope f aU A outer s H E cm) [] aE H' s'->RelV v u->Q v H'->CE outer P w H s Q u s':=
  λ{aE H' v u} J rv q=>#[v,H',J.os,J.bare,J.base,J.aH,rv,q]
 cases fl with
 |ret u=>
  let#[v,aE,H',J,rv,q]:=hs;apply fin J rv q
 |next=>
  let#[aE,H',J,q]:=hs;apply fin (v:=V.aI) (u:=Value.none) J rfl q
 |brk=>
  let#[_,_,_,q]:=hs;apply False.elim q
 |cont=>
  let#[_,_,_,q]:=hs;apply False.elim q
section
variable{id T:String}
def Gk(r:List V->Hp->VK->Prop)(t:TA):TE:=λU H Q=>t U H λvs H1=>r vs H1 Q
def sA(hc:gO X (.builtin id) r)(hg:Gl X x)(hm:X.mg x=none)(hv:bootBuiltins x=some (.builtin id))(ha:PA X (e::es) t)(hn:x≠"__name__":=by decide)(fE:(x==("__debug__":Str))=false:=by decide)
  (he:starEach (e::es) X.env=(false,eval e X.env)::starEach es X.env:=by rfl) (hpl:(backTo pos (starEach es X.env)).any (·.1)=false:=by rfl):PE X (.Call (.Name x p) (e::es) [] pos) (Gk r t):=by
 intro af s U H Q I h;refine afo (nZ I hg hm hv ?_ hn fE);apply PyProof.Rows.callWith_builtin1 (ha.n I h λus s1 vs H1 I1 r1 q1=>hc af s1 U H1 vs us Q I1 r1 q1) he hpl
def xg(hc:gO X (.type T) r)(hg:Gl X x)(hm:X.mg x=none)(hv:bootBuiltins x=some (.type T))(ha:PA X (e::es) t)(hn:x≠"__name__":=by decide)(fE:(x==("__debug__":Str))=false:=by decide)
  (he:starEach (e::es) X.env=(false,eval e X.env)::starEach es X.env:=by rfl) (hpl:(backTo pos (starEach es X.env)).any (·.1)=false:=by rfl):PE X (.Call (.Name x p) (e::es) [] pos) (Gk r t):=by
 intro af s U H Q I h;refine afo (nZ I hg hm hv ?_ hn fE);apply afr (ha.n I h λus s1 vs H1 I1 r1 q1=>hc af s1 U H1 vs us Q I1 r1 q1) he hpl
end
end L2
namespace HT
open PySem PyProof.Rows
def bB(n d:Nat):Option Int->Nat
 |none=>d
 |some v=>if v<0 then(v+(n:Int)).toNat else min v.toNat n
def JV(n d:Nat):bB n d none=d:=rfl
def Ji(n d k:Nat):bB n d (some (k:Int))=min k n:=by
 show(if(k:Int)<0 then((k:Int)+(n:Int)).toNat else min (k:Int).toNat n)=min k n;rw[abm (by omega),ajA]
def Xi(n d:Nat)(hd:d<=n)(o:Option Int):bB n d o<=n:=by
 cases o with
 |none=>apply hd
 |some v=>
  show(if v<0 then(v+(n:Int)).toNat else min v.toNat n)<=n
  by_cases hv:v<0
  .rw[if_pos hv];omega
  .rw[abm hv];apply Nat.min_le_right _ _
def TN(v:Int)(n d:Nat):(if v<0 then max (v+(n:Int)) 0 else min v (n:Int))=((bB n d (some v):Nat):Int):=by
 show(if v<0 then max (v+(n:Int)) 0 else min v (n:Int))=(((if v<0 then(v+(n:Int)).toNat else min v.toNat n):Nat):Int)
 by_cases hv:v<0
 .simp only[if_pos hv];omega
 .simp only[abm hv];omega
def aeo(lo hi:Option Int)(n:Nat):Builtin.Slice.sliceAdjust lo hi 1 (n:Int)=(((bB n 0 lo:Nat):Int),((bB n n hi:Nat):Int)):=by
 have h1:¬((1:Int)<0):=by omega
 unfold Builtin.Slice.sliceAdjust;simp only[h1,if_false];refine Prod.ext ?_ ?_
 .cases lo with
  |none=>rfl
  |some v=>apply TN v n 0
 .cases hi with
  |none=>rfl
  |some v=>apply TN v n n
def Vj(i j:Nat):Builtin.Slice.slicePlaces (i:Int) (j:Int) 1=j-i:=by
 unfold Builtin.Slice.slicePlaces;have h1:(1:Int) > 0:=by omega
 simp only[h1,if_true,Int.ediv_one]
 split<;>omega
def Rk(p:IsPart v o)(h:Q o s):wpAny (model prog w) A (Builtin.Slice.slicePartIndex v) Q E s:=by
 cases p with
 |none=>apply slicePart_none h
 |int i t=>apply slicePart_int h
def OB{lo hi:Option Int}{Q:Int×Int×Nat->Shared->Prop}(hs:s.heap.IsSliceOf sl vl vu .none)(pl:IsPart vl lo)(pu:IsPart vu hi)
  (h:Q (((bB n 0 lo:Nat):Int),1,bB n n hi-bB n 0 lo) s):wpAny (model prog w) A (Builtin.Slice.sliceApplied (.ref sl) (pure (n:Int))) Q E s:=by
 let#[os,oN,oZ,yL]:=id hs;unfold Builtin.Slice.sliceApplied Builtin.Slice.sliceFields;refine aal (aal (agp oN yL (x:=vl) rfl (aal (agp oN yL (x:=vu) rfl (aal (agp oN yL (x:=.none) rfl (abc ?_)))))));refine aal (slicePart_none ?_);show wpAny _ _ (if((1:Int)==0)=true then _ else _) _ _ s;rw[abm (by decide)];refine aal (Rk pl (aal (Rk pu (aal (abc ?_)))));show wpAny _ _ (match Builtin.Slice.sliceAdjust lo hi 1 (n:Int) with|(lo,hi)=>pure (lo,(1:Int),Builtin.Slice.slicePlaces lo hi 1)) _ _ s;rw[aeo lo hi n];show wpAny _ _ (pure (((bB n 0 lo:Nat):Int),(1:Int),Builtin.Slice.slicePlaces ((bB n 0 lo:Nat):Int) ((bB n n hi:Nat):Int) 1)) _ _ s;rw[Vj];apply abc h
def ag7(xs:Array Value)(i k:Nat):((List.range k).filterMap λ(m:Nat)=>xs[((i:Int)+(m:Int)*1).toNat]?).toArray=((xs.toList.drop i).take k).toArray:=by
 have e:(λ(m:Nat)=>xs[((i:Int)+(m:Int)*1).toNat]?)=λm=>xs[i+m]? :=by
  funext m
  have:((i:Int)+(m:Int)*1).toNat=i+m:=by omega
  rw[this]
 rw[e];have:=pick_run xs i k;rw[ae7] at this;have e2:((λx=>xs[x]?) ∘ λx=>i+x)=λm=>xs[i+m]? :=rfl
 rw[e2] at this;rw[this]
def agx{lo hi:Option Int}(ht:IsTup s.heap t items)(hs:s.heap.IsSliceOf sl vl vu .none)(pl:IsPart vl lo)(pu:IsPart vu hi)
  (hw:¬(bB items.size 0 lo=0/\bB items.size items.size hi=items.size))
  (h:Q (.ref s.heap.objs.size) { s with heap:=s.heap.push { cls:=.type "tuple",data:=.seq ((items.toList.drop (bB items.size 0 lo)).take (bB items.size items.size hi-bB items.size 0 lo)).toArray } })
  (hsz:items.size<=sizeLine):wpAny (model prog w) A (getItem (.ref t) (.ref sl)) Q E s:=by
 have DB:sizeOk (.seq ((items.toList.drop (bB items.size 0 lo)).take (bB items.size items.size hi-bB items.size 0 lo)).toArray):=by
  show((items.toList.drop (bB items.size 0 lo)).take (bB items.size items.size hi-bB items.size 0 lo)).toArray.size<=sizeLine;rw[ab0,ahs,ajj,ae9];omega
 have hj:bB items.size items.size hi<=items.size:=Xi _ _ (aa9 _) hi;let#[os,oN,oZ,yL]:=id hs;have EW:s.TypeIs (.ref sl) "slice":=#[os,oN,oZ]
 unfold getItem
 try with_reducible refine afy ?_
 first|refine aal (abc ?_)|skip
 refine aal (wpAny_sequenceKey ht.typeIs (by decide) ?_);refine aal (agy (name:=Str.ofString "__getitem__") ht.typeIs ae6
  (ah3 ae6 ht.typeIs entry_tuple_getitem ?_ (args_tuple_getitem _ _)))
 show wpAny _ _ (Builtin.Tuple.tupleItemsOf (.ref t) >>= _) _ _ s;refine aal (tupleItemsOf_ ht ?_);refine aal (aja EW ?_);rw[if_pos (by decide)];refine aal (OB hs pl pu ?_);have zK:¬((((bB items.size 0 lo:Nat):Int)==0&&(1:Int)==1&&(bB items.size items.size hi-bB items.size 0 lo)==items.size)=true):=by
  intro q;rw[aaF,aaF] at q;have q1:=eq_of_beq q.1.1;have q2:=eq_of_beq q.2;apply hw #[by omega,by omega]
 show wpAny _ _ (if(((bB items.size 0 lo:Nat):Int)==0&&(1:Int)==1&&(bB items.size items.size hi-bB items.size 0 lo)==items.size)=true then _ else _) _ _ s;rw[abm zK,ag7]
 first
  |exact aal (m:=Builtin.Tuple.tupleExact _) (aeN (abc #[_,rfl,abc h]) DB)
  |exact aal (m:=Builtin.Tuple.tupleExact _) (aeN (aal (abc (abc #[_,rfl,abc h]))) DB)
  |exact aal (aal (m:=Builtin.Tuple.tupleExact _) (aeN (abc (abc #[_,rfl,abc h])) DB))
  |exact aal (aal (m:=Builtin.Tuple.tupleExact _) (aeN (abc #[_,rfl,abc h]) DB))
end HT
namespace L2
open PySem PySem.Spec PyProof.Rows
abbrev TO:=St->Hp->(Option Int->Hp->Prop)->Prop
def PO(X:Cx)(e:Option Expr)(t:TO):Prop:=
 ∀(af) (s) (U) (H) (Q),Inv X af U H s->t U H Q->
  wpAny (model X.prog X.w) X.A (evalPart e X.env) (λu s'=>∃o H',Inv X af U H' s'/\IsPart u o/\Q o H') X.xe s
def Y5:TO:=λ_ H Q=>Q none H
def aeq(t:TE):TO:=λU H Q=>t U H λx H1=>∃i,x=.int i/\Q (some i) H1
def intsAre_of:∀{us},aT (ns.map V.int) us->IntsAre us ns:=by
 induction ns with
 |nil=>intro us r;rw[ajE] at r;ext r;apply .nil
 |cons n ns ih=>
  intro us r;rw[aas] at r;cases r with
  |cons r1 r2=>
   let#[t,e]:=r1;subst e;apply .cons n t (ih r2)
section
variable{lo hi:Option Expr}
def IZ:PO X none Y5:=by
 intro af s U H Q I h;rw[evalPart_none];apply abc #[none,H,I,.none,h]
def IX(h:PE X e te):PO X (some e) (aeq te):=by
 intro af s U H Q I hw;rw[evalPart_some];refine h.n I hw λu s1 x H1 I1 r1 q1=>?_
 let#[i,rfl,q]:=q1;let#[t,rfl]:=r1;apply#[some i,H1,I1,.int i t,q]
def qS(X:Cx)(r:V->Option Int->Option Int->Hp->VK->Prop):Prop:=
 ∀(af) (s) (U) (H) (x) (v vl vu) (lo hi) (sl) (Q),Inv X af U H s->RelV x v->s.heap.IsSliceOf sl vl vu .none->IsPart vl lo->IsPart vu hi->r x lo hi H Q->
  ∃T id,typeLookup (.type T) "__getitem__"=pure (some (.builtin id))/\s.TypeIs v T/\wpAny (model X.prog X.w) X.A (getItem v (.ref sl)) (EP X af U Q) X.xe s
def qS.or(h:qS X r)(h':qS X r'):qS X (λx lo hi H Q=>r x lo hi H Q\/r' x lo hi H Q):=by
 intro af s U H x v vl vu lo hi sl Q I rx hs pl pu q;rcases q with q|q
 .exact h af s U H x v vl vu lo hi sl Q I rx hs pl pu q
 .exact h' af s U H x v vl vu lo hi sl Q I rx hs pl pu q
def tSl(r:V->Option Int->Option Int->Hp->VK->Prop)(te:TE)(tl th:TO):TE:=λU H Q=>te U H λx H1=>tl U H1 λl H2=>th U H2 λu H3=>r x l u H3 Q
def Bo(hr:qS X r)(he:PE X e te)(hl:PO X lo tl)(hu:PO X hi th):PE X (.Subscript e (.Slice lo hi none p2) pos) (tSl r te tl th):=by
 intro af s U H Q I h;refine Subscript_ (he.n I h λv s1 x H1 I1 r1 q1=>?_);refine wpAny_Slice (cL (hl af s1 U H1 _ I1 q1) ?_)
 rintro vl s2 ⟨l,H2,I2,pl,q2⟩
 refine cL (hu af s2 U H2 _ I2 q2) ?_
 rintro vu s3 ⟨u,H3,I3,pu,q3⟩
 rw[evalPart_none];refine abc ?_;have I4:Inv X af U H3 { s3 with heap:=s3.heap.push { cls:=.type "slice",data:=.fields ([vl,vu,.none].toArray) } }:=I3.kept (t':=s3.toks) λb ob q=>aak _ q
 let#[T,id,hT,ht,hg]:=hr af { s3 with heap:=s3.heap.push { cls:=.type "slice",data:=.fields ([vl,vu,.none].toArray) } } U H3 x v vl vu l u s3.heap.objs.size Q I4 r1 (Heap.IsSliceOf.new ..) pl pu q3;show wpAny (model X.prog X.w) X.A (subscriptTail e (.Slice lo hi none p2) v (.ref s3.heap.objs.size)) (EP X af U Q) X.xe { s3 with heap:=s3.heap.push { cls:=.type "slice",data:=.fields ([vl,vu,.none].toArray) } };apply tail_any (ops:=[.ref s3.heap.objs.size,v]) ht hT hg (by with_unfolding_all rfl)
def gk(xs:List V)(lo hi:Option Int):List V:=(xs.drop (HT.bB xs.length 0 lo)).take (HT.bB xs.length xs.length hi-HT.bB xs.length 0 lo)
def Rj(xs:List V)(lo hi:Option Int):(gk xs lo hi).length<=xs.length:=by
 unfold gk;rw[ahs,ajj];omega
def acf(K:Fr):V->Option Int->Option Int->Hp->VK->Prop:=λx lo hi H Q=>∃a xs,x=.ref a/\bK K H a xs/\
 ¬(HT.bB xs.length 0 lo=0/\HT.bB xs.length xs.length hi=xs.length)/\∀p,H p=none->Q (.ref p) (upd H p (.tup (gk xs lo hi)))
def abO:qS X (acf X.K):=by
 intro af s U H x v vl vu lo hi sl Q I rx hs pl pu h;let#[a,xs,rfl,hx,hw,q]:=h;ext rx;let#[aA,r,ht,hz]:=I.tuple hx;have hlen:aA.toArray.size=xs.length:=by rw[ab0];apply r.length.symm
 refine#["tuple",_,ae6.lookup,ht.typeIs,?_];refine HT.agx ht hs pl pu (by rw[hlen];apply hw) ?_ (by rw[hlen];apply hz);rw[hlen];refine#[.ref s.heap.objs.size,_,I.laid (t':=s.toks) (o:=.tup (gk xs lo hi)) (λb ob q=>aak _ q) (aa9 _) ?_,rfl,q _ (I.aH.fresh (aa9 _))];apply#[adJ (Rj xs lo hi) hz,_,(r.drop (HT.bB xs.length 0 lo)).take (HT.bB xs.length xs.length hi-HT.bB xs.length 0 lo),lI.new _ _]
end
def lR(n:Nat)(i:Int):Option Nat:=if 0<=i then(if i<n then some i.toNat else none) else if -(n:Int)<=i then some (i+n).toNat else none
def d7{α:Type}(xs:List α)(i:Int):Option α:=(lR xs.length i).bind λj=>xs[j]?
def Xu(h:lR n i=some j):seqIndex? i n=some j/\j<n/\-(n:Int)<=i/\i<n:=by
 unfold lR at h
 by_cases h0:0<=i
 .rw[if_pos h0] at h;let#[h1,h]:=ci h;have e:=acq h;apply#[by rw[seqIndex_of h0 h1,e],by omega,by omega,h1]
 .rw[abm h0] at h;let#[h1,h]:=ci h;have e:=acq h;apply#[by rw[seqIndex_neg (by omega) h1,e],by omega,h1,by omega]
def Jy(h:d7 xs i=some v):∃j,seqIndex? i xs.length=some j/\xs[j]? = some v/\j<xs.length/\-(xs.length:Int)<=i/\i<xs.length:=by
 unfold d7 at h;exists e,lR xs.length i,j,h;let#[h1,h2,h3,h4]:=Xu e;apply#[j,h1,h,h2,h3,h4]
def E5(b:Expr):Prop:=∀o i,subscripted b false o i=operate [o,i] (getItem o i)
def pJ(X:Cx)(r:R2):Prop:=
 ∀(value slice) (af) (s) (U) (H) (x y) (v u) (Q),Inv X af U H s->RelV x v->RelV y u->r x y H Q->
  subscripted slice false v u=operate [v,u] (getItem v u)->wpAny (model X.prog X.w) X.A (subscriptTail value slice v u) (EP X af U Q) X.xe s
def HL(X:Cx)(id:String)(r:V->List V->Hp->VK->Prop):Prop:=
 ∀(af) (s) (U) (H) (x) (xs) (v) (us) (Q),Inv X af U H s->RelV x v->aT xs us->r x xs H Q->
  wpAny (model X.prog X.w) X.A (call (.builtin id) (v::us)) (EP X af U Q) X.xe s
section
def pJ.or(h:pJ X r)(h':pJ X r'):pJ X (λx y H Q=>r x y H Q\/r' x y H Q):=by
 intro value slice af s U H x y v u Q I rx ry q hs;rcases q with q|q
 .exact h value slice af s U H x y v u Q I rx ry q hs
 .exact h' value slice af s U H x y v u Q I rx ry q hs
def Lc(hr:pJ X r)(ha:PE X a ta)(hb:PE X b tb)(hs:E5 b):PE X (.Subscript a b pos) (rm r ta tb):=by
 intro af s U H Q I h;apply Subscript_ (FF ha hb I h λv u s2 x y H2 I2 rx ry q=>hr a b af s2 U H2 x y v u Q I2 rx ry q (hs _ _))
def Lo(K:Fr):R2:=λx y H Q=>∃p xs i v,x=.ref p/\y=.int i/\ck K H p xs/\d7 xs i=some v/\Q v H
def Cf(K:Fr):R2:=λx y H Q=>∃p xs i v,x=.ref p/\y=.int i/\bK K H p xs/\d7 xs i=some v/\Q v H
def KW:R2:=λx y H Q=>∃z i c,x=.str z/\y=.int i/\z.length<=sizeLine/\d7 z.cps.toList i=some c/\Q (.str #[([c].toArray)]) H
def agl:pJ X (Lo X.K):=by
 intro value slice af s U H x y v u Q I rx ry h hs;let#[p,xs,i,z,rfl,rfl,hq,he,q]:=h;ext rx;let#[t,rfl]:=ry;let#[aA,r,pl,hz]:=I.list hq;let#[j,h1,h2,h3,h4,h5]:=Jy he;let#[w,ew,fu]:=r.get h2;have hl:=r.length;have hn:=zO;have fin:EP X af U Q w s:=#[z,H,I,fu,q]
 by_cases h0:0<=i
 .have hj:i.toNat=j:=by
   rw[seqIndex_of h0 h5] at h1;apply acq h1
  apply item_listR pl.isList h0 (by omega) (by rw[hj];simpa using ew) fin hs
 .have hj:(i+(aA.toArray.size:Int)).toNat=j:=by
   rw[seqIndex_neg (by omega) h4] at h1;rw[ab0,<- hl];apply acq h1
  apply subscriptTail_builtinR pl.isList.typeIs slot_list_getitem.lookup
   (wpAny_getItem_list_neg pl.isList (by omega) (by rw[ab0]<;>omega) (by omega) (by rw[hj];simpa using ew) #[rfl,fin]) hs
def Ph:pJ X (Cf X.K):=by
 intro value slice af s U H x y v u Q I rx ry h hs;let#[p,xs,i,z,rfl,rfl,hq,he,q]:=h;ext rx;let#[t,rfl]:=ry;let#[aA,r,pl,hz]:=I.tuple hq;let#[j,h1,h2,h3,h4,h5]:=Jy he;let#[w,ew,fu]:=r.get h2;have hl:=r.length;have hn:=zO;have fin:EP X af U Q w s:=#[z,H,I,fu,q]
 apply subscriptTail_builtinR pl.typeIs slot_tuple_getitem.lookup
  (getItem_tuple pl (by omega) (by omega) (by rw[ab0,<- hl];apply h1) (by simpa using ew) #[rfl,fin]) hs
def ad6:pJ X KW:=by
 intro value slice af s U H x y v u Q I rx ry h hs;let#[z,i,c,rfl,rfl,hz,he,q]:=h;let#[t,rfl]:=rx;let#[t',rfl]:=ry;let#[j,h1,h2,h3,h4,h5]:=Jy he;have hl:z.cps.toList.length=z.length:=by simp[Str.length]
 rw[hl] at h1 h4 h5;have hn:=zO;apply tail_any (typeIs_str s z t) slot_str_getitem.lookup (getItem_str (by
  have e1:decide (i < -(2 ^ 63:Int))=false:=abS (by omega);have e2:decide (i >= 2 ^ 63)=false:=abS (by omega);rw[e1,e2,Bool.or_false]) (by rw[h1];simpa using h2) #[.str #[([c].toArray)],H,I.tok _,#[_,rfl],q]) hs
def YE(K:Fr):R2:=λx y H Q=>Lo K x y H Q\/Cf K x y H Q\/KW x y H Q
def Uq:pJ X (YE X.K):=agl.or (Ph.or ad6)
def agb(lo hi:Option Int)(n:Nat):(sliceBounds lo hi none n).1=((HT.bB n 0 lo:Nat):Int)/\(sliceBounds lo hi none n).2.1=((HT.bB n n hi:Nat):Int)/\(sliceBounds lo hi none n).2.2=1:=by
 refine#[?_,?_,rfl]
 .cases lo with
  |none=>simp[sliceBounds,HT.bB]
  |some i=>
   simp only[sliceBounds,HT.bB,Option.getD_none,show(1:Int) > 0 by decide,if_true]
   by_cases h:i<0
   .simp only[h,if_true]<;>omega
   .simp only[h,if_false]<;>omega
 .cases hi with
  |none=>simp[sliceBounds,HT.bB]
  |some i=>
   simp only[sliceBounds,HT.bB,Option.getD_none,show(1:Int) > 0 by decide,if_true]
   by_cases h:i<0
   .simp only[h,if_true]<;>omega
   .simp only[h,if_false]<;>omega
def ae5(aA:List Value)(lo hi:Option Int):slicePick aA.toArray lo hi none=((aA.drop (HT.bB aA.length 0 lo)).take (HT.bB aA.length aA.length hi-HT.bB aA.length 0 lo)).toArray:=by
 let#[h1,h2,h3]:=agb lo hi aA.toArray.size;unfold slicePick;rw[h1,h2,h3];simp only[sliceRange_one,pick_run,ab0]<;>rfl
def JZ(K:Fr):V->Option Int->Option Int->Hp->VK->Prop:=λx lo hi H Q=>∃a xs,x=.ref a/\ck K H a xs/\∀p,H p=none->Q (.ref p) (upd H p (.lst (gk xs lo hi)))
def DJ:qS X (JZ X.K):=by
 intro af s U H x v vl vu lo hi sl Q I rx hs pl pu h;let#[a,xs,rfl,hx,q]:=h;ext rx;let#[aA,r,ht,hz]:=I.list hx;have hlen:=r.length;refine#["list",_,slot_list_getitem.lookup,ht.isList.typeIs,?_];refine wpAny_getItem_list_slice ht.isList hs pl pu .none (by simp) ?_ (by rw[ab0]<;>omega);rw[ae5,<- hlen];refine#[.ref s.heap.objs.size,_,I.laid (λb ob q=>aak _ q) (aa9 _) ?_,rfl,q _ (I.aH.fresh (aa9 _))];apply#[adJ (Rj xs lo hi) hz,_,0,(r.drop (HT.bB xs.length 0 lo)).take (HT.bB xs.length xs.length hi-HT.bB xs.length 0 lo),abx _ rfl]
def nF:V->Bool
 |.aI=>true
 |.bl _=>true
 |.int _=>true
 |.str _=>true
 |_=>false
def qK:V->V->Bool
 |.aI,.aI=>true
 |.bl a,.bl b=>a==b
 |.bl a,.int b=>(if a then 1 else 0)==b
 |.int a,.bl b=>a==(if b then 1 else 0)
 |.int a,.int b=>a==b
 |.str a,.str b=>a==b
 |_,_=>false
def ahN(ry:RelV y u)(rx:RelV x v)(fy:nF y=true)(fx:nF x=true):SeqAt.EqAt A s u v (qK y x):=by
 cases y with
 |aI=>
  ext ry;cases x with
  |aI=>ext rx;apply SeqAt.EqAt.same _
  |bl b=>ext rx;apply SeqAt.EqAt.none_bool b
  |int b=>let#[t,rfl]:=rx;apply SeqAt.EqAt.none_int b t
  |str b=>let#[t,rfl]:=rx;apply SeqAt.EqAt.none_str b t
  |_=>apply absurd (show false=true from fx) aa3
 |bl a=>
  ext ry;cases x with
  |aI=>ext rx;apply SeqAt.EqAt.bool_none a
  |bl b=>ext rx;apply SeqAt.EqAt.bool_bool a b
  |int b=>let#[t,rfl]:=rx;apply SeqAt.EqAt.bool_int a b t
  |str b=>let#[t,rfl]:=rx;apply SeqAt.EqAt.bool_str a b t
  |_=>apply absurd (show false=true from fx) aa3
 |int a=>
  let#[t',rfl]:=ry;cases x with
  |aI=>ext rx;apply SeqAt.EqAt.int_none a t'
  |bl b=>ext rx;apply SeqAt.EqAt.int_bool a t' b
  |int b=>let#[t,rfl]:=rx;apply SeqAt.EqAt.int_int a t' b t
  |str b=>let#[t,rfl]:=rx;apply SeqAt.EqAt.int_str a t' b t
  |_=>apply absurd (show false=true from fx) aa3
 |str a=>
  let#[t',rfl]:=ry;cases x with
  |aI=>ext rx;apply SeqAt.EqAt.str_none a t'
  |bl b=>ext rx;apply SeqAt.EqAt.str_bool a t' b
  |int b=>let#[t,rfl]:=rx;apply SeqAt.EqAt.str_int a t' b t
  |str b=>let#[t,rfl]:=rx;apply SeqAt.EqAt.str_str a t' b t
  |_=>apply absurd (show false=true from fx) aa3
 |_=>apply absurd (show false=true from fy) aa3
def iZ(x:V)(u:Value):Bool:=match u with
 |.none=>qK .aI x
 |.bool b=>qK (.bl b) x
 |.int i _=>qK (.int i) x
 |.str z _=>qK (.str z) x
 |_=>false
def Tj(r:RelV y u)(f:nF y=true):iZ x u=qK y x:=by
 cases y with
 |aI=>ext r;rfl
 |bl b=>ext r;rfl
 |int i=>let#[t,rfl]:=r;rfl
 |str z=>let#[t,rfl]:=r;rfl
 |_=>apply absurd (show false=true from f) aa3
theorem yt:∀{xs} {us},aT xs us->xs.all nF=true->us.any (iZ x)=xs.any λy=>qK y x
 |_,_,.nil,_=>rfl
 |y::xs,u::us,.cons r t,f=>by
  rw[ajt,aaF] at f;rw[aiY,aiY,Tj r f.1,yt t f.2]
theorem uY(rx:RelV x v)(fx:nF x=true):∀{xs} {us},aT xs us->xs.all nF=true->∀u∈us,SeqAt.EqAt A s u v (iZ x u)
 |_,_,.nil,_=>λu hu=>by ext hu
 |y::xs,u::us,.cons r t,f=>λu' hu=>by
  rw[ajt,aaF] at f;rcases aat.mp hu with rfl|hu
  .rw[Tj r f.1];apply ahN r rx f.1 fx
  .exact uY rx fx t f.2 u' hu
def vV(x:V)(xs:List V):Bool:=xs.any λy=>qK y x
def Dv(K:Fr)(neg:Bool):R2:=λx y H Q=>∃p xs,y=.ref p/\(ck K H p xs\/bK K H p xs)/\nF x=true/\xs.all nF=true/\Q (.bl (if neg then !vV x xs else vV x xs)) H
def Oj:dH X (compareOp .In) (Dv X.K false):=by
 intro af s U H x y v u Q I rx ry h;let#[p,xs,rfl,hq,fx,fs,q]:=h;ext ry;rcases hq with hq|hq
 .let#[aA,r,pl,hz]:=I.list hq;refine SeqAt.in_listAt (iZ x) pl.isList (λw hw=>uY rx fx r fs w (by simpa using hw)) #[.bl _,H,I,rfl,?_];rw[show aA.toArray.any (iZ x)=aA.any (iZ x) by simp,yt r fs];apply q
 .let#[aA,r,pl,hz]:=I.tuple hq;refine SeqAt.in_tupleAt (iZ x) pl (λw hw=>uY rx fx r fs w (by simpa using hw)) #[.bl _,H,I,rfl,?_];rw[show aA.toArray.any (iZ x)=aA.any (iZ x) by simp,yt r fs];apply q
def Hs:dH X (compareOp .NotIn) (Dv X.K true):=by
 intro af s U H x y v u Q I rx ry h;let#[p,xs,rfl,hq,fx,fs,q]:=h;ext ry;rcases hq with hq|hq
 .let#[aA,r,pl,hz]:=I.list hq;refine SeqAt.notIn_listAt (iZ x) pl.isList (λw hw=>uY rx fx r fs w (by simpa using hw)) #[.bl _,H,I,rfl,?_];rw[show aA.toArray.any (iZ x)=aA.any (iZ x) by simp,yt r fs];apply q
 .let#[aA,r,pl,hz]:=I.tuple hq;refine SeqAt.notIn_tupleAt (iZ x) pl (λw hw=>uY rx fx r fs w (by simpa using hw)) #[.bl _,H,I,rfl,?_];rw[show aA.toArray.any (iZ x)=aA.any (iZ x) by simp,yt r fs];apply q
def abN:gO X (.builtin "len") (λxs H Q=>∃p ys,xs=[.ref p]/\(ck X.K H p ys\/bK X.K H p ys)/\Q (.int ys.length) H):=by
 intro af s U H xs us Q I r h;let#[p,ys,rfl,hq,q]:=h;let#[u,rfl,rx]:=vals1 r;ext rx;have hn:=zO;rcases hq with hq|hq
 .let#[aA,r',pl,hz]:=I.list hq;have hlen:=r'.length;apply Calls.call_len_list pl.isList (by simp only[ab0]<;>omega) #[.int ys.length,H,I.tok _,#[s.toks+1,by rw[ab0,hlen]],q]
 .let#[aA,r',pl,hz]:=I.tuple hq;have hlen:=r'.length;apply len_tuple pl (by simp only[ab0]<;>omega) #[.int ys.length,H,I.tok _,#[s.toks+1,by rw[ab0,hlen]],q]
def ahD:gO X (.type "list") (λxs H Q=>∃p ys,xs=[.ref p]/\(ck X.K H p ys\/bK X.K H p ys)/\∀l,H l=none->Q (.ref l) (upd H l (.lst ys))):=by
 intro af s U H xs us Q I r h;let#[p,ys,rfl,hq,q]:=h;let#[u,rfl,rx]:=vals1 r;ext rx;have fin:∀(aA),aT ys aA->ys.length<=sizeLine->∀(h') (c'),(∀b o',s.heap.get? b=some o'->h'.get? b=some o')->
   h'.get? s.heap.objs.size=some { cls:=.type "list",dict:=none,data:=.seq aA.toArray c',slots:=([].toArray) }->EP X af U Q (.ref s.heap.objs.size) { s with heap:=h' }:=λaA r' hz h' c' kp e=>
  #[.ref s.heap.objs.size,_,I.laid kp (aa9 _) (show dz X.prog X.w _ h' _ (.lst ys) from#[hz,aA,c',r',e]),rfl,q _ (I.aH.fresh (aa9 _))]
 rcases hq with hq|hq
 .let#[aA,r',pl,hz]:=I.list hq;have hlen:=r'.length;let#[o,ho,hc,n,hd]:=pl.isList;apply call_list_seq p (.inl rfl) ho hc hd (λh' c' kp e=>fin aA r' hz h' c' kp e) (by simp only[ab0]<;>omega)
 .let#[aA,r',pl,hz]:=I.tuple hq;have hlen:=r'.length;let#[o,ho,hc,n,hd]:=pl;apply call_list_seq p (.inr rfl) ho hc hd (λh' c' kp e=>fin aA r' hz h' c' kp e) (by simp only[ab0]<;>omega)
def OE:gO X (.type "tuple") (λxs H Q=>∃p ys,xs=[.ref p]/\((ck X.K H p ys/\∀l,H l=none->Q (.ref l) (upd H l (.tup ys)))\/(bK X.K H p ys/\Q (.ref p) H))):=by
 intro af s U H xs us Q I r h;let#[p,ys,rfl,h]:=h;let#[u,rfl,rx]:=vals1 r;ext rx;rcases h with⟨hq,q⟩|⟨hq,q⟩
 .let#[aA,r',pl,hz]:=I.list hq;have hlen:=r'.length;refine call_tuple_list pl.isList (λh' kp=>?_) (by simp only[ab0]<;>omega);have I1:=I.kept (t':=s.toks) kp;have I2:Inv X af U (upd H h'.objs.size (.tup ys)) { s with heap:=h'.push { cls:=.type "tuple",data:=.seq aA.toArray } }:=
   I1.laid (λb o e=>aak _ e) (aa9 _) (show dz X.prog X.w _ _ _ (.tup ys) from#[hz,aA,r',lI.new _ _])
  apply#[.ref h'.objs.size,_,I2,rfl,q _ (I1.aH.fresh (aa9 _))]
 .let#[aA,r',pl,hz]:=I.tuple hq;apply call_tuple_same pl #[.ref p,H,I,rfl,q]
def OR(K:Fr)(T:String)(x:V)(H:Hp):Prop:=match x with
 |.str _=>T="str"
 |.int _=>T="int"
 |.ref p=>(T="list"/\∃xs,ck K H p xs)\/(T="tuple"/\∃o,K.lookup p=some o/\o.cls=.type "tuple"/\o.dict=none)\/
   (T="dict"/\((∃ak,H p=some (.dK ak))\/∃ak,H p=some (.dT ak)))\/(T="set"/\∃S n,H p=some (.set S n))
 |_=>False
def adG(I:Inv X af U H s)(r:RelV x v)(ty:OR X.K T x H):
  s.TypeIs v T/\∀a,v=.ref a->∃ob,s.heap.get? a=some ob/\ob.dict=none:=by
 cases x with
 |str z=>
  let#[t,rfl]:=r;cases(show T="str" from ty);apply#[typeIs_str s z t,λ_ e=>nomatch e]
 |int i=>
  let#[t,rfl]:=r;cases(show T="int" from ty);apply#[typeIs_int s i t,λ_ e=>nomatch e]
 |ref p=>
  ext r;rcases ty with⟨rfl,xs,hq⟩|⟨rfl,o,hk,hc,hd⟩|⟨rfl,hk⟩|⟨rfl,S,n,hk⟩
  .let#[aA,_,pl,_]:=I.list hq;refine#[pl.isList.typeIs,λa e=>?_];ext e;let#[o,n,e,c,hd,_]:=pl;apply#[o,e,hd]
  .refine#[#[o,I.dU p o hk,hc],λa e=>?_];ext e;apply#[o,I.dU _ o hk,hd]
  .have z:∃o,s.heap.get? p=some o/\o.ExactDict:=by
    rcases hk with⟨ak,hk⟩|⟨ak,hk⟩
    .let#[_,_,_,_,o,_,_,e,ex,_]:=I.aH p _ hk;apply#[o,e,ex]
    .let#[_,_,_,_,o,_,_,e,ex,_]:=I.aH p _ hk;apply#[o,e,ex]
   let#[o,e,ex]:=z;refine#[#[o,e,ex.1],λa e2=>?_];ext e2;apply#[o,e,ex.2.1]
  .let#[o,_,_,_,e,ex,_]:=I.aH p _ hk;refine#[#[o,e,ex.1],λa e2=>?_];ext e2;apply#[o,e,ex.2.1]
 |_=>apply False.elim ty
def WK(K:Fr)(T:String)(r:V->List V->Hp->VK->Prop)(to:TE)(t:TA):TE:=λU H Q=>to U H λx H1=>OR K T x H1/\t U H1 λxs H2=>r x xs H2 Q
variable{T id:String}
def zM(pa:PlainAttrs T)(slot:Slot T name id)(HW:typeOf (.builtin id)=pure (.type "method_descriptor"))(hm:HL X id r)(ho:PE X o to)(ha:PA X (e::es) t)
  (mG:attributeBase o name X.env (eval o X.env)=eval o X.env:=by rfl)
  (lK:((backTo fT (starEach (e::es) X.env)).all (λx=>!x.1)&&(backToKw fT (keywordEach [] X.env)).all (λx=>x.1.isSome)
   && decide ((e::es).length+([]:List Keyword).length+(if([]:List Keyword).isEmpty then 0 else 1)<30))=true:=by rfl)
  (mD:(apos.endLine==fT.line)=true:=by rfl) (hs:starEach (e::es) X.env=(false,eval e X.env)::starEach es X.env:=by rfl) (XC:(backTo fT (starEach es X.env)).any (·.1)=false:=by rfl) :
  PE X (.Call (.Attribute o name apos) (e::es) [] fT) (WK X.K T r to t):=by
 intro af s U H Q I h;refine wpAny_Call_method_late mG lK mD rfl (ho.n I h λv s1 x H1 I1 r1 q=>?_);let#[ty,q1]:=q;let#[h1,h2]:=adG I1 r1 ty;refine#[T,id,pa,slot,HW,h1,h2,?_];have hA:=ha fT af s1 U H1 _ I1 q1;rw[hs] at hA ⊢;refine Calls.callWith_builtin (by show(false||(backTo fT (starEach es X.env)).any (·.1))=false;rw[XC]<;>rfl) (Calls.evalArgs_plain ?_);refine cL hA ?_
 rintro us s2 ⟨vs,H2,I2,r2,q2⟩
 apply hm af s2 U H2 x vs v us Q I2 r1 r2 q2
end
def S5(X:Cx)(id:String)(r:V->List V->Hp->VK->Prop):Prop:=
 ∀(af) (s) (U) (H) (x) (xs) (v) (us) (Q),Inv X af U H s->RelV x v->aT xs us->r x xs H Q->
  wpAny (model X.prog X.w) X.A (call (.builtin id) (v::us)) (EP X af U Q) X.xe s
def aT.one(h:aT [x] us):∃u,us=[u]/\RelV x u:=by
 rcases h with _|⟨r,_|_⟩
 apply#[_,rfl,r]
def aT.eraseIdx:∀{xs} {us} (i),aT xs us->aT (xs.eraseIdx i) (us.eraseIdx i)
 |_,_,_,.nil=>.nil
 |_,_,0,.cons _ t=>t
 |_,_,i+1,.cons r t=>.cons r (aT.eraseIdx i t)
def Inv.RX{aA its':List Value}(I:Inv X af U H s)(hH:H l=some (.lst xs))
  (e:s.heap.get? l=some { cls:=.type "list",data:=.seq aA.toArray n }) (hf:f aA.toArray=its'.toArray) (hv:aT ys its') (hz:ys.length<=sizeLine) :
  Inv X af U (upd H l (.lst ys)) { s with heap:=s.heap.update l (Obj.mapSeq f),toks:=t' }:=by
 have q:=PySem.IsL.update e f;rw[hf] at q;refine I.write (by rw[hH];apply trivial) (.inl rfl) (λb' u hb hu=>(aeI s.heap (Obj.mapSeq f) (afW hb)).trans hu) #[_,q] ?_;apply#[hz,its',_,hv,q]
def Inv.U7(I:Inv X af U H s)(hv:aT ys aA)(hz:ys.length<=sizeLine):
  Inv X af U (upd H s.heap.objs.size (.lst ys)) { s with heap:=s.heap.push { cls:=.type "list",data:=.seq aA.toArray },toks:=t' }:=
 I.laid (λ_ _ q=>aak _ q) (aa9 _) #[hz,aA,0,hv,abx _ rfl]
def Inv.fresh(I:Inv X af U H s):H s.heap.objs.size=none:=I.aH.fresh (aa9 _)
def Inv.Ds(I:Inv X af U H s)(hH:H l=some (.lst xs)):xs.length<=sizeLine/\∃(aA:List Value) (n:Nat),aT xs aA/\xs.length=aA.length/\s.heap.get? l=some { cls:=.type "list",data:=.seq aA.toArray n }:=by
 let#[z,aA,n,r,e]:=I.aH l _ hH;apply#[z,aA,n,r,r.length,e]
def agf:V->List V->Hp->VK->Prop:=λx vs H Q=>∃l xs y,x=.ref l/\vs=[y]/\H l=some (.lst xs)/\xs.length<sizeLine/\Q .aI (upd H l (.lst (xs++[y])))
def JH:S5 X "list.append" agf:=by
 intro af s U H x vs v us Q I rx rv h;let#[l,xs,y,rfl,rfl,hH,hz,q]:=h;ext rx;let#[u,rfl,ru]:=rv.one;let#[z,aA,n,r,hl,e]:=I.Ds hH;refine call_meets F.slot_list_append #[_,e,rfl] F.entry_list_append (F.args_list_append_2 _ _) (PySem.list_append l aA.toArray n u (by rw[ab0];omega)) #[e,?_];refine#[.aI,_,I.RX (its':=aA++[u]) hH e (by simp) (r.append (.cons ru .nil)) ?_,rfl,q];rw[abE,aea];omega
def ahW:R2:=λx y H Q=>∃l b xs zs,x=.ref l/\y=.ref b/\H l=some (.lst xs)/\H b=some (.lst zs)/\xs.length+zs.length<=sizeLine/\∀p,H p=none->Q (.ref p) (upd H p (.lst (xs++zs)))
def agu:dH X (binaryOp .Add) ahW:=by
 intro af s U H x y v u Q I rx ry h;let#[l,b,xs,zs,rfl,rfl,hH,hB,hz,q]:=h;ext rx;ext ry;let#[z,aA,n,r,hl,e]:=I.Ds hH;let#[z2,Tz,n2,r2,oE,e2]:=I.Ds hB;refine PySem.P.add_list e e2 ?_ (by rw[ab0,ab0];omega);have ea:aA.toArray++Tz.toArray=(aA++Tz).toArray:=by simp
 rw[ea];apply#[.ref _,_,I.U7 (r.append r2) (by rw[abE];omega),rfl,q _ I.fresh]
section
variable[DecidableEq κ]
def eK(ak:List (κ×V))(k:κ):Option V:=(ak.find? λkv=>decide (kv.1=k)).map (·.2)
def putK(ak:List (κ×V))(k:κ)(v:V):List (κ×V):=
 if(ak.any λkv=>decide (kv.1=k))=true then ak.map (λkv=>if kv.1=k then(kv.1,v) else kv) else ak++[(k,v)]
def xu{k:κ}(e:p.1=k):eK (p::r) k=some p.2:=by simp[eK,adE,e]
def yQ{k:κ}(e:¬p.1=k):eK (p::r) k=eK r k:=by simp[eK,adE,e]
theorem EB(k:κ):∀ak:List (κ×V),(ak.any λkv=>decide (kv.1=k))=(eK ak k).isSome
 |[]=>rfl
 |p::r=>by
  rw[aiY]
  by_cases e:p.1=k
  .simp only[xu e,aa1 e,Bool.true_or,Option.isSome_some]
  .rw[yQ e,abS e,Bool.false_or];apply EB k r
def D6(ak:List (κ×V))(k:κ)(v:V):(putK ak k v).length<=ak.length+1:=by
 unfold putK
 split
 .rw[List.length_map];omega
 .rw[abE,acK,List.length_nil];omega
def g9.vQ(r:g9 o u):o.isSome=u.isSome:=by
 cases o with
 |none=>cases u with
  |none=>rfl
  |some _=>apply(show False from r).elim
 |some _=>cases u with
  |none=>apply(show False from r).elim
  |some _=>rfl
def g9.getD(r:g9 o u)(rd:RelV d d'):RelV (o.getD d) (u.getD d'):=by
 cases o with
 |none=>cases u with
  |none=>apply rd
  |some _=>apply(show False from r).elim
 |some _=>cases u with
  |none=>apply(show False from r).elim
  |some _=>apply r
def KV.val(r:KV ak vs)(k:κ):g9 (eK ak k) (valueAt vs k):=by
 unfold KV at r
 induction r with
 |nil=>apply True.intro
 | @cons p q ps qs h t ih=>
  let#[h1,h2]:=h
  by_cases e:p.1=k
  .have e':=h1.symm.trans e;have b:valueAt (q::qs) k=some q.2:=by simp[valueAt,adE,e']
   rw[xu e,b];apply h2
  .have e':¬q.1=k:=λz=>e (h1.trans z)
   have b:valueAt (q::qs) k=valueAt qs k:=by simp[valueAt,adE,e']
   rw[yQ e,b];apply ih
def KV.any(r:KV ak vs)(k:κ):(ak.any λkv=>decide (kv.1=k))=vs.any λkv=>decide (kv.1=k):=by
 unfold KV at r
 induction r with
 |nil=>rfl
 |cons h t ih=>rw[aiY,aiY,ih,h.1]
def KV.LC(r:KV ak vs)(k:κ)(ry:RelV y u):
  KV (ak.map λkv=>if kv.1=k then(kv.1,y) else kv) (vs.map λkv=>if kv.1=k then(kv.1,u) else kv):=by
 unfold KV at r ⊢
 induction r with
 |nil=>apply .nil
 | @cons p q ps qs h t ih=>
  rw[aas,aas];refine .cons ?_ ih;let#[h1,h2]:=h
  by_cases e:p.1=k
  .rw[if_pos e,if_pos (h1.symm.trans e)];apply#[h1,ry]
  .rw[abm e,abm (λz=>e (h1.trans z))];apply#[h1,h2]
def KV.put(r:KV ak vs)(k:κ)(ry:RelV y u):KV (putK ak k y) (stored vs k u):=by
 unfold putK stored;rw[r.any k]
 by_cases e:(vs.any λkv=>decide (kv.1=k))=true
 .rw[if_pos e,if_pos e];apply r.LC k ry
 .rw[abm e,abm e];apply Paired.snoc r #[rfl,ry]
def KV.keys{vs:List (κ×Value)}(r:KV ak vs):ak.map (·.1)=vs.map (·.1):=by
 unfold KV at r
 induction r with
 |nil=>rfl
 |cons h t ih=>rw[aas,aas,ih,h.1]
def KV.length(r:KV ak vs):ak.length=vs.length:=Paired.length r
end
def se(r:RelV (kV k) u):(fQ P w).is k u=true:=by
 cases k with
 |inl i=>let#[t,e]:=(show ∃t,u=Value.int i t from r);subst e;apply adk P w i t
 |inr x=>let#[t,e]:=(show ∃t,u=Value.str x t from r);subst e;apply agC P w x t
theorem Gq:∀{ks} {us},aT (ks.map kV) us->ItemsAre (fQ P w) ks us
 |[],_,r=>by rw[ajE] at r;ext r;apply .nil
 |k::ks,_,r=>by
  rw[aas] at r;cases r with
  |cons h t=>apply .cons (se h) (Gq t)
abbrev KT(H:Hp):List (List Key×V)->List (List Key×Addr×Value)->Prop:=Paired λp q=>p.1=q.1/\Tk H q.2.1 (p.1.map kV)/\RelV p.2 q.2.2
def KT.val(r:KT H ak xs)(k:List Key):g9 (eK ak k) ((atKey xs k).map (·.2)):=by
 induction r with
 |nil=>apply True.intro
 | @cons p q ps qs h t ih=>
  let#[h1,_,h2]:=h
  by_cases e:p.1=k
  .have e':=h1.symm.trans e;have b:atKey (q::qs) k=some q.2:=by simp[atKey,adE,e']
   rw[xu e,b];apply h2
  .have e':¬q.1=k:=λz=>e (h1.trans z)
   have b:atKey (q::qs) k=atKey qs k:=by simp[atKey,adE,e']
   rw[yQ e,b];apply ih
def KT.LC(r:KT H ak xs)(k:List Key)(ry:RelV y u):
  KT H (ak.map λkv=>if kv.1=k then(kv.1,y) else kv) (xs.map (putAt k u)):=by
 induction r with
 |nil=>apply .nil
 | @cons p q ps qs h t ih=>
  rw[aas,aas];refine .cons ?_ ih;let#[h1,h2,h3]:=h;unfold putAt
  by_cases e:p.1=k
  .rw[if_pos e,if_pos (h1.symm.trans e)];apply#[h1,h2,ry]
  .rw[abm e,abm (λz=>e (h1.trans z))];apply#[h1,h2,h3]
def KT.put(r:KT H ak xs)(k:List Key)(hb:Tk H b (k.map kV))(ry:RelV y u):
  KT H (putK ak k y) (storedH xs k b u):=by
 have e:(ak.any λkv=>decide (kv.1=k))=(atKey xs k).isSome:=by
  rw[EB,(r.val k).vQ,aht]
 unfold putK storedH;rw[e]
 by_cases q:(atKey xs k).isSome=true
 .rw[if_pos q,if_pos q];apply r.LC k ry
 .rw[abm q,abm q];apply Paired.snoc r #[rfl,hb,ry]
def KT.keeps(r:KT H ak xs)(ht:∀b (t:mJ),H b=some t.ho->H' b=some t.ho):KT H' ak xs:=
 Paired.B7 r λ_ _ z=>#[z.1,let#[t,e,g]:=z.2.1;#[t,e,ht _ t g],z.2.2]
def Tq(ok:c8 P w H h)(e:Rd H a u):dz P w H h a u:=e.ok ok
def n8(ok:c8 P w H h)(e:Rd H a (.dK ak)):ak.length<=sizeLine/\(a==sysModules)=false/\∃vs,KV ak vs/\h.DictOf (fQ P w) a vs:=
 show dz P w H h a (.dK ak) from Tq ok e
def Nx(ok:c8 P w H h)(e:H a=some (.dK ak)):ak.length<=sizeLine/\(a==sysModules)=false/\∃vs,KV ak vs/\h.DictOf (fQ P w) a vs:=n8 ok (.inl e)
def vR{ks:List Key}(ok:c8 P w H h)(e:Tk H a (ks.map kV)):(tupleKind (fQ P w)).is h ks a:=by
 have q:dz P w H h a (.tup (ks.map kV)):=by
  let#[t,e1,e2]:=e;cases t with
  |tup xs=>ext e1;apply ok a _ e2
  |vC o xs=>ext e1;apply(ok a _ e2).2
  |iH _ _=>ext e1
  |ja _=>ext e1
 let#[_,aA,r,o,h1,h2,_,n,h3]:=q;apply#[o,aA.toArray,n,h1,h2,h3,by simpa using Gq r]
def pW(ok:c8 P w H h)(e:Rd H a (.dT ak)):ak.length<=sizeLine/\(a==sysModules)=false/\
  ∃xs,KT H ak xs/\h.DictOfH (tupleKind (fQ P w)) a xs:=by
 let#[z,y,xs,r,o,es,ep,h1,h2,h3,h4,h5]:=(show dz P w H h a (.dT ak) from Tq ok e)
 refine#[z,y,xs,r,o,es,ep,h1,h2,h3,h4,λx hx=>?_,h5];have all:∀{l} {m},KT H l m->∀x∈m,(tupleKind (fQ P w)).is h x.1 x.2.1:=by
  intro l m q
  induction q with
  |nil=>intro x hx;apply nomatch hx
  | @cons p q ps qs hq t ih=>
   intro x hx;rcases aat.mp hx with e|hx
   .subst e;apply vR ok (by rw[<- hq.1];apply hq.2.1)
   .exact ih x hx
 apply all r x hx
def Yu(ok:c8 P w H h)(e:H a=some (.dT ak)):ak.length<=sizeLine/\(a==sysModules)=false/\
  ∃xs,KT H ak xs/\h.DictOfH (tupleKind (fQ P w)) a xs:=pW ok (.inl e)
def jj(H:Hp)(a:Addr)(y:V)(r:Option V):Prop:=
 (∃ak k,Rd H a (.dK ak)/\y=kV k/\r=eK ak k)\/∃ak k b,Rd H a (.dT ak)/\y=.ref b/\Tk H b (k.map kV)/\r=eK ak k
def vD(H:Hp)(a:Addr)(y v:V)(H':Hp):Prop:=
 (∃ak k,H a=some (.dK ak)/\y=kV k/\ak.length<sizeLine/\H'=upd H a (.dK (putK ak k v)))\/
 ∃ak k b,H a=some (.dT ak)/\y=.ref b/\Tk H b (k.map kV)/\ak.length<sizeLine/\H'=upd H a (.dT (putK ak k v))
theorem jj.k{k:Key}(e:H a=some (.dK ak)):jj H a (kV k) (eK ak k):=.inl #[ak,k,.inl e,rfl,rfl]
theorem vD.k{k:Key}(e:H a=some (.dK ak))(hl:ak.length<sizeLine):vD H a (kV k) v (upd H a (.dK (putK ak k v))):=.inl #[ak,k,e,rfl,hl,rfl]
def Inv.big(I:Inv X af U H s):sysModules<s.heap.objs.size:=by
 have h:=(I.mod.glob.keeps I.bk).lt;apply Nat.lt_trans (by decide) h
def VY(hu:A.units+1<cLine)(I:Inv X af U H s)(g:jj H a y (some v))(ry:RelV y u)(h:∀w' s',Inv X af U H s'->RelV v w'->Q w' s'):
  wpAny (model X.prog X.w) A (getItem (.ref a) u) Q E s:=by
 rcases g with⟨ak,k,e,ey,l⟩|⟨ak,k,b,e,ey,eb,l⟩
 .subst ey;let#[z,hd,vs,rel,dd]:=n8 I.aH e;let#[w',hw,fu]:=g9.some_of (by rw[l];apply rel.val k);apply wpAny_getItem_of (se ry) dd.mapOf hw (h w' _ (I.tok _) fu)
 .subst ey;cases(show u=Value.ref b from ry);let#[z,hd,xs,rel,dd]:=pW I.aH e;let#[w',hw,fu]:=g9.some_of (by rw[l];apply rel.val k);let#[p,hp,Ge]:=ac3.mp hw;refine wpAny_getItem_heap (ahm hu) (vR I.aH eb) dd hp ?_;rw[Ge];apply h w' _ (I.tok _) fu
def aef(hu:A.units+1<cLine)(I:Inv X af U H s)(g:jj H a y o)(ry:RelV y u)(h:∀s',Inv X af U H s'->Q (.bool o.isSome) s'):
  wpAny (model X.prog X.w) A (compareOp .In u (.ref a)) Q E s:=by
 rcases g with⟨ak,k,e,ey,l⟩|⟨ak,k,b,e,ey,eb,l⟩
 .subst ey;let#[z,hd,vs,rel,dd]:=n8 I.aH e;refine wpAny_in_of (se ry) hd dd.mapOf ?_;rw[<- (rel.val k).vQ,<- l];apply h _ (I.tok _)
 .subst ey;cases(show u=Value.ref b from ry);let#[z,hd,xs,rel,dd]:=pW I.aH e;refine wpAny_in_heap (ahm hu) (vR I.aH eb) hd dd ?_;have q:=(rel.val k).vQ;rw[aht] at q;rw[<- q,<- l];apply h _ (I.tok _)
def aiE(hu:A.units+1<cLine)(I:Inv X af U H s)(g:jj H a y o)(ry:RelV y u)(h:∀s',Inv X af U H s'->Q (.bool (!o.isSome)) s'):
  wpAny (model X.prog X.w) A (compareOp .NotIn u (.ref a)) Q E s:=by
 rcases g with⟨ak,k,e,ey,l⟩|⟨ak,k,b,e,ey,eb,l⟩
 .subst ey;let#[z,hd,vs,rel,dd]:=n8 I.aH e;refine wpAny_notIn_of (se ry) hd dd.mapOf ?_;rw[<- (rel.val k).vQ,<- l];apply h _ (I.tok _)
 .subst ey;cases(show u=Value.ref b from ry);let#[z,hd,xs,rel,dd]:=pW I.aH e;refine wpAny_notIn_heap (ahm hu) (vR I.aH eb) hd dd ?_;have q:=(rel.val k).vQ;rw[aht] at q;rw[<- q,<- l];apply h _ (I.tok _)
def Q8(I:Inv X af U H s)(mu:yR (H a))(hs:Heap.SameBut a s.heap h')(he:∃q,h'.get? a=some q)(new:dz X.prog X.w (upd H a ob) h' a ob):
  Inv X af U (upd H a ob) { s with heap:=h',toks:=t' }:=
 I.write mu (.inl rfl) (λb q hb z=>(hs.2 b hb).trans z) he new
def Et(z:ak.length<=sizeLine)(hd:(a==sysModules)=false)(rel:KV ak vs)(dd:h'.DictOf (fQ P w) a vs):
  dz P w H' h' a (.dK ak):=#[z,hd,vs,rel,dd]
def Yp(hu:A.units+1<cLine)(I:Inv X af U H s)(g:vD H a y v H')(ry:RelV y u)(rv:RelV v r)(h:∀s',Inv X af U H' s'->Q () s'):
  wpAny (model X.prog X.w) A (setItem (.ref a) u r) Q E s:=by
 rcases g with⟨ak,k,e,ey,l,eH⟩|⟨ak,k,b,e,ey,eb,l,eH⟩
 .subst ey eH;let#[z,hd,vs,rel,dd]:=Nx I.aH e;have hz:vs.length<=sizeLine:=by rw[<- rel.length];apply z
  have hl:(putK ak k v).length<=sizeLine:=by have:=D6 ak k v;omega
  refine wpAny_setItem_pairs (hsz:=hz) (se ry) dd λh' qe hs=>h _ ?_
  have he:∃q,h'.get? a=some q:=let#[q,_,_,hq,_]:=qe;#[q,hq]
  apply Q8 I (by rw[e];apply True.intro) hs he (Et hl hd (rel.put k rv) qe)
 .subst ey eH;cases(show u=Value.ref b from ry);let#[z,hd,xs,rel,dd]:=Yu I.aH e;have hz:xs.length<=sizeLine:=by rw[<- Paired.length rel];apply z
  have hl:(putK ak k v).length<=sizeLine:=by have:=D6 ak k v;omega
  refine wpAny_setItem_heap (hsz:=hz) (ahm hu) (vR I.aH eb) dd λh' qe hs=>h _ ?_
  let#[q,es,ep,hq,h2,h3,h4,_,h5]:=qe;refine Q8 I (by rw[e];apply True.intro) hs #[q,hq] #[hl,hd,_,(rel.put k eb rv).keeps λc ys ec=>?_,q,es,ep,hq,h2,h3,h4,h5];rw[aM (ahh ec e (by ext ys<;>intro z<;>ext z))];apply ec
def aag(I:Inv X af U H s)(e:Rd H a (.dK ak))(h:∀t s',Inv X af U H s'->Q (.int ak.length t) s'):wpAny (model X.prog X.w) A (call (.builtin "len") [.ref a]) Q E s:=by
 let#[z,hd,vs,rel,dd]:=n8 I.aH e;refine call_len_dict hd dd (by rw[<- rel.length];rw[afm] at z;omega) ?_;rw[<- rel.length];apply h _ _ (I.tok _)
def yH(i:Expr):Prop:=∀ov iv,subscripted i false ov iv=operate [ov,iv] (getItem ov iv)
def Qv{T id:String}
  (hl:typeLookup (.type T) "__getitem__"=pure (some (.builtin id))) (hs:yH slice)
  (h:wpAny (model prog w) A (eval value env) (λo cg=>wpAny (model prog w) A (eval slice env) (λi qz=>qz.TypeIs o T/\wpAny (model prog w) A (getItem o i) Q E qz) E cg) E s) :
  wpAny (model prog w) A (eval (.Subscript value slice pos) env) Q E s:=by
 refine Subscript_ (ad1 h (λo cg BB=>ad1 BB (λi qz IV=>?_) λ_ _ x=>x) λ_ _ x=>x);let#[hT,IV]:=IV;unfold subscriptTail;refine aal ?_;rw[getitemInPython_of_ne hT.not_modules];refine aal (wpAny_specialOf hT hl ?_);have fin:wpAny (model prog w) A (subscripted slice false o i) (λr AO=>wpAny (model prog w) A (letTemporaryGo value o r >>= λ_=>pure r) Q E AO) E qz:=by
  rw[hs o i];apply wpAny_operating (ad1 IV (λr AO adz=>aal (wpAny_letTemporaryGo (abc adz))) λ_ _ x=>x)
 first
  |exact abc (aal fin)
  |exact aal (abc (aal fin))
  |exact aal fin
def UI(I:Inv X af U H s)(g:jj H a y o):s.TypeIs (.ref a) "dict":=by
 rcases g with⟨ak,k,e,_,_⟩|⟨ak,k,b,e,_,_,_⟩
 .let#[_,_,vs,_,dd]:=n8 I.aH e;apply dd.typeIs
 .let#[_,_,xs,_,dd]:=pW I.aH e;apply dd.typeIs
def Tg(td ty:TE):TE:=λU H Q=>td U H λx H1=>ty U H1 λy H2=>∃a v,x=.ref a/\jj H2 a y (some v)/\Q v H2
def afB(ty td:TE):TE:=λU H Q=>ty U H λy H1=>td U H1 λx H2=>∃a o,x=.ref a/\jj H2 a y o/\Q (.bl o.isSome) H2
def ahi(ty td:TE):TE:=λU H Q=>ty U H λy H1=>td U H1 λx H2=>∃a o,x=.ref a/\jj H2 a y o/\Q (.bl (!o.isSome)) H2
def aeF(td ty tv:TE):TS:=λD U H=>tv U H λv H1=>td U H1 λx H2=>ty U H2 λy H3=>∃a H4,x=.ref a/\vD H3 a y v H4/\D.nx U H4
def MX(hu:X.A.units+1<cLine)(ho:PE X o td)(hi:PE X i ty)(hs:yH i):PE X (.Subscript o i pos) (Tg td ty):=by
 intro af s U H Q I h;refine Qv PySem.F.slot_dict_getitem.lookup hs (ho.n I h λu s1 x H1 I1 rx q1=>hi.n I1 q1 λiv s2 y H2 I2 ry q=>?_);let#[a,v,ex,g,q2]:=q;subst ex;obtain rfl:u=Value.ref a:=rx;apply#[UI I2 g,VY hu I2 g ry λw' s3 I3 fu=>#[v,H2,I3,fu,q2]]
def NI(hu:X.A.units+1<cLine)(hi:PE X i ty)(ho:PE X o td):PC X .In i o (afB ty td):=by
 intro af s U H Q I h;refine hi.n I h λiv s1 y H1 I1 ry q1=>ho.n I1 q1 λu s2 x H2 I2 rx q=>?_
 let#[a,ov,ex,g,q2]:=q;subst ex;obtain rfl:u=Value.ref a:=rx;apply aef hu I2 g ry λs3 I3=>#[.bl ov.isSome,H2,I3,rfl,q2]
def Wj(hu:X.A.units+1<cLine)(hi:PE X i ty)(ho:PE X o td):PC X .NotIn i o (ahi ty td):=by
 intro af s U H Q I h;refine hi.n I h λiv s1 y H1 I1 ry q1=>ho.n I1 q1 λu s2 x H2 I2 rx q=>?_
 let#[a,ov,ex,g,q2]:=q;subst ex;obtain rfl:u=Value.ref a:=rx;apply aiE hu I2 g ry λs3 I3=>#[.bl (!ov.isSome),H2,I3,rfl,q2]
def Ep(hu:X.A.units+1<cLine)(ho:PE X o td)(hi:PE X i ty)(hv:PE X value tv)(hs:swapsWith value (some (.Subscript o i pos')) pos.line X.env=pure false):
  PS X (.Assign [.Subscript o i pos'] value pos) (aeF td ty tv):=by
 intro af s U H D I h;refine wpAny_Assign_Subscript (hv.n I h λr s1 v H1 I1 rv q1=>ho.n I1 q1 λu s2 x H2 I2 rx q2=>hi.n I2 q2 λiv s3 y H3 I3 ry q=>?_) hs;let#[a,H4,ex,g,q3]:=q;subst ex;obtain rfl:u=Value.ref a:=rx;apply Yp hu I3 g ry rv λs4 I4=>#[U,H4,I4,q3]
def agG(h:Heap)(hb:sysModules<h.objs.size):dz P w H (h.push { cls:=.type "dict",data:=.dict ([].toArray) }) h.objs.size (.dK []):=
 #[adN _,aei.mpr (afW (acy hb)),[],.nil,Heap.DictOf.new h]
def abd(h:Heap)(hb:sysModules<h.objs.size):dz P w H (h.push { cls:=.type "dict",data:=.dict ([].toArray) }) h.objs.size (.dT []):=
 #[adN _,aei.mpr (afW (acy hb)),[],.nil,_,([].toArray),0,abx _ rfl,#[rfl,rfl,rfl],rfl,rfl,acv]
def adm:TE:=λ_ H Q=>∀p,H p=none->Q (.ref p) (upd H p (.dK []))
def XZ:TE:=λ_ H Q=>∀p,H p=none->Q (.ref p) (upd H p (.dT []))
def aiG:PE X (.Dict [] [] pos) adm:=λaf s U H Q I h=>
 wpAny_Dict_empty #[.ref s.heap.objs.size,_,I.laid (λ_ _ q=>aak _ q) (aa9 _) (agG s.heap I.big),rfl,h _ (I.aH.fresh (aa9 _))]
def adI:PE X (.Dict [] [] pos) XZ:=λaf s U H Q I h=>
 wpAny_Dict_empty #[.ref s.heap.objs.size,_,I.laid (a:=s.heap.objs.size) (o:=.dT []) (t':=s.toks) (λ_ _ q=>aak _ q) (aa9 _) (abd s.heap I.big),rfl,h _ (I.aH.fresh (aa9 _))]
structure M2(X:Cx)(o:Expr)(m:Str)(apos:Pos)(e f:Expr)(fT:Pos):Prop where
 base:attributeBase o m X.env (eval o X.env)=eval o X.env
 few:((backTo fT (starEach [e,f] X.env)).all (λx=>!x.1)&&(backToKw fT (keywordEach [] X.env)).all (λx=>x.1.isSome)
  && decide (([e,f]:List Expr).length+([]:List Keyword).length+(if([]:List Keyword).isEmpty then 0 else 1)<30))=true
 line:(apos.endLine==fT.line)=true
 trees:backTo fT (starEach [e,f] X.env)=[(false,eval e X.env),(false,eval f X.env)]
def Qy(H:Hp)(a:Addr):Prop:=(∃ak,Rd H a (.dK ak))\/∃ak,Rd H a (.dT ak)
def abM(I:Inv X af U H s)(d:Qy H a):
  s.TypeIs (.ref a) "dict"/\(∀b,Value.ref a=.ref b->∃ob,s.heap.get? b=some ob/\ob.dict=none)/\(a==sysModules)=false:=by
 rcases d with⟨ak,e⟩|⟨ak,e⟩
 .let#[_,hd,vs,_,dd]:=n8 I.aH e;refine#[dd.typeIs,λb q=>?_,hd];ext q;let#[ob,_,_,h1,h2,_]:=dd;apply#[ob,h1,h2.2.1]
 .let#[_,hd,xs,_,dd]:=pW I.aH e;refine#[dd.typeIs,λb q=>?_,hd];ext q;let#[ob,_,_,h1,h2,_]:=dd;apply#[ob,h1,h2.2.1]
def Wg(hu:A.units+1<cLine)(I:Inv X af U H s)(g:jj H a y o)(ry:RelV y u)(rd:RelV d r)(h:∀w' s',Inv X af U H s'->RelV (o.getD d) w'->Q w' s'):
  wpAny (model X.prog X.w) A (call (.builtin "dict.get") [.ref a,u,r]) Q E s:=by
 rcases g with⟨ak,k,e,ey,l⟩|⟨ak,k,b,e,ey,eb,l⟩
 .subst ey;let#[z,hd,vs,rel,dd]:=n8 I.aH e;refine call_meetsIn PySem.F.slot_dict_get dd.typeIs PySem.F.entry_dict_get (PySem.F.args_dict_get_3 _ _ _) (meets_dict_get_default (fQ X.prog X.w) a (se ry) hd r) #[_,dd.mapOf,h _ _ (I.tok _) ?_];rw[l];apply(rel.val k).getD rd
 .subst ey;cases(show u=Value.ref b from ry);let#[z,hd,xs,rel,dd]:=pW I.aH e;refine call_meetsIn PySem.F.slot_dict_get dd.typeIs PySem.F.entry_dict_get (PySem.F.args_dict_get_3 _ _ _) (meetsH_dict_get_default (tupleKind (fQ X.prog X.w)) a b hd r) #[ahm hu,k,xs,vR I.aH eb,dd,h _ _ (I.tok _) ?_];rw[l];apply(rel.val k).getD rd
def ahL(td ty tx:TE):TE:=λU H Q=>td U H λx H1=>∃a,x=.ref a/\Qy H1 a/\ty U H1 λy H2=>tx U H2 λz H3=>∃o,jj H3 a y o/\Q (o.getD z) H3
def Gz(hu:X.A.units+1<cLine)(ho:PE X o td)(he:PE X e ty)(hf:PE X f tx)(m:M2 X o "get" apos e f fT):PE X (.Call (.Attribute o "get" apos) [e,f] [] fT) (ahL td ty tx):=by
 intro af s U H Q I h;refine wpAny_Call_method m.base m.few m.line PySem.F.plainAttrs_dict PySem.F.slot_dict_get PySem.F.type_dict_get (ho.n I h λu s1 x H1 I1 rx q=>?_);let#[a,ex,d,q1]:=q;subst ex;obtain rfl:u=Value.ref a:=rx;let#[t1,t2,_]:=abM I1 d;refine#[t1,t2,?_];rw[m.trees];refine Calls.callWith_builtin rfl (Calls.evalArgs_plain (Calls.spliced_cons (cL (he af s1 U H1 _ I1 q1) λiv s2 #[y,H2,I2,ry,q2]=>
  Calls.spliced_cons (cL (hf af s2 U H2 _ I2 q2) λfv s3 #[z,H3,I3,rz,ov,g,q3]=>Calls.spliced_nil ?_))))
 apply Wg hu I3 g ry rz λw' s4 I4 fu=>#[_,H3,I4,fu,q3]
def abj(I:Inv X af U H s)(e:Rd H a (.dK ak))(h:∀p s',H p=none->Inv X af U (upd H p (.dK ak)) s'->Q (.ref p) s'):wpAny (model X.prog X.w) A (call (.type "dict") [.ref a]) Q E s:=by
 let#[z,hd,vs,rel,dd]:=n8 I.aH e;refine kt_call_dict hd dd (by rw[<- rel.length];apply z) λh' qe hs=>?_
 refine h _ _ (I.aH.fresh (aa9 _)) (I.laid (λb q hq=>?_) (aa9 _) (Et z (aei.mpr (afW (acy I.big))) rel qe));apply(hs.2 b (acy (aa5 hq))).trans (aak _ hq)
end L2
namespace Ql
open PySem PySem.W PySem.Calls PyProof.Rows
def U3:∀(ns) (vs),WellAll P h vs (ns.map WData.int)->IntsAre vs ns:=by
 intro ns
 induction ns with
 |nil=>
  intro vs w;rw[ajE] at w;ext w;apply .nil
 |cons n ns ih=>
  intro vs w;rw[aas] at w;cases w with
  |cons a b=>
   ext a;apply .cons _ _ (ih _ b)
def Ze{l:OpenLaw}(hn:l.most=some n)
  (AX:l.row.toRowW.claim.pre args=true) (Ax:WellAll P h vals args) :
  ∃a vs ns,vals=[Value.ref a]/\args=[WData.list (ns.map WData.int)]/\h.get? a=some { cls:=.type "list",data:=.seq vs.toArray }/\IntsAre vs ns/\ns.length<=n:=by
 have Zm:=(pre_splitW AX).1;have hc:l.pre.holds [] { args:=args }=true:=(pre_splitW AX).2;let#[d,r,rfl,h1,h2]:=hasAllW_cons Zm;obtain rfl:=hasAllW_nil h2;let#[xs,rfl,h3]:=hasW_list h1;let#[ns,rfl]:=items_int h3;have hlen:ns.length<=n:=by
  unfold OpenLaw.pre at hc;have h4:(WTm.not (.lt (.lit (.int (n:Int))) (.len (.arg 0)))).holds [] { args:=[.list (ns.map .int)] }=true:=by
   have h4:=(holds_andW hc).1;rw[hn] at h4;apply h4
  have h5:=condW_of h4 (w_not (w_lt w_lit (w_len_list (w_arg rfl))));rw[List.length_map] at h5;refine Nat.le_of_not_lt λq=>?_
  have q':(n:Int)<((ns.length:Nat):Int):=by omega
  first
   |(rw[aa1 q'] at h5;apply absurd h5 (by decide))
   |(simp at h5;omega)
 cases Ax with
 |cons w1 w2=>
  ext w2;cases w1 with
  |list ho yq=>apply#[_,_,ns,rfl,rfl,ho,U3 ns _ yq,hlen]
def aaX(l:OpenLaw)(args:List WData):l.row.toRowW.claim.post args (.bool true) args=true:=
 postW_of (r:=l.row.toRowW) (X:=(true==true))
  (show WShape.has [] (.bool true) .bool=true by first|rfl|decide|simp[WShape.has,WShape.arms,WShape.armsAll])
  (show(WTm.eq .res (.lit (.bool true))).value [] { args:=args,res:=some (.bool true),after:=args }=some (.bool (true==true)) from w_eq_bool (w_res rfl) w_lit) rfl
def aaT{l:OpenLaw}
  (hn:l.most=some n) (yl:d.params.defaults=[])
  (call:∀(w) (cZ cg) (mg mb) (fa) (o) (pm cd doc) (a) (vs) (ns),
   Ground q loose [] XP w cZ mg mb cg.heap->YP w cg.heap->
   cg.heap.get? fa=some o->o.data=.func (docDef d.name d.params d.body d.scope pm cd doc)->cg.heap.CodeRec cd d.name->mg d.name=some (.ref fa)->
   cg.heap.get? a=some { cls:=.type "list",data:=.seq vs.toArray }->IntsAre vs ns->ns.length<=n->cg.gens=([].toArray)->
   codeAny (model l.prog w) callerA (.call (.ref fa) #[[.ref a],[]]) (λr s'=>r=.ok (.ret (.bool true))/\OldK cg.heap s'.heap/\s'.os=cg.os/\AllBare s'.gens) cg) :
  WalkO q loose XP YP l.row.toRowW d [] (λf vs=>PySem.call f vs):=by
 intro w cZ cg mg mb G YY fa o pm cd doc dV kV ho hd gI hD zL hg args vals as AX ajg vO Ax yo;obtain rfl:dV=.none:=Dflts.none hD yl;obtain rfl:kV=.none:=Dflts.noKw hD;let#[a,vs,ns,rfl,rfl,EG,hints,hlen]:=Ze hn AX Ax;refine enter_call (ai8 (call w cZ cg mg mb fa o pm cd doc a vs ns G YY ho (fd_plain hd) gI zL EG hints hlen hg) λr s' hq=>?_);let#[rfl,h2,h3,h4]:=hq;apply#[.inl #[.bool true,.bool true,[],rfl,λ_=>rfl,.bool true,aaX l _,λ_=>#[List.Pairwise.nil,λ_ hm=>(nomatch hm)]],h2,h3,h4]
end Ql
namespace L2
open PySem PySem.Spec PyProof.Rows
theorem La:∀{vs} {ns},IntsAre vs ns->aT (ns.map V.int) vs
 |_,_,.nil=>.nil
 |_,_,.cons n t h=>.cons #[t,rfl] (La h)
abbrev dQ:qX:=λ_ _ _ _ _ _=>False
abbrev E0:XK:=λ_ _ _=>False
def m_:Passes dQ X E0:=λ_ _ _ _ _ _ _ h=>h.elim
structure jD(K:Fr)(x qual:Str)(st:Stmt)(f:Addr)(fd:FuncData):Prop where
 ex:∃(oc:Value) (od:Option Addr) (kV doc pm:Value) (an:Option Addr) (aU ct:Value) (qm:Array (Option Value)),
  fd=PySem.W.fnOf x qual (lZ st) (gS st) (c9 st) .none kV doc pm an aU ct/\K.lookup f=some #[oc,od,.func fd,qm]/\PySem.W.codeIn K aU qual=true
 kp:PySem.W.keepIn K (.ref f)=true
section
variable{K:Fr}
def jD.ok{st:Stmt}(F:jD K x qual st f fd)(S:rG N ps (c9 st))(len:∀vs H Q E,sp vs H Q E->vs.length=ps.length)
  (x6:∀(aU:{c:Value // c=fd.code}) (A) (outer) (s) (H) (vs) (Q) (E),bz k (A.deeper (envOfC qual (c9 st) s.heap.objs.size f aU)) cm->sp vs H Q E->
   ∃t,g_ (gb dQ P w K mg base N qual (c9 st) f aU A outer s H E cm).f_ (gS st) t/\t { nx:=λ_ H'=>Q .aI H',rt:=Q } (start N vs) H):bQ P w K mg base dQ (k+1) f fd ps sp cm:=by
 let#[oc,od,kV,doc,pm,an,aU,ct,qm,rfl,lk,gI]:=F.ex;refine Ob lk gI S len λA outer s H vs Q E hr rj=>?_
 let#[t,h,q]:=x6 #[aU,rfl] A outer s H vs Q E hr rj;apply#[t,h.f_,q]
def jD.binds{st:Stmt}(F:jD K x qual st f fd)
  (h:∀(kV doc pm) (an) (aU ct) (us),us.length=ps.length->bindArgs (PySem.W.fnOf x qual (lZ st) (gS st) (c9 st) .none kV doc pm an aU ct) #[us,[]]=pure (ps.zip us)):Binds K fd ps []:=by
 let#[oc,od,kV,doc,pm,an,aU,ct,qm,rfl,lk,gI]:=F.ex;apply .all (h kV doc pm an aU ct)
def Mx{st:Stmt}{kV doc pm aU ct:Value}(l:K.lookup f=some #[oc,od,.func (PySem.W.fnOf x qual (lZ st) (gS st) (c9 st) .none kV doc pm an aU ct),qm])
  (c:PySem.W.codeIn K aU qual=true) (k:PySem.W.keepIn K (.ref f)=true):jD K x qual st f (PySem.W.fnOf x qual (lZ st) (gS st) (c9 st) .none kV doc pm an aU ct):=#[#[oc,od,kV,doc,pm,an,aU,ct,qm,rfl,l,c],k]
end
def fW(hr:bz k A cm):A.units+1<cLine:=ahn (Nat.add_le_add_left (by decide:1<=64) _) hr.units
def Co(h:n<=1000):n<sizeLine:=ahn h (by decide)
def pv(i:Nat)(hN:X.N[i]? = some x:=by rfl)(hv:CN X.env.scope x:=by first|exact Or.inl rfl|exact Or.inr (Or.inl rfl)|exact Or.inr (Or.inr rfl))(hd:(x==("__debug__":Str))=false:=by decide)
  (gI:(x==("__classdict__":Str))=false:=by decide):PE X (.Name x pos) (oG i):=Lu hN hv hd gI
def acs{A B:Prop}(h:B):if false=true then A else B:=by
 rw[abm aa3];apply h
def Wa{A B:Prop}(h:A):if true=true then A else B:=by
 rw[if_pos rfl];apply h
def aJ(H H':Hp):Prop:=∀b o,H b=some o->H' b=some o
def aJ.refl(H:Hp):aJ H H:=λ_ _ h=>h
def aJ.trans(a:aJ H H1)(b:aJ H1 H2):aJ H H2:=λc o h=>b c o (a c o h)
def aJ.free(e:aJ H H')(h:H' l=Option.none):H l=Option.none:=by
 cases q:H l with
 |none=>rfl
 |some o=>
  rw[e l o q] at h;ext h
def ahP:gO X (.builtin "len") (λxs H Q=>∃a ak,xs=[V.ref a]/\H a=some (.dK ak)/\Q (.int ak.length) H):=by
 intro af s U H xs us Q I r h;let#[a,ak,rfl,ha,q]:=h;let#[u,rfl,ru]:=vals1 r;ext ru;apply aag I (.inl ha) λt s' I'=>#[.int ak.length,H,I',#[t,rfl],q]
def PR(a:Addr)(cls:Value)(de:Option Addr):HO:=.ext λh=>∃oe,h.get? a=some oe/\oe.cls=cls/\(∀dx,de=some dx->oe.dict=some dx/\PySem.W.notCls oe=true)
def M6(e:h.get? a=some oe)(c:oe.cls=cls)(d:∀dx,de=some dx->oe.dict=some dx/\PySem.W.notCls oe=true):dz P w H h a (PR a cls de):=
 #[#[oe,e,c,d],#[oe,e],λ_ _ #[o,q,z] k=>#[o,k o q,z]]
def yh(ob:Obj)(a:Addr)(cls:Value)(de:Option Addr):HO:=.cG ob (PR a cls de)
def ahK(x:c8 P w H h)(e:H a=some (yh ob a cls de)):∃oe,h.get? a=some oe/\oe.cls=cls:=let#[oe,a,b,_]:=(x a _ e).2.1;#[oe,a,b]
def Hi(n:Nat)(t:Tok):Str->Option Value:=λy=>if y="slot" then some (.int n t) else none
def Gn(dx:Addr)(n:Nat):HO:=.ext λh=>∃t,h.Ns1 dx (Hi n t)
def U9(e:h.Ns1 dx (Hi n t)):dz P w H h dx (Gn dx n):=
 #[#[t,e],let#[o,_,_,q,_]:=e;#[o,q],λ_ _ #[t,e] k=>#[t,e.at k]]
def nC(o:Obj):Option Value:=match o.data with
 |.fields vs=>vs[2]?
 |_=>none
def DK{α:Type}:Sem α->Prop
 |.pure _=>True
 |.raise _=>True
 |.unsupported _=>True
 |.finish _=>True
 |.rule _ k=>DK (k ())
 |.at _ k=>DK (k ())
 |.load _ _ k=>∀o,DK (k o)
 |.update _ _ f k=>(∀o,(f o).dict=o.dict/\nC (f o)=nC o)/\DK (k ())
 |.alloc _ k=>∀a,DK (k a)
 |.stack k=>∀l,DK (k l)
 |_=>False
def Kd(h h':Heap):Prop:=∀(a:Nat) (o),h.objs[a]? = some o->∃o',h'.objs[a]? = some o'/\o'.dict=o.dict/\nC o'=nC o
def Kd.refl(h:Heap):Kd h h:=λa o e=>#[o,e,rfl,rfl]
def Kd.trans(x:Kd h h1)(y:Kd h1 h2):Kd h h2:=λa o e=>by
 let#[o1,e1,d1,f1]:=x a o e;let#[o2,e2,d2,f2]:=y a o1 e1;apply#[o2,e2,d2.trans d1,f2.trans f1]
def Kd.push(h:Heap)(o:Obj):Kd h (h.push o):=λa u e=>by
 let#[objs,l]:=h;refine#[u,?_,rfl,rfl];show(objs.push o)[a]? = some u;have lt:=(Array.getElem?_eq_some_iff.mp e).1;rw[Array.getElem?_push_lt lt];rw[Array.getElem?_eq_getElem lt] at e;apply e
def Kd.update(h:Heap)(b:Addr)(hf:∀o,(f o).dict=o.dict/\nC (f o)=nC o):Kd h (h.update b f):=λa u e=>by
 let#[objs,l]:=h;show ∃o',(objs.modify b f)[a]? = some o'/\_;have e:=e;rw[Array.getElem?_modify,e]
 split
 .exact#[f u,rfl,hf u]
 .exact#[u,rfl,rfl,rfl]
theorem Kd.at(k:Kd h h')(e:h.get? a=some o)(e':h'.get? a=some o'):o'.dict=o.dict/\nC o'=nC o:=by
 have raw:∀{h:Heap} {o},h.get? a=some o->h.objs[a]? = some o:=λ{h o} e=>by
  unfold Heap.get? at e
  split at e
  .cases e
  .exact e
 let#[u,q,d]:=k a o (raw e);rw[raw e'] at q;ext q;apply d
def aes:∀(t) {Q:α->Pos->Shared->Prop} {E} {p} {s},DK t->Kd h0 s.heap->Sem.wp M Γ t Q E p s->Sem.wp M Γ t (λa p' s'=>Q a p' s'/\Kd h0 s'.heap) (λe p' s'=>E e p' s'/\Kd h0 s'.heap) p s:=by
 intro t
 induction t with
 |pure a=>intro Q E p s d k h;apply#[h,k]
 |raise e=>intro Q E p s d k h;apply#[h,k]
 |unsupported w=>intro Q E p s d k h;apply h
 |finish e=>intro Q E p s d k h;apply h
 |rule tag f ih=>intro Q E p s d k h;apply ih () d k h
 | «at» pos f ih=>intro Q E p s d k h;apply ih () d k h
 |load a part f ih=>intro Q E p s d k h;let#[o,e,h]:=h;apply#[o,e,ih o (d o) k h]
 |update a part f g ih=>intro Q E p s d k h;apply#[h.1,ih () d.2 (k.trans (Kd.update _ _ d.1)) h.2]
 |alloc o f ih=>intro Q E p s d k h;apply ih _ (d _) (k.trans (Kd.push _ _)) h
 |stack f ih=>intro Q E p s d k h;apply ih _ (d _) k h
 |loadIfAlive=>intro Q E p s d;apply d.elim
 |point=>intro Q E p s d;apply d.elim
 |register=>intro Q E p s d;apply d.elim
 |fresh=>intro Q E p s d;apply d.elim
 |ask=>intro Q E p s d;apply d.elim
 |choose=>intro Q E p s d;apply d.elim
 |os=>intro Q E p s d;apply d.elim
 |call=>intro Q E p s d;apply d.elim
 |handled=>intro Q E p s d;apply d.elim
 |newGen=>intro Q E p s d;apply d.elim
 |genState=>intro Q E p s d;apply d.elim
 |resume=>intro Q E p s d;apply d.elim
 |yield=>intro Q E p s d;apply d.elim
 |fork=>intro Q E p s d;apply d.elim
 |thread=>intro Q E p s d;apply d.elim
 |await=>intro Q E p s d;apply d.elim
def vG(d:DK t)(h:wpAny M A t Q E s):wpAny M A t (λa s'=>Q a s'/\Kd s.heap s'.heap) (λe s'=>E e s'/\Kd s.heap s'.heap) s:=
 λΓ p hΓ=>aes t d (Kd.refl _) (h Γ p hΓ)
def DK.bind:∀{m},DK m->(∀a,DK (f a))->DK (m >>= f):=by
 intro m
 induction m with
 |pure a=>intro d h;apply h a
 |raise e=>intro d h;apply d
 |unsupported w=>intro d h;apply d
 |finish e=>intro d h;apply d
 |rule tag g ih=>intro d h;apply ih () d h
 | «at» pos g ih=>intro d h;apply ih () d h
 |load a part g ih=>intro d h o;apply ih o (d o) h
 |update a part f g ih=>intro d h;apply#[d.1,ih () d.2 h]
 |alloc o g ih=>intro d h a;apply ih a (d a) h
 |stack g ih=>intro d h l;apply ih l (d l) h
 |loadIfAlive=>intro d;apply d.elim
 |point=>intro d;apply d.elim
 |register=>intro d;apply d.elim
 |fresh=>intro d;apply d.elim
 |ask=>intro d;apply d.elim
 |choose=>intro d;apply d.elim
 |os=>intro d;apply d.elim
 |call=>intro d;apply d.elim
 |handled=>intro d;apply d.elim
 |newGen=>intro d;apply d.elim
 |genState=>intro d;apply d.elim
 |resume=>intro d;apply d.elim
 |yield=>intro d;apply d.elim
 |fork=>intro d;apply d.elim
 |thread=>intro d;apply d.elim
 |await=>intro d;apply d.elim
def KA(a:Addr):DK (load a):=λ_=>trivial
def ZE(v:Value):DK (fieldsOf v):=by
 unfold fieldsOf
 split
 .refine(KA _).bind λo=>?_
  split<;>trivial
 .trivial
def CK(v:Value)(i:Nat):DK (field v i):=by
 unfold field;refine(ZE v).bind λo=>?_
 split<;>trivial
def Ga(v:Value)(i:Nat)(x:Value)(hi:i≠2):DK (setField v i x):=by
 unfold setField
 split
 .unfold updateField;refine(KA _).bind λo=>?_
  split
  .split
   .refine#[λo=>?_,trivial];let#[c,d,dt,sl]:=o;cases dt with
    |fields vs=>apply#[rfl,by show(vs.setIfInBounds i x)[2]? = vs[2]?;rw[Array.getElem?_setIfInBounds_ne hi]]
    |_=>apply#[rfl,rfl]
   .trivial
  .trivial
 .trivial
def Ja(e:Value)(f:Option Addr):DK (setFlight e f):=by
 unfold setFlight;refine(CK e 1).bind λtb=>?_
 split
 .exact Ga _ _ _ (by decide)
 .trivial
def Z5(env:Env)(outer:List Env):DK (behindIsImport env outer):=by
 unfold behindIsImport
 split
 .trivial
 .split
  .trivial
  .exact(CK _ _).bind λ_=>trivial
def Zx:DK underTheClaimsCaller:=λ_=>trivial
def Xg(env:Env)(i:Bool)(l:List Env):DK (keptBack env i l):=by
 unfold keptBack
 split
 .split
  .trivial
  .exact Zx.bind λ_=>trivial
 .trivial
theorem Oq:∀l:List Env,DK (readyFrames l)
 |[]=>trivial
 |env::outer=>by
  unfold readyFrames
  split
  .refine(KA _).bind λo=>?_
   split
   .trivial
   .refine(Z5 _ _).bind λ_=>(Xg _ _ _).bind λ_=>?_
    apply#[λ_=>#[rfl,rfl],Oq outer]
  .trivial
def aeJ(env:Env):DK (PySem.frameOf env):=by
 unfold PySem.frameOf;refine DK.bind (λ_=>trivial) λl=>?_
 refine DK.bind ?_ λr=>?_
 .unfold frameObject
  split
  .trivial
  .exact(Oq _).bind λ_=>trivial
 .split<;>trivial
def abh(f:Addr)(b:Bool):DK (entryPlaceOf f b):=by
 unfold entryPlaceOf;refine DK.bind (λ_=>trivial) λl=>?_
 split<;>trivial
def afd(a b c d e:Value)(pl:List Value):DK (EntryCells.newEntry a b c d e pl):=by
 unfold EntryCells.newEntry newFields newObj;dsimp only
 split<;>split<;>first|trivial|exact λ_=>trivial
def Sy(e:Value)(env:Env):DK (noteFrame e env):=by
 unfold noteFrame
 split
 .refine(CK e 1).bind λhead=>?_
  have rest:∀f:Addr,DK (do setField e 1 (<- EntryCells.newEntry head (<- PySem.frameOf env) .none (rawInt f) .none (<- entryPlaceOf f (head != .none)))):=λf=>(aeJ env).bind λ_=>(abh _ _).bind λ_=>(afd _ _ _ _ _ _).bind λ_=>Ga _ _ _ (by decide)
  split
  .refine(CK head 3).bind λx=>?_
   split
   .trivial
   .exact(Ga _ _ _ (by decide)).bind λ_=>rest _
  .exact rest _
 .trivial
def Hl(env:Env)(e:Value):DK (leaving env e):=(Sy e env).bind λ_=>Ja e none
def c8.tracked(x:c8 P w H h)(k:∀b u o,H b=some o->h.get? b=some u->h'.get? b=some u):c8 P w H h':=λa o e=>
 (x a o e).fS (λb u hb q=>hb.elim (λz=>k b u o (by rw[z];apply e) q) λz=>k b u _ z q) (λ_ z=>z) λ_ _ z=>z
def c8.alive(x:c8 P w H h)(e:H a=some o):∃u,h.get? a=some u:=by
 have q:=x a o e;cases o with
 |lst xs=>let#[_,_,_,_,e]:=q;apply#[_,e]
 |tup xs=>let#[_,_,_,ob,e,_]:=q;apply#[_,e]
 |dK ak=>let#[_,_,_,_,ob,_,_,e,_]:=q;apply#[_,e]
 |dT ak=>let#[_,_,_,_,ob,_,_,e,_]:=q;apply#[_,e]
 |set S n=>let#[ob,_,_,_,e,_]:=q;apply#[_,e]
 |ins C dx fs=>let#[_,_,_,e,_]:=q;apply#[_,e]
 |own y=>apply q
 |xd fs=>let#[_,#[_,_,_,e,_],_]:=q;apply#[_,e]
 |cz lo hi=>let#[_,_,_,e]:=q;apply#[_,e]
 |cG ob u=>apply#[_,q.1]
 |qk ps=>apply#[_,(show h.get? a=some _ from q)]
 |iH _ _=>let#[_,e,_]:=q;apply#[_,e]
 |ja _=>let#[_,_,_,_,e,g,_]:=q;ext e;apply#[_,g]
 |met f y=>apply#[_,(show h.get? a=some _ from q)]
 |ext φ=>apply q.2.1
def aeW(h:Heap)(H:Hp)(nw:Addr->Prop)(e:Addr):Option Addr->Prop
 |none=>True
 |some n=>∃oe dx t,h.get? e=some oe/\oe.dict=some dx/\h.Ns1 dx (Hi n t)/\H dx=none/\nw dx
def kX(h:Heap)(H:Hp)(nw:Addr->Prop)(e:Addr)(aS:Option Addr):Prop:=(∃oe,h.get? e=some oe/\nC oe=some .none)/\aeW h H nw e aS
def kX.keep(x:kX h H nw e aS)(kd:Kd h h')(he:∃o,h'.get? e=some o)(st:∀b o,h.get? b=some o->(∀vs,o.data≠.fields vs)->∃sl,h'.get? b=some { o with slots:=sl })(hn:∀a,nw a->EL a):kX h' H EL e aS:=by
 let#[#[o0,g1,g2],x]:=x;let#[zJ,he]:=he;refine#[#[zJ,he,(kd.at g1 he).2.trans g2],?_];cases aS with
 |none=>trivial
 |some n=>
  let#[oe,dx,t,h1,h2,#[o,es,ep,q1,q2,q3],h4,h5]:=x;let#[sl,q4]:=st dx o q1 λvs z=>by rw[q2] at z;ext z
  apply#[zJ,dx,t,he,(kd.at h1 he).1.trans h2,#[_,es,ep,q4,q2,q3],h4,hn dx h5]
def kX.imp(x:kX h H nw e aS)(hn:∀a,nw a->EL a):kX h H EL e aS:=by
 let#[g,x]:=x;refine#[g,?_];cases aS with
 |none=>trivial
 |some n=>
  let#[oe,dx,t,h1,h2,h3,h4,h5]:=x;apply#[oe,dx,t,h1,h2,h3,h4,hn dx h5]
structure Mi(h:Heap)(H:Hp)(h0:Heap)(e:Addr)(cls:Value)(aS:Option Addr):Prop where
 py:kX h H (λa=>h0.get? a=none) e aS
 nw:h0.get? e=none
 fr:H e=none
 ob:∃oe vs a0 T oT ts,h.get? e=some oe/\oe.cls=cls/\vs[0]? = some a0/\oe.data=.fields vs/\vs[1]? = some (.ref T)/\T≠e/\h0.get? T=none/\H T=none/\h.get? T=some oT/\oT.data=.fields ts/\ts[3]? = some .none
structure Qn(h:Heap)(H:Hp)(h0:Heap)(e:Addr)(cls:Value)(aS:Option Addr):Prop where
 py:kX h H (λa=>h0.get? a=none) e aS
 nw:h0.get? e=none
 fr:H e=none
 ob:∃oe vs a0,h.get? e=some oe/\oe.cls=cls/\vs[0]? = some a0/\oe.data=.fields vs/\vs[1]? = some .none
structure Wl(h:Heap)(H:Hp)(h0:Heap)(L e:Addr)(cls:Value)(aS:Option Addr):Prop where
 py:kX h H (λa=>h0.get? a=none) e aS
 nw:h0.get? e=none
 fr:H e=none
 ob:∃oe vs a0 T oT ts,h.get? e=some oe/\oe.cls=cls/\vs[0]? = some a0/\oe.data=.fields vs/\vs[1]? = some (.ref T)/\T≠e/\h0.get? T=none/\H T=none/\h.get? T=some oT/\oT.data=.fields ts/\ts[3]? = some (rawInt L)
def Mz(h:Heap)(H:Hp)(h0:Heap)(L e:Addr)(cls:Value)(aS:Option Addr):Prop:=Qn h H h0 e cls aS\/Mi h H h0 e cls aS\/Wl h H h0 L e cls aS
def fm(P:Program)(w:World):qX:=λouter H s E e s'=>∃a H' cls aS,e=.ref a/\s'.os=s.os/\AllBare s'.gens/\Un (bq outer) [] H H' s.heap s'.heap/\c8 P w H' s'.heap/\Mi s'.heap H' s.heap a cls aS/\E cls aS H'
def Un.dead(u:Un fs [] H H' h h')(n:h'.get? a=none):h.get? a=none:=by
 cases q:h.get? a with
 |none=>rfl
 |some o=>
  let#[o',e]:=u.there a o q (by simp);rw[n] at e;ext e
def Uc{K:Fr}
  (I:Inv (gb (fm P w) P w K mg base N qual scope f cd A outer s0 H0 E) af U H s) (fl:Mz s.heap H s0.heap (gb (fm P w) P w K mg base N qual scope f cd A outer s0 H0 E).env.locals e cls aS) (hE:E cls aS H) :
  (gb (fm P w) P w K mg base N qual scope f cd A outer s0 H0 E).xe (.ref e) s:=by
 generalize hX:gb (fm P w) P w K mg base N qual scope f cd A outer s0 H0 E=X at I fl ⊢;have XY:X.xe=λe s'=>wpAny (model P w) X.A (leaving X.env e) (λ_ gH=>fm P w outer H0 s0 E e gH) (λe' gH=>fm P w outer H0 s0 E e' gH) s':=by rw[<- hX];rfl
 have dJ:X.stack=X.env::outer:=by rw[<- hX];rfl
 have oW:X.A.frames=some (X.env::outer):=by rw[<- dJ];apply I.ok.frames
 have hf:X.env.frame=some X.env.locals:=by rw[<- hX];rfl
 have hl:=I.stack;rw[dJ] at hl;have u:Un (bq outer) [] H0 H s0.heap s.heap:=by
  have:=I.base;rw[<- hX] at this;apply this
 have oN:s.os=s0.os:=by
  have:=I.os;rw[<- hX] at this;apply this
 have aH:c8 P w H s.heap:=by
  have:=I.aH;rw[<- hX] at this;apply this
 have free:=I.uE;rw[dJ] at free;have lf:∀b,b∈bq (X.env::outer)->(∃o,s.heap.get? b=some o/\∀vs,o.data≠.fields vs):=λb m=>(hl.mem m).2
 have AZ:=fl.elim (·.nw) λz=>z.elim (·.nw) (·.nw)
 have AV:=fl.elim (·.fr) λz=>z.elim (·.fr) (·.fr)
 have fpy:=fl.elim (·.py) λz=>z.elim (·.py) (·.py)
 rw[XY];dsimp only;have fin:∀(xs) (h'),(∀x∈xs,s0.heap.get? x=none/\H x=none)->(∃a0,Heap.LeftW (PySem.W.hideAll s.heap (bq (X.env::outer)++xs)) (X.env::outer) e cls a0 s.heap h')->e∈xs->Kd s.heap h'->fm P w outer H0 s0 E (.ref e) { s with heap:=h' }:=λxs h' jA hL JS kd=>by
  let#[a0,k1,k2,k3,k4]:=hL;have fS:∀b o,s.heap.get? b=some o->b∉bq (X.env::outer)->b∉xs->h'.get? b=some o:=λb o q n1 n2=>k1 b o (PySem.W.hideAll_get _ q λm=>(abB.mp m).elim n1 n2)
  have nx:∀b o,s0.heap.get? b=some o->b∉xs:=λb o q m=>by rw[(jA b m).1] at q;ext q
  have acG:∀b o,s0.heap.get? b=some o->b≠X.env.locals:=λb o q z=>by
   have h1:=I.ok.above;have h2:X.cZ=s0:=by rw[<- hX];rfl
   rw[h2,<- z] at h1;apply absurd (aa5 q) (Nat.not_lt.mpr h1)
  have nfr:∀b o,s0.heap.get? b=some o->b∉bq outer->b∉bq (X.env::outer):=λb o q n m=>by
   have m:b∈(X.env::outer).filterMap (·.frame):=m;rw[aeX,hf] at m;apply(aat.mp m).elim (acG b o q) n
  have sub:∀b,b∈bq outer->b∈bq (X.env::outer):=λb m=>by
   show b∈(X.env::outer).filterMap (·.frame);rw[aeX,hf];apply aao _ m
  refine#[e,H,cls,aS,rfl,oN,I.bare,#[λb o q n nf _=>?_,λb o q n m _=>?_,u.free,λb o q _=>?_,u.iM,u.iz,u.jG],aH.tracked λb v o hb q=>?_,#[fpy.keep kd (by let#[oe,vs,T,oT,ts,r1,_]:=k3;apply#[oe,r1]) k4 λ_ z=>z,AZ,AV,?_],hE]
  .exact fS b o (u.keep b o q n nf (by simp)) (nfr b o q nf) (nx b o q)
  .let#[sl,q2]:=u.slot b o q n m (by simp);let#[o2,q3,q4]:=lf b (sub b m);rw[q2] at q3;ext q3;let#[rH,q5]:=k4 b _ q2 q4;apply#[rH,q5]
  .let#[o',q2]:=u.there b o q (by simp)
   by_cases m:b∈bq (X.env::outer)
   .let#[o2,q3,q4]:=lf b m;rw[q2] at q3;ext q3;let#[rH,q5]:=k4 b _ q2 q4;apply#[_,q5]
   .exact#[o',fS b o' q2 m (nx b o q)]
  .refine fS b v q (λm=>?_) λm=>?_
   .rw[free b m] at hb;ext hb
   .rw[(jA b m).2] at hb;ext hb
  .let#[oe,vs,T,oT,ts,r1,#[r2,r0],r3,r4,r5,r6,r7,r8,r9]:=k3;refine#[oe,vs,a0,T,oT,ts,r1,r2,r0,r3,r4,r6,?_,?_,r7,r8,r9]
   .cases q:s0.heap.get? T with
    |none=>rfl
    |some o=>
     exfalso
     let#[o',q2]:=u.there T o q (by simp)
     by_cases m:T∈bq (X.env::outer)
     .let#[o2,q3,q4]:=(k2.mem m).2;rw[r7] at q3;ext q3;apply q4 ts r8
     .have:=PySem.W.hideAll_get (bq (X.env::outer)++xs) q2 λz=>(abB.mp z).elim m (nx T o q)
      rw[r5] at this;ext this
   .cases q:H T with
    |none=>rfl
    |some o=>
     exfalso
     let#[v,q2]:=aH.alive q;have:=PySem.W.hideAll_get (bq (X.env::outer)++xs) q2 λz=>(abB.mp z).elim (λm=>by rw[free T m] at q;ext q) λm=>by rw[(jA T m).2] at q;ext q
     rw[r5] at this;ext this
 have hide:∀xs:List Addr,s.heap.FunFrames (PySem.W.hideAll s.heap (bq (X.env::outer)++xs)) (X.env::outer):=λxs=>PySem.W.funFrames_hide hl λyC he a ha=>aaZ _ (ais.mpr #[yC,he,ha])
 rcases fl with fl|fl|fl
 .let#[oe,vs,a0,h1,h2,h0,h3,h5]:=fl.ob;refine ad1 (vG (Hl _ _) (wpAny_leaving_firstW (Q:=λ_ gH=>∃h',gH={ s with heap:=h' }/\Heap.LeftW (PySem.W.hideAll s.heap (bq (X.env::outer)++[e])) (X.env::outer) e oe.cls a0 s.heap h') (E:=λ_ _=>False) oW (hide _) hf h1 (λb o q=>PySem.W.of_hideAll _ q) (PySem.W.hideAll_none _ (by simp)) h3 h5 h0 λh' hL=>#[h',rfl,hL])) (λ_ gH #[#[h',eh,hL],kd]=>?_) λ_ _ z=>z.1.elim
  subst eh;rw[h2] at hL;apply fin [e] h' (λx m=>by rw[aaK.mp m];apply#[AZ,AV]) #[a0,hL] (by simp) kd
 .let#[oe,vs,a0,T,oT,ts,h1,h2,h0,h3,t1,t2,t3,t4,t5,t6,t7]:=fl.ob;refine ad1 (vG (Hl _ _) (wpAny_leaving_nextW (Q:=λ_ gH=>∃h',gH={ s with heap:=h' }/\Heap.LeftW (PySem.W.hideAll s.heap (bq (X.env::outer)++[e,T])) (X.env::outer) e cls a0 s.heap h') (E:=λ_ _=>False) oW (hide _) hf #[oe,vs,T,oT,ts,h1,#[h2,h0],h3,t1,PySem.W.hideAll_none _ (by simp),t2,t5,t6,t7] (λb o q=>PySem.W.of_hideAll _ q) (PySem.W.hideAll_none _ (by simp)) λh' hL=>#[h',rfl,hL])) (λ_ gH #[#[h',eh,hL],kd]=>?_) λ_ _ z=>z.1.elim
  subst eh;refine fin [e,T] h' (λx m=>?_) #[a0,hL] (by simp) kd;rcases aat.mp m with z|z
  .rw[z];apply#[AZ,AV]
  .rw[aaK.mp z];apply#[t3,t4]
 .let#[oe,vs,a0,T,oT,ts,h1,h2,h0,h3,t1,t2,t3,t4,t5,t6,t7]:=fl.ob;have aq:Heap.HeldW (PySem.W.hideAll s.heap (bq (X.env::outer)++[e,T])) (X.env::outer) e cls a0 X.env.locals s.heap:=#[λb o q=>PySem.W.of_hideAll _ q,PySem.W.hideAll_none _ (by simp),hide _,oe,vs,T,oT,ts,h1,#[h2,h0],h3,t1,PySem.W.hideAll_none _ (by simp),t2,t5,t6,t7]
  have key:wpAny (model P w) X.A (leaving X.env (.ref e)) (λ_ gH=>∃h',gH={ s with heap:=h' }/\Heap.LeftW (PySem.W.hideAll s.heap (bq (X.env::outer)++[e,T])) (X.env::outer) e cls a0 s.heap h') (λ_ _=>False) s:=by
   unfold leaving;refine aal (wpAny_noteFrame_againW hf aq.2.2.2 ?_);refine wpAny_landsW aq ?_
   rintro h' ⟨k1,k2,k3,k4⟩ up
   apply#[h',rfl,k1,k3,k4,up]
  refine ad1 (vG (Hl _ _) key) (?_) λ_ _ z=>z.1.elim
  rintro _ gH ⟨⟨h',eh,hL⟩,kd⟩
  subst eh;refine fin [e,T] h' (λx m=>?_) #[a0,hL] (by simp) kd;rcases aat.mp m with z|z
  .rw[z];apply#[AZ,AV]
  .rw[aaK.mp z];apply#[t3,t4]
abbrev XS:=Value->Option Addr->St->Hp->Prop
def Ie(X:Cx)(E:XS):Prop:=∀(af) (U) (H) (s) (e) (cls) (aS),Inv X af U H s->Qn s.heap H X.cZ.heap e cls aS->E cls aS U H->X.xe (.ref e) s
def U4{K:Fr}:
  Ie (gb (fm P w) P w K mg base N qual scope f cd A outer s0 H0 E) (λcls aS _ H=>E cls aS H):=λaf U H s e cls aS I fl hE=>Uc I (.inl fl) hE
inductive sI(K:Fr)(C N:Addr)(bm:List Value)(newId:String):Prop
 |mk:K.lookup C=some (excClassObj nm q C N bs bm hdct sn sub ab col dd k0 k1 k2 k3 k5 newId)->sI K C N bm newId
structure CP(K:Fr)(C:Addr):Prop where
 ex:∃B newId O9 Ks bm N,ExcBaseFacts B newId O9 Ks/\sI K C N bm newId/\PySem.W.nsOkIn K N=true/\PySem.W.nsIn K N "__init__"=some none/\PySem.W.tailIn K Ks bm=true
def ad5(C:Addr)(E:XS)(t:TA):TS:=λ_ U H=>t U H λvs H1=>vs.length<=sizeLine/\E (.ref C) none U H1
def aio(hc:X.calm=true)(hx:X.ex=[])(th:Ie X E)(cl:CP X.K C)(hg:Gl X x)(hm:X.mg x=some (.ref C))(ha:PA X (e::es) t)(fE:(x==("__debug__":Str))=false:=by decide)
  (he:starEach (e::es) X.env=(false,eval e X.env)::starEach es X.env:=by rfl) (hpl:(backTo fT (starEach es X.env)).any (·.1)=false:=by rfl) :
  PS X (.Raise (some (.Call (.Name x np) (e::es) [] fT)) none pos) (ad5 C E t):=by
 intro af s U H D I h;obtain⟨B,newId,O9,Ks,bm,N,FB,@⟨nm,q,bs,hdct,sn,sub,ab,col,dd,k0,k1,k2,k3,k5,hl⟩,n1,n2,n3⟩:=cl.ex;have hh:=I.ok.hd hc;have KI:=I.ok.mod.qj;have hC:=KI _ _ hl;have hN:=Heap.Ns.of_isNs (PySem.W.isNs_of_in KI n1);have hni:=PySem.W.nsMap_none_of_in KI n1 n2;have T:=PySem.W.tail_of_in KI n3;refine wpAny_Raise_call_subT (nm:=nm) (q:=q) (N:=N) (bs:=bs) (hdct:=hdct) (sn:=sn) (sub:=sub) (ab:=ab) (col:=col) (dd:=dd) (k0:=k0) (k1:=k1) (k2:=k2) (k3:=k3) (k5:=k5) FB (T.hasType FB.hasBase) hh (by rw[he];show(false||(backTo fT (starEach es X.env)).any (·.1))=false;rw[hpl];rfl) hni (qI I hg hm #[rfl,?_] fE);have key:=ha fT af s U H _ I h;rw[he] at key ⊢;refine Calls.evalArgs_plain (ad1 key (λus s1 hq=>?_) λ_ _ y=>y);let#[vs,H1,I1,r,hz,q1]:=hq;refine#[rfl,by rw[<- r.length];apply hz,I1.bk _ _ hC,hN.keeps I1.bk,T.keeps I1.bk,λh' e' pV=>?_];have I2:Inv X af U H1 { s1 with heap:=h' }:=I1.kept pV.keeps;refine th af U H1 _ e' (.ref C) none I2 #[#[?_,trivial],?_,?_,?_] q1
 .let#[tp,z,_,_]:=pV.there;apply#[_,z,rfl]
 .have u:=I1.base;rw[hx] at u;apply u.dead pV.new
 .cases qq:H1 e' with
  |none=>rfl
  |some o=>
   let#[v,z]:=I1.aH.alive qq;rw[pV.new] at z;ext z
 .let#[tp,z,_,_]:=pV.there;apply#[_,_,_,z,rfl,rfl,rfl,rfl]
theorem Inv.slots(I:Inv X af U H s)(xs:List Addr)(fS:∀b o,s.heap.get? b=some o->b∉bq X.stack->b∉xs->h'.get? b=some o)(slot:∀b o,s.heap.get? b=some o->b∈bq X.stack->∃sl,h'.get? b=some { o with slots:=sl })
  (jA:∀x∈xs,X.cZ.heap.get? x=none/\H x=none/\x≠X.env.locals/\(∀y c,X.env.cells.lookup y=some c->c≠x)/\∀p∈X.pn++af,p.1≠x):Inv X af U H { s with heap:=h' }:=by
 have any:∀b o,s.heap.get? b=some o->b∉xs->∃sl,h'.get? b=some { o with slots:=sl }:=λb o q n=>by
  by_cases m:b∈bq X.stack
  .exact slot b o q m
  .exact#[o.slots,fS b o q m n]
 have out:∀b,b≠X.env.locals->b∉X.fs->b∉bq X.stack:=λb n1 n2 m=>(aat.mp (I.D4 b m)).elim n1 n2
 have Cw:∀b o,X.cZ.heap.get? b=some o->b≠X.env.locals:=λb o e=>acy (acV (aa5 e) I.ok.above)
 have JK:∀b o,X.cZ.heap.get? b=some o->b∉xs:=λb o e m=>by rw[(jA b m).1] at e;ext e
 have cellK:∀x c,X.env.cells.lookup x=some c->∀v,s.heap.IsCell c v->h'.IsCell c v:=λx c e v #[o,ho,hd]=>by
  let#[sl,q]:=any c o ho λz=>(jA c z).2.2.2.1 x c e rfl
  apply#[_,q,hd]
 refine#[I.ok,I.os,I.bare,#[λb o e n hb hx=>?_,λb o e n hb hx=>?_,I.base.free,λb o e hx=>?_,I.base.iM,I.base.iz,I.base.jG],?_,λx c e=>?_,I.free,I.gj,λp hp=>?_,I.aH.tracked λb v o hb q=>?_,I.len,I.hq]
 .exact fS b o (I.base.keep b o e n hb hx) (out b (Cw b o e) hb) (JK b o e)
 .let#[sl,e1]:=I.base.slot b o e n hb hx;let#[rH,e2]:=any b _ e1 (JK b o e);apply#[rH,e2]
 .let#[o',e1]:=I.base.there b o e hx;let#[sl,e2]:=any b o' e1 (JK b o e);apply#[_,e2]
 .let#[m,#[o,es,ep,ho,r],hl]:=I.loc;let#[sl,hL]:=any _ o ho λz=>(jA _ z).2.2.1 rfl
  refine#[m,#[_,es,ep,hL,r],λi x v e1 e2 e3=>?_];let#[u,rr,l]:=hl i x v e1 e2 e3;refine#[u,rr,?_];rcases l with l|⟨k,c,e,z⟩
  .exact .inl l
  .exact .inr #[k,c,e,cellK x c e _ z]
 .let#[v,z]:=I.cell x c e;apply#[v,cellK x c e v z]
 .let#[e,n,ne,nf,d]:=I.pin p hp;apply#[fS p.1 p.2 e (out p.1 ne nf) λz=>(jA p.1 z).2.2.2.2 p hp rfl,n,ne,nf,d]
 .refine fS b v q (λm=>?_) λm=>?_
  .rw[I.uE b m] at hb;ext hb
  .rw[(jA b m).2.1] at hb;ext hb
def Inv.apart(I:Inv X af U H s)(hx:X.ex=[])(n:s.heap.get? x=none):X.cZ.heap.get? x=none/\x≠X.env.locals/\(∀y c,X.env.cells.lookup y=some c->c≠x)/\∀p∈X.pn++af,p.1≠x:=by
 refine#[?_,λz=>?_,λy c e z=>?_,λp hp z=>?_]
 .have u:=I.base;rw[hx] at u;apply u.dead n
 .let#[m,#[o,_,_,ho,_],_]:=I.loc;rw[<- z,n] at ho;ext ho
 .let#[v,o,ho,_]:=I.cell y c e;rw[z,n] at ho;ext ho
 .have:=(I.pin p hp).1;rw[z,n] at this;ext this
abbrev Apart(X:Cx)(af:List (Addr×Obj))(a:Addr):Prop:=X.cZ.heap.get? a=none/\a≠X.env.locals/\(∀y c,X.env.cells.lookup y=some c->c≠a)/\∀p∈X.pn++af,p.1≠a
structure f6(X:Cx)(af:List (Addr×Obj))(U:St)(H:Hp)(e:Addr)(cls:Value)(aS:Option Addr)(s:Shared):Prop where
 py:kX s.heap H (Apart X af) e aS
 inv:Inv X af U H s
 fr:H e=none
 ap:X.cZ.heap.get? e=none/\e≠X.env.locals/\(∀y c,X.env.cells.lookup y=some c->c≠e)/\∀p∈X.pn++af,p.1≠e
 ob:∃oe vs a0 T oT ts,s.heap.get? e=some oe/\oe.cls=cls/\vs[0]? = some a0/\oe.data=.fields vs/\vs[1]? = some (.ref T)/\T≠e/\H T=none/\(X.cZ.heap.get? T=none/\T≠X.env.locals/\(∀y c,X.env.cells.lookup y=some c->c≠T)/\∀p∈X.pn++af,p.1≠T)/\s.heap.get? T=some oT/\oT.data=.fields ts/\(ts[3]? = some .none\/ts[3]? = some (rawInt X.env.locals))
def landAt(I:Inv X af U H s)(hx:X.ex=[])(fr:H e=none)(ap:X.cZ.heap.get? e=none/\e≠X.env.locals/\(∀y c,X.env.cells.lookup y=some c->c≠e)/\∀p∈X.pn++af,p.1≠e)(JS:e∈xs)
  (jA:∀x∈xs,H x=none/\X.cZ.heap.get? x=none/\x≠X.env.locals/\(∀y c,X.env.cells.lookup y=some c->c≠x)/\∀p∈X.pn++af,p.1≠x)
  (k1:(PySem.W.hideAll s.heap (bq X.stack++xs)).StaysIn h') (k3:h'.FunFrames (PySem.W.hideAll s.heap (bq X.stack++xs)) X.stack) (tr:h'.TracedAtW (PySem.W.hideAll s.heap (bq X.stack++xs)) e cls a0 fl) (Z6:fl=.none\/fl=rawInt X.env.locals) (up:s.heap.UpToSlots h') (py:kX s.heap H (Apart X af) e aS) (kd:Kd s.heap h'):f6 X af U H e cls aS { s with heap:=h' }:=by
 let#[oe,vs,T,oT,ts,r1,#[r2,r0],r3,r4,r5,r6,r7,r8,r9]:=tr;have fS:∀b o,s.heap.get? b=some o->b∉bq X.stack->b∉xs->h'.get? b=some o:=λb o q n1 n2=>k1 b o (PySem.W.hideAll_get _ q λm=>(abB.mp m).elim n1 n2)
 have slot:∀b o,s.heap.get? b=some o->b∈bq X.stack->∃sl,h'.get? b=some { o with slots:=sl }:=λb o q m=>by
  let#[_,o2,q3,q4]:=I.stack.mem m;rw[q] at q3;ext q3;apply up b o q q4
 have J:=I.slots xs fS slot λx m=>let#[a,b,c]:=jA x m;#[b,a,c]
 have tH:H T=none:=by
  cases q:H T with
  |none=>rfl
  |some o=>
   exfalso
   let#[v,q2]:=I.aH.alive q;have:=PySem.W.hideAll_get (bq X.stack++xs) q2 λz=>(abB.mp z).elim (λm=>by rw[I.uE T m] at q;ext q) λm=>by rw[(jA T m).1] at q;ext q
   rw[r5] at this;ext this
 have tF:T∉bq X.stack:=λm=>by
  let#[_,o2,q3,q4]:=k3.mem m;rw[r7] at q3;ext q3;apply q4 ts r8
 have tA:X.cZ.heap.get? T=none/\T≠X.env.locals/\(∀y c,X.env.cells.lookup y=some c->c≠T)/\∀p∈X.pn++af,p.1≠T:=by
  by_cases m:T∈xs
  .exact(jA T m).2
  .have dead:s.heap.get? T=none:=by
    cases q:s.heap.get? T with
    |none=>rfl
    |some o=>
     have:=PySem.W.hideAll_get (bq X.stack++xs) q λz=>(abB.mp z).elim tF m
     rw[r5] at this;ext this
   refine#[?_,λz=>?_,λy c e z=>?_,λp hp z=>?_]
   .cases q:X.cZ.heap.get? T with
    |none=>rfl
    |some o=>
     exfalso
     let#[o',q2]:=I.base.there T o q (by rw[hx];simp);rw[dead] at q2;ext q2
   .let#[m,#[o,_,_,ho,_],_]:=I.loc;rw[<- z,dead] at ho;ext ho
   .let#[v,o,ho,_]:=I.cell y c e;rw[z,dead] at ho;ext ho
   .have:=(I.pin p hp).1;rw[z,dead] at this;ext this
 apply#[py.keep kd #[oe,r1] up λ_ z=>z,J,fr,ap,oe,vs,a0,T,oT,ts,r1,r2,r0,r3,r4,r6,tH,tA,r7,r8,Z6.elim (λz=>.inl (z ▸ r9)) λz=>.inr (z ▸ r9)]
def land(I:Inv X af U H s)(hx:X.ex=[])(fr:H e=none)(ap:Apart X af e)(JS:e∈xs)(jA:∀x∈xs,H x=none/\Apart X af x)
  (fl:Heap.FlyingW (PySem.W.hideAll s.heap (bq X.stack++xs)) X.stack e cls a0 h') (up:s.heap.UpToSlots h') (py:kX s.heap H (Apart X af) e aS) (kd:Kd s.heap h'):f6 X af U H e cls aS { s with heap:=h' }:=
 landAt I hx fr ap JS jA fl.1 fl.2.2.1 fl.2.2.2 (.inl rfl) up py kd
def f6.afj{R:Shared->Prop}(L:f6 X af U H e cls aS s)(hx:X.ex=[])(dJ:X.stack=X.env::X.outer)(hf:X.env.frame=some X.env.locals)(k:∀s3,f6 X af U H e cls aS s3->R s3):
  wpAny M X.A (noteFrame (.ref e) X.env) (λ_ s2=>wpAny M X.A (setFlight (.ref e) none) (λ_ s3=>R s3) E' s2) E' s:=by
 let#[oe,vs,a0,T,oT,ts,h1,h2,h0,h3,t1,t2,tH,tA,t5,t6,t7]:=L.ob;have I:=L.inv;have oW:X.A.frames=some (X.env::X.outer):=by rw[<- dJ];apply I.ok.frames
 have hF:=PySem.W.funFrames_hide (as:=bq X.stack++[e,T]) I.stack λyC he a ha=>aaZ _ (ais.mpr #[yC,he,ha])
 have fin:∀h4,Heap.HeldW (PySem.W.hideAll s.heap (bq X.stack++[e,T])) (X.env::X.outer) e cls a0 X.env.locals h4->s.heap.UpToSlots h4->Kd s.heap h4->wpAny M X.A (setFlight (.ref e) none) (λ_ s3=>R s3) E' { s with heap:=h4 }:=λh4 aq z9 II=>by
  refine ad1 (vG (Ja _ _) (wpAny_landsW (Q:=λ_ s5=>∃h5,s5={ s with heap:=h5 }/\Heap.FlyingW (PySem.W.hideAll s.heap (bq X.stack++[e,T])) (X.env::X.outer) e cls a0 h5/\h4.UpToSlots h5) (E:=λ_ _=>False) aq λh5 Cb HC=>#[h5,rfl,Cb,HC])) (λ_ s5 #[#[h5,e5,Cb,HC],kd5]=>?_) λ_ _ z=>z.1.elim
  subst e5;refine k _ (show f6 X af U H e cls aS { s with heap:=h5 } from land (a0:=a0) (xs:=[e,T]) I hx L.fr L.ap (by simp) (λx m=>?_) ?_ (z9.trans HC) L.py (II.trans kd5))
  .rcases aat.mp m with z|z
   .rw[z];apply#[L.fr,L.ap]
   .rw[aaK.mp z];apply#[tH,tA]
  .rw[<- dJ] at Cb;apply Cb
 rcases t7 with t7|t7
 .have F:Heap.FlyingW (PySem.W.hideAll s.heap (bq X.stack++[e,T])) (X.env::X.outer) e cls a0 s.heap:=by
   rw[<- dJ];apply#[λb o q=>PySem.W.of_hideAll _ q,PySem.W.hideAll_none _ (by simp),hF,oe,vs,T,oT,ts,h1,#[h2,h0],h3,t1,PySem.W.hideAll_none _ (by simp),t2,t5,t6,t7]
  refine ad1 (vG (Sy _ _) (wpAny_looks_onW (Q:=λ_ s4=>∃h4,s4={ s with heap:=h4 }/\Heap.HeldW (PySem.W.hideAll s.heap (bq X.stack++[e,T])) (X.env::X.outer) e cls a0 X.env.locals h4/\s.heap.UpToSlots h4) (E:=λ_ _=>False) oW hf F λh4 aq z9=>#[h4,rfl,aq,z9])) (λ_ s4 #[#[h4,e4,aq,z9],II]=>?_) λ_ _ z=>z.1.elim
  subst e4;apply fin h4 aq z9 II
 .have F:Heap.HeldW (PySem.W.hideAll s.heap (bq X.stack++[e,T])) (X.env::X.outer) e cls a0 X.env.locals s.heap:=by
   rw[<- dJ];apply#[λb o q=>PySem.W.of_hideAll _ q,PySem.W.hideAll_none _ (by simp),hF,oe,vs,T,oT,ts,h1,#[h2,h0],h3,t1,PySem.W.hideAll_none _ (by simp),t2,t5,t6,t7]
  apply wpAny_noteFrame_againW hf F.2.2.2 (fin s.heap F (λb o hb _=>#[o.slots,hb]) (Kd.refl _))
def f6.fly(L:f6 X af U H e cls aS s):Mz s.heap H X.cZ.heap X.env.locals e cls aS:=by
 let#[oe,vs,a0,T,oT,ts,h1,h2,h0,h3,t1,t2,tH,tA,t5,t6,t7]:=L.ob;rcases t7 with t7|t7
 .exact .inr (.inl #[L.py.imp λ_ z=>z.1,L.ap.1,L.fr,oe,vs,a0,T,oT,ts,h1,h2,h0,h3,t1,t2,tA.1,tH,t5,t6,t7])
 .exact .inr (.inr #[L.py.imp λ_ z=>z.1,L.ap.1,L.fr,oe,vs,a0,T,oT,ts,h1,h2,h0,h3,t1,t2,tA.1,tH,t5,t6,t7])
def tu(X:Cx)(E:XS):Prop:=∀(af) (U) (H) (s) (e) (cls) (aS),f6 X af U H e cls aS s->E cls aS U H->X.xe (.ref e) s
def aie{K:Fr}:
  tu (gb (fm P w) P w K mg base N qual scope f cd A outer s0 H0 E) (λcls aS _ H=>E cls aS H):=λaf U H s e cls aS L hE=>Uc L.inv L.fly hE
def abf{os:OsState}
  (hC:h.get? C=some (excClassObj nm q C N bs bm hdct sn sub ab col dd k0 k1 k2 k3 k5 newId)) (hD:h.get? D=some (excClassObj nm' q' D N' bs' tG aiM sn' ai2 ab' ai0 qe j0 j1 j2 j3 j5 aiZ)) (he:h.get? e=some oe) (yd:oe.cls=.ref C)
  (hb:tG.contains (.type "BaseException")=true) (hq:Q ((Value.ref C::bm).contains (.ref D)) #[h,g,d,t,os]):wpAny M A (excMatches (.ref e) (.ref D)) Q E #[h,g,d,t,os]:=by
 have UU:(Value.ref D::tG).contains (.type "BaseException")=true:=by rw[List.contains_cons,hb,Bool.or_true]
 have f:=tc_notTuple;unfold excMatches
 repeat (first|(with_reducible refine wpAny_loadPart_at he ?_;rw[yd])|with_reducible refine wpAny_loadPart_at hD ?_|(with_reducible refine wpAny_isSubtype_exc hD ?_;rw[UU])|(with_reducible refine wpAny_isSubtype_exc hC ?_)|wp_step)
 cases hz:(Value.ref C::bm).contains (.ref D)<;>(rw[hz] at hq;wp_walk;apply hq)
def f6.again(L:f6 X af U H e cls aS s)(hx:X.ex=[])(k:∀s',f6 X af U H e cls aS s'->Q () s'):wpAny M A' (setFlight (.ref e) none) Q E' s:=by
 let#[oe,vs,a0,T,oT,ts,h1,h2,h0,h3,t1,t2,tH,tA,t5,t6,t7]:=L.ob;obtain⟨fl,t7⟩:∃fl,ts[3]? = some fl:=t7.elim (λz=>#[_,z]) λz=>#[_,z]
 have I:=L.inv;refine ad1 (vG (Ja _ _) (wpAny_setFlight_noneW (Q:=λ_ s'=>∃h',s'={ s with heap:=h' }/\(PySem.W.hideAll s.heap (bq X.stack++[e,T])).StaysIn h'/\h'.FunFrames (PySem.W.hideAll s.heap (bq X.stack++[e,T])) X.stack/\h'.TracedW (PySem.W.hideAll s.heap (bq X.stack++[e,T])) e cls a0/\(∀b o,s.heap.get? b=some o->(∀vs,o.data≠.fields vs)->h'.get? b=some o)) (E:=λ_ _=>False) (λb o q=>PySem.W.of_hideAll _ q)
  (PySem.W.funFrames_hide I.stack λyC he a ha=>aaZ _ (ais.mpr #[yC,he,ha])) #[oe,vs,T,oT,ts,h1,#[h2,h0],h3,t1,PySem.W.hideAll_none _ (by simp),t2,t5,t6,t7] λh' k1 k2 k3 k4=>#[h',rfl,k1,k2,k3,k4])) (λ_ s' #[#[h',eh,k1,k2,k3,k4],kd]=>?_) λ_ _ z=>z.1.elim
 subst eh;refine k _ (land I hx L.fr L.ap (by simp) (λx m=>?_) #[k1,PySem.W.hideAll_none _ (by simp),k2,k3] (λb o q n=>#[o.slots,k4 b o q n]) L.py kd);rcases aat.mp m with z|z
 .rw[z];apply#[L.fr,L.ap]
 .rw[aaK.mp z];apply#[tH,tA]
def zG(X:Cx)(af:List (Addr×Obj))(U:St)(E:XK)(e:Value)(s':Shared):Prop:=∃a cls aS H',e=.ref a/\f6 X af U H' a cls aS s'/\E cls aS H'
abbrev TX:=St->Hp->VK->XK->Prop
def PX(X:Cx)(e:Expr)(t:TX):Prop:=
 ∀(af) (s) (U) (H) (Q) (E),Inv X af U H s->t U H Q E->wpAny (model X.prog X.w) X.A (eval e X.env) (EP X af U Q) (zG X af U E) s
def abo(I:Inv X af U H s)(hx:X.ex=[])(h:fm X.prog X.w X.stack H s E e s'):zG X af U E e s':=by
 let#[a,H',cls,aS,rfl,os,bare,un,aH,fl,hE]:=h;have I':=I.NX os un aH bare λb z=>absurd z (by simp)
 let#[oe,vs,a0,T,oT,ts,h1,h2,h0,h3,t1,t2,t3,t4,t5,t6,t7]:=fl.ob;apply#[a,cls,aS,H',rfl,#[fl.py.imp λ_ z=>I.apart hx z,I',fl.fr,I.apart hx fl.nw,oe,vs,a0,T,oT,ts,h1,h2,h0,h3,t1,t2,t4,I.apart hx t3,t5,t6,.inl t7],hE]
def OW(F:bQ X.prog X.w X.K X.mg X.base (fm X.prog X.w) k f fd ps sp cm)(hr:bz k X.A cm)(hb:Binds X.K fd ps ds)(hd:aT d8 ds)(hx:X.ex=[])
  (I:Inv X af U H s) (r:aT vs us) (h:sp (vs++d8) H Q E):wpAny (model X.prog X.w) X.A (call (.ref f) us) (EP X af U Q) (zG X af U E) s:=by
 have r2:=r.append hd;have hl:(us++ds).length=ps.length:=by rw[<- r2.length];apply F.len _ _ _ _ h
 refine wpAny_call (ai8 (F.run X.A X.stack s H #[us,[]] (us++ds) (vs++d8) Q E hr I.JR (hb s us I.dU hl) r2 h) λr s' hq=>?_);cases r with
 |error e=>apply abo I hx hq
 |ok fl=>
  cases fl with
  |ret u=>apply I.after hq
  |next=>apply False.elim hq
  |brk=>apply False.elim hq
  |cont=>apply False.elim hq
def agr(sp:Sp)(d8:List V)(t:TA):TX:=λU H Q E=>t U H λvs H1=>sp (vs++d8) H1 Q E
def XW(C:Addr)(m:Str)(sp:Sp)(d8:List V)(ta:TE)(t:TA):TX:=λU H Q E=>ta U H λx H1=>∃a dx fs,x=.ref a/\H1 a=some (.ins C dx fs)/\fs.lookup m=none/\
 t U H1 λvs H2=>sp (x::(vs++d8)) H2 Q E
def QL(ha:PA X.f_ es t)(I:Inv X af U H s)(h:t U H Q):
  wpAny (model X.prog X.w) X.A (spliced (backTo pos (starEach es X.env))) (AP X af U Q) E' s:=
 ad1 (ha pos af s U H Q (I.kM _) h) (λus s1 #[vs,H1,I1,q]=>#[vs,H1,I1.mW,q]) λ_ _ z=>False.elim z
def T4(ha:PE X.f_ o ta)(I:Inv X af U H s)(h:ta U H Q):
  wpAny (model X.prog X.w) X.A (eval o X.env) (EP X af U Q) E' s:=
 ad1 (ha af s U H Q (I.kM _) h) (λus s1 #[vs,H1,I1,q]=>#[vs,H1,I1.mW,q]) λ_ _ z=>False.elim z
def abu(F:bQ X.prog X.w X.K X.mg X.base (fm X.prog X.w) k f fd ps sp cm)(hr:bz k X.A cm)(hx:X.ex=[])(hg:Gl X x)(hm:X.mg x=some (.ref f))(hk:PySem.W.keepIn X.K (.ref f)=true)(hb:Binds X.K fd ps ds)(hd:aT d8 ds)
  (ha:PA X.f_ (e::es) t) (fE:(x==("__debug__":Str))=false:=by decide) (he:starEach (e::es) X.env=(false,eval e X.env)::starEach es X.env:=by rfl) (hpl:(backTo pos (starEach es X.env)).any (·.1)=false:=by rfl) :
  PX X (.Call (.Name x p) (e::es) [] pos) (agr sp d8 t):=by
 intro af s U H Q E I h;refine afo (qI I hg hm ?_ fE);apply PySem.W.callWith_K I.ok.mod.qj hk (tU (QL ha I h) λus s1 vs H1 I1 r q=>#[I1.dU,OW F hr hb hd hx I1 r q]) he hpl
def Wm(he:PE X.f_ o ta)(c:jO X.K C)(hm:kD X.K C m f)(F:bQ X.prog X.w X.K X.mg X.base (fm X.prog X.w) k f fd ps sp cm)(hr:bz k X.A cm)(hx:X.ex=[])(hb:Binds X.K fd ps ds)(hd:aT d8 ds)(ha:PA X.f_ (e::es) t)
  (dJ:starEach (e::es) X.env=(false,eval e X.env)::starEach es X.env:=by rfl) (hpl:(backTo pos (starEach es X.env)).any (·.1)=false:=by rfl)
  (ht:eval (.Call (.Attribute o m apos) (e::es) [] pos) X.env=(do
   let ov <- eval o X.env
   standAt apos.atName
   let(f,first) <- holding [ov] (getMethod ov m pl)
   callWith pos f first (backTo pos (starEach (e::es) X.env)) (backToKw pos (keywordEach [] X.env))):=by rfl) :
  PX X (.Call (.Attribute o m apos) (e::es) [] pos) (XW C m sp d8 ta t):=by
 intro af s U H Q E I h;refine PySem.W.methodCall_KW (cL (T4 he I h) λu s1 hq=>?_) ht;let#[x,H1,I1,rx,a,dx,fs,ex,ea,l,q]:=hq;subst ex;obtain rfl:u=Value.ref a:=rx;refine KJ I1 ea c hm l ?_;apply PySem.W.callWith_K I.ok.mod.qj hm.kp (tU (QL ha I1 q) λus s2 vs H2 I2 r q2=>#[I2.dU,OW (vs:=.ref a::vs) F hr hb hd hx I2 (.cons rfl r) q2]) dJ hpl
def Qf(th:tu X ES)(h:zG X af U (λcls aS H=>ES cls aS U H) v s):X.xe v s:=by
 let#[a,cls,aS,H',rfl,L,q]:=h;apply th af U H' s a cls aS L q
def aec(i:Nat)(ES:XS)(t:TX):TS:=λD U H=>t U H (λv H1=>D.nx (U.set i (some v)) H1) λcls aS H'=>ES cls aS U H'
def P9(th:tu X ES)(hN:X.N.Nodup)(hi:X.N[i]? = some x)(hx:Loc X.env.scope x)(he:PX X e t)(hs:swapsWith e (some (.Name x pos')) pos.line X.env=pure false:=by rfl)(hf:X.fn x=true\/X.env.scope.names.lookup x=some .local:=by first|exact .inl rfl|exact .inr rfl|assumption):
  PS X (.Assign [.Name x pos'] e pos) (aec i ES t):=by
 intro af s U H D I h;refine wpAny_Assign_Name (ad1 (he af s U H _ _ I h) (?_) λ_ _ z=>Qf th z) hs
 rintro v s1 ⟨y,H1,I1,r1,q1⟩
 apply Cr I1 hN hi hx r1 (λs2 I2=>#[_,H1,I2,q1]) hf
def agn(ES:XS)(t:TX):TS:=λD U H=>t U H D.rt λcls aS H'=>ES cls aS U H'
def RI(th:tu X ES)(he:PX X e t):PS X (.Return (some e) pos) (agn ES t):=by
 intro af s U H D I h;refine wpAny_Return_some (ad1 (he af s U H _ _ I h) (?_) λ_ _ z=>Qf th z)
 rintro v s1 ⟨x,H1,I1,r1,q1⟩
 apply#[x,U,H1,I1,r1,q1]
abbrev Cx.kj(X:Cx)(af:List (Addr×Obj))(R:XS):Cx:={ X with pn:=X.pn++af,xe:=λe s'=>∃U H a cls aS,e=.ref a/\f6 X af U H a cls aS s'/\R cls aS U H }
section
variable{X:Cx}
def Cx.Ok.kj(ok:X.Ok):(X.kj af R).Ok:=
 #[ok.mod,ok.kind,ok.glob,ok.blt,ok.above,ok.inj,ok.has,ok.n_,ok.hd,ok.frames,ok.qQ,ok.uu,ok.bs,ok.jd,ok.pH,ok.oU,ok.jh,ok.mQ]
def Cx.Ok.pM(ok:(X.kj af R).Ok):X.Ok:=
 #[ok.mod,ok.kind,ok.glob,ok.blt,ok.above,ok.inj,ok.has,ok.n_,ok.hd,ok.frames,ok.qQ,ok.uu,ok.bs,ok.jd,ok.pH,ok.oU,ok.jh,ok.mQ]
def Inv.kj(I:Inv X af U H s):Inv (X.kj af R) [] U H s:=#[I.ok.kj,I.os,I.bare,I.base,I.loc,I.cell,I.free,I.gj,λp hp=>I.pin p (by simpa using hp),I.aH,I.len,I.hq]
def Inv.pM(I:Inv (X.kj af R) wV U H s):Inv X af U H s:=#[I.ok.pM,I.os,I.bare,I.base,I.loc,I.cell,I.free,I.gj,λp hp=>I.pin p (aaZ _ hp),I.aH,I.len,I.hq]
def f6.pM(L:f6 (X.kj af R) wV U H e cls aS s):f6 X af U H e cls aS s:=by
 let#[py,I,fr,#[a1,a2,a3,a4],oe,vs,a0,T,oT,ts,h1,h2,h0,h3,t1,t2,tH,#[b1,b2,b3,b4],t5]:=L;apply#[py.imp λ_ z=>#[z.1,z.2.1,z.2.2.1,λp hp=>z.2.2.2 p (aaZ _ hp)],I.pM,fr,#[a1,a2,a3,λp hp=>a4 p (aaZ _ hp)],oe,vs,a0,T,oT,ts,h1,h2,h0,h3,t1,t2,tH,#[b1,b2,b3,λp hp=>b4 p (aaZ _ hp)],t5]
def afw:tu (X.kj af R) R:=λwV U H s e cls aS L q=>#[U,H,e,cls,aS,rfl,L.pM,q]
end
abbrev Cx.nE(X:Cx)(a:Addr):Cx:={ X with A:=X.A.mark (some (.ref a)),calm:=false,xe:=λ_ _=>False }
def Inv.nE(I:Inv X af U H s)(a:Addr)(hq:tP (X.A.mark (some (.ref a))) H):Inv (X.nE a) af U H s:=
 #[#[I.ok.mod,I.ok.kind,I.ok.glob,I.ok.blt,I.ok.above,I.ok.inj,I.ok.has,I.ok.n_,λz=>Bool.noConfusion z,I.ok.frames,I.ok.qQ,I.ok.uu,I.ok.bs,I.ok.jd,I.ok.pH,I.ok.oU,I.ok.jh,I.ok.mQ],I.os,I.bare,I.base,I.loc,I.cell,I.free,I.gj,I.pin,I.aH,I.len,#[hq,I.hq.ok,I.hq.lm]]
def Inv.afU(hc:X.calm=true)(I0:Inv X af U H s)(I:Inv (X.nE a) af aE H' s'):Inv X af aE H' s':=
 #[I0.ok,I.os,I.bare,I.base,I.loc,I.cell,I.free,I.gj,I.pin,I.aH,I.len,#[.inl (I0.ok.hd hc),I.hq.ok,I.hq.lm]]
def Inv.Bm(I:Inv X af U H s)(fr:H e=none)(ap:Apart X af e)(ok:dz X.prog X.w (upd H e u) s.heap e u):Inv X af U (upd H e u) s:=by
 let#[a1,a2,a3,a4]:=ap;have ne:∀{b} {o},H b=some o->b≠e:=λ{b o} q z=>by rw[z,fr] at q;ext q
 refine#[I.ok,I.os,I.bare,#[I.base.keep,I.base.slot,λb o q n hx=>?_,I.base.there,λb xs q=>?_,λb o u q=>?_,λb ps q=>?_],I.loc,I.cell,?_,λx c q=>?_,λp hp=>?_,λb o q=>?_,I.len,I.hq.mono (λb o u q=>by rw[aM (ne q)];apply q) λb t q=>by rw[aM (ne q)];apply q]
 .rw[aM λz=>by rw[z,a1] at q;ext q];apply I.base.free b o q n hx
 .have w:=I.base.iM b xs q;rw[aM (ne w)];apply w
 .have w:=I.base.iz b o u q;rw[aM (ne w)];apply w
 .let#[more,w]:=I.base.jG b ps q;apply#[more,by rw[aM (ne w)];apply w]
 .rw[aM λz=>a2 z.symm];apply I.free
 .rw[aM (a3 x c q)];apply I.gj x c q
 .let#[p1,p2,p3]:=I.pin p hp;apply#[p1,by rw[aM (a4 p hp)];apply p2,p3]
 .by_cases z:b=e
  .subst z;rw[bI] at q;ext q;apply ok
  .rw[aM z] at q;apply(I.aH b o q).fS (λ_ _ _ q=>q) (λc q=>by rw[aM (ne q)];apply q) λc xs q=>by rw[aM (ne q)];apply q
def sS(H H':Hp)(a:Addr)(cls:Value)(aS:Option Addr):Prop:=∃ob vs,ob.data=.fields vs/\vs[2]? = some .none/\match aS with
 |none=>H'=upd H a (yh ob a cls none)
 |some n=>∃dx,dx≠a/\H dx=none/\H'=upd (upd H dx (Gn dx n)) a (yh ob a cls (some dx))
def f6.known(L:f6 X af U H e cls aS s):∃H',sS H H' e cls aS/\Inv X af U H' s:=by
 let#[oe,vs,a0,T,oT,ts,h1,h2,h0,hd,_]:=L.ob;let#[#[o0,c1,c2],py]:=L.py;rw[h1] at c1;ext c1;have c3:vs[2]? = some .none:=by unfold nC at c2;rw[hd] at c2;apply c2
 have nc:PySem.W.notCls oe=true:=by
  let#[c,d,dt,sl]:=oe;dsimp only at hd;subst hd;rfl
 cases aS with
 |none=>apply#[_,#[oe,vs,hd,c3,rfl],L.inv.Bm L.fr L.ap #[h1,M6 h1 h2 λ_ z=>by ext z]]
 |some n=>
  let#[zJ,dx,t,g1,g2,g3,g4,g5]:=py;rw[h1] at g1;ext g1;have ne:dx≠e:=λz=>by
   let#[o,es,ep,q1,q2,_]:=g3;rw[z,h1] at q1;ext q1;rw[hd] at q2;ext q2
  have I1:=L.inv.Bm g4 g5 (U9 g3);apply#[_,#[oe,vs,hd,c3,dx,ne,g4,rfl],I1.Bm (by rw[aM ne.symm];apply L.fr) L.ap #[h1,M6 h1 h2 λ_ z=>by ext z;apply#[g2,nc]]]
def sS.hq{A:Around}(k:sS H H' a cls aS):tP (A.mark (some (.ref a))) H':=by
 let#[ob,vs,h1,h2,k]:=k;refine .inr #[a,ob,?_];cases aS with
 |none=>subst k;apply#[_,vs,rfl,bI,h1,h2]
 |some n=>let#[dx,_,_,rfl]:=k;apply#[_,vs,rfl,bI,h1,h2]
def sS.same(k:sS H H' a cls aS)(fr:H a=none)(q:H b=some o):H' b=some o:=by
 let#[ob,vs,_,_,k]:=k;cases aS with
 |none=>subst k;rw[aM (cO q fr)];apply q
 |some n=>let#[dx,ne,d,rfl]:=k;rw[aM (cO q fr),aM (cO q d)];apply q
def YH(Iv:Nat->Shared->Prop)
  (turn:∀n s,Iv n s->wpAny (model prog w) A (pyNext it) (λr s1=>match r with
   |none=>R (.ok .next) s1
   | some v=>wpAny (model prog w) A (letOwnedTupleGo tg it v) (λ_ qU=>wpAny (model prog w) A (assign tg env v) (λ_ s2=>
     wpAny (model prog w) A (forIn ifs true λc r=>if r=true then do let ok <- isTrue c env (eval c env);pure (ForInStep.yield ok) else pure (ForInStep.yield r)) (λok s3=>
      if ok=true then wpAny (model prog w) A (eval elt env) (λx s4=>
       wpAny (model prog w) A (call (.builtin "list.append") [acc,x]) (λ_ s5=>∃m,m<n/\Iv m s5) (λ_ _=>False) s4) (λ_ _=>False) s3
      else ∃m,m<n/\Iv m s3) (λ_ _=>False) s2) (λ_ _=>False) qU) (λ_ _=>False) s1) (λ_ _=>False) s)
  (n:Nat) (hn:Iv n s):codeAny (model prog w) A (.compLoop (.ListComp elt [#[tg,iter,ifs,0]] scope pos) 0 it acc env) R s:=by
 have ff:∀{E:Value->Shared->Prop} (x) (s),False->E x s:=λ_ _ f=>f.elim
 refine codeAny_loop rfl Iv (λk s0 hI=>?_) n hn;refine wpAny_noted ?_;rw[compTurn_list];refine aal (wpAny_standAt (aal (ad1 (turn k s0 hI) (λr s1 h1=>?_) ff)));cases r with
 |none=>apply abc h1
 |some v=>
  refine aal (ad1 h1 (λ_ qU ie=>aal (ad1 ie (λ_ s2 h2=>aal (ad1 h2 (λok s3 h3=>?_) ff)) ff)) ff);cases ok with
  |false=>apply abc #[rfl,h3]
  |true=>apply aal (aal (ad1 h3 (λx s4 h4=>aal (ad1 h4 (λ_ s5 h5=>abc (abc #[rfl,h5])) ff)) ff))
def frees(sc:Scope):List Str:=(sc.names.filter λx=>x.2 == .free).map (·.1)
def l9(env:Env):List (Str×NameKind)->List (Str×Addr)->List (Str×Addr)
 |[],cs=>cs
 |(n,k)::r,cs=>l9 env r (if k == .free then(n,(env.cells.lookup n).getD 0)::cs else cs)
def RS(h:∀x∈frees sc,∃c,env.cells.lookup x=some c):closureFor sc env=pure (l9 env sc.names []):=by
 have key:∀(l) (cs),(∀x∈(l.filter λx=>x.2 == .free).map (·.1),∃c,env.cells.lookup x=some c)->
   (forIn l cs λx r=>(do
    let(name,kind):=x
    if kind == .free then do
     let a <- cellOf env name
     pure (ForInStep.yield ((name,a)::r))
    else pure (ForInStep.yield r):Sem (ForInStep (List (Str×Addr)))))=pure (l9 env l cs):=by
  intro l
  induction l with
  |nil=>intro cs _;rfl
  |cons p r ih=>
   let#[n,k]:=p;intro cs h;rw[List.forIn_cons]
   by_cases hk:(k==NameKind.free)=true
   .let#[c,hc]:=h n (by simp[hk]);have Lg:=ih ((n,c)::cs) λx hx=>h x (by simp only[ajk,hk,if_true,aas,aat];apply Or.inr hx)
    have e:cellOf env n=pure c:=by unfold cellOf;rw[hc]
    simp only[hk,if_true,e,pure_bind,l9,hc,ai5];apply Lg
   .have Lg:=ih cs λx hx=>h x (by simp only[ajk,hk];apply hx)
    simp only[hk,l9,aiK,if_false,pure_bind];apply Lg
 unfold closureFor;have k:=key sc.names [] h;simp only[bind_pure] at k ⊢
 first
  |exact k
  |(simp only[pure_bind];apply k)
theorem Pn:∀{l} {cs} {x} {c},(l9 env l cs).lookup x=some c->
  cs.lookup x=some c\/((x,NameKind.free)∈l/\c=(env.cells.lookup x).getD 0)
 |[],_,_,_,h=>.inl h
 |(n,k)::r,cs,x,c,h=>by
  rcases Pn (l:=r) h with q|⟨q,e⟩
  .by_cases hk:(k==NameKind.free)=true
   .rw[if_pos hk,aeU] at q
    by_cases hx:(x==n)=true
    .rw[hx] at q;have e:=eq_of_beq hx;subst e;have hk':k=.free:=by ext k<;>first|rfl|exact absurd hk (by decide)
     subst hk';apply .inr #[aap,(acq q).symm]
    .rw[Bool.not_eq_true] at hx;rw[hx] at q;apply .inl q
   .rw[abm hk] at q;apply .inl q
  .exact .inr #[aao _ q,e]
theorem KY:∀{l} {cs} {x},(∃c,cs.lookup x=some c)\/(x,NameKind.free)∈l->∃c,(l9 env l cs).lookup x=some c
 |[],_,_,h=>h.elim id λz=>nomatch z
 |(n,k)::r,cs,x,h=>by
  refine KY (l:=r) ?_;rcases h with⟨c,h⟩|h
  .left
   by_cases hk:(k==NameKind.free)=true
   .rw[if_pos hk,aeU]
    by_cases hx:(x==n)=true
    .rw[hx];apply#[_,rfl]
    .rw[Bool.not_eq_true] at hx;rw[hx];apply#[c,h]
   .rw[abm hk];apply#[c,h]
  .rcases aat.mp h with e|h
   .left
    ext e;rw[if_pos (by decide),aeU,aij];apply#[_,rfl]
   .exact .inr h
def eE(X:Cx)(N:List Str)(sc:Scope)(s3:Shared)(H3:Hp)(fp:List Addr):Cx:=
 { X with N:=N,cZ:=s3,oY:=H3,env:=compEnvC sc (l9 X.env sc.names []) s3.heap.objs.size X.env,outer:=X.stack,stack:=X.stack,ex:=fp,fn:=λ_=>false,pn:=[],xe:=λ_ _=>False }
def lP(js:List (Option Nat))(U:St):St:=js.map λj=>match j with
 |none=>none
 |some j=>(U[j]?).join
def oO(N:List Str)(sc:Scope):List Str->List (Option Nat)->Bool
 |[],[]=>true
 |x::r,none::js=>oO N sc r js
 |x::r,some j::js=>decide (N[j]? = some x)&&decide (sc.names.lookup x=some .free)&&oO N sc r js
 |_,_=>false
theorem A1:∀{M} {js},oO N sc M js=true->js.length=M.length
 |[],[],_=>rfl
 |_::r,none::js,h=>by
  have:=A1 (js:=js) h;simp[this]
 |_::r,some j::js,h=>by
  unfold oO at h;have:=A1 ((aaF _ _).mp h).2;simp[this]
 |[],_::_,h=>by ext h
 |_::_,[],h=>by ext h
theorem EI:∀{M} {js}{i j:Nat} {x},oO N sc M js=true->M[i]? = some x->js[i]? = some (some j)->N[j]? = some x/\sc.names.lookup x=some .free
 |[],_,_,_,_,_,h,_=>by simp at h
 |_::_,[],_,_,_,h,_,_=>by ext h
 |y::r,none::js,0,j,x,h,h1,h2=>by simp at h2
 |y::r,some q::js,0,j,x,h,h1,h2=>by
  simp at h1 h2;subst h1 h2;unfold oO at h;let#[a,b]:=(aaF _ _).mp ((aaF _ _).mp h).1;apply#[aaY a,aaY b]
 |y::r,none::js,i+1,j,x,h,h1,h2=>EI (js:=js) h (by simpa using h1) (by simpa using h2)
 |y::r,some q::js,i+1,j,x,h,h1,h2=>by
  unfold oO at h;apply EI ((aaF _ _).mp h).2 (by simpa using h1) (by simpa using h2)
structure mh(X:Cx)(M:List Str)(js:List (Option Nat))(sc:Scope):Prop where
 kind:sc.kind=.function
 xK:∀y∈sc.names,y.2≠.cell
 loc:∀y∈sc.names,y.2=.local->sc.names.lookup y.1=some .local
 Ip:oO X.N sc M js=true
 free:∀x∈frees sc,X.env.kindOf x=some .cell\/X.env.kindOf x=some .free
 nd:M.Nodup
def Fy(wi:TI)(js:List (Option Nat))(g:TG)(tt:TT)(te:TE):TE:=λU H Q=>wi U H λJ H1=>∀D,H1 D=none->
 ∃W:Nat->Nat->St->Hp->Prop,(∃m,W 0 m (lP js U) (upd H1 D (.lst [])))/\∀i m aE H',W i m aE H'->
  (J.stop i H'/\Q (.ref D) H')\/(J.go i H'/\∀x H2,J.x9 i H' x H2->g x aE H2 λdD H3=>tt dD H3 λb H4=>
   if b=true then te dD H4 λy H5=>∃xs,H5 D=some (.lst xs)/\xs.length<sizeLine/\∃m',m'<m/\W (i+1) m' dD (upd H5 D (.lst (xs++[y])))
   else ∃m',m'<m/\W (i+1) m' dD H4)
def tE(X:Cx)(ifs:List Expr)(t:TT):Prop:=
 ∀(af) (s) (U) (H) (Q),Inv X af U H s->t U H Q->
  wpAny (model X.prog X.w) X.A (forIn ifs true λc r=>if r=true then do let ok <- isTrue c X.env (eval c X.env);pure (ForInStep.yield ok) else pure (ForInStep.yield r)) (TP X af U Q) X.xe s
def Rb(h:PT X c t):tE X [c] t:=λaf s U H Q I q=>wpAny_tests_one (h af s U H Q I q)
def Inv.comp(S:mh X M js sc)(I:Inv X af U H3 s3)
  (hf:∀b∈fp,iw X af H3 b) (cI:∀b∈fp,b<s3.heap.objs.size) (hn:h'.Ns s3.heap.objs.size λ_=>none) (hk:∀b o,s3.heap.get? b=some o->h'.get? b=some o) :
  Inv (eE X M sc s3 H3 fp) [] (lP js U) H3 { s3 with heap:=h',toks:=tk }:=by
 have cl:∀{x} {c},(l9 X.env sc.names []).lookup x=some c->X.env.cells.lookup x=some c:=λ{x c} e=>by
  rcases Pn e with q|⟨q,e'⟩
  .cases q
  .let#[c',hc]:=I.ok.has x (S.free x (abG.mpr #[(x,.free),ad3.mpr #[q,rfl],rfl]));rw[hc] at e' ⊢;rw[e'];rfl
 have jd:=adJ I.ok.jd I.sz;have lk:∀{x},sc.names.lookup x=some .free->(relabel sc X.env).names.lookup x=some .cell\/(relabel sc X.env).names.lookup x=some .free:=λ{x} e=>by
  have key:∀(l:List (Str×NameKind)),l.lookup x=some .free->(l.map λ(n,k)=>if(k==NameKind.free&&X.env.scope.kind == .function&&X.env.kindOf n==some .cell) then(n,NameKind.cell) else(n,k)).lookup x=some .cell\/
    (l.map λ(n,k)=>if(k==NameKind.free&&X.env.scope.kind == .function&&X.env.kindOf n==some .cell) then(n,NameKind.cell) else(n,k)).lookup x=some .free:=by
   intro l
   induction l with
   |nil=>intro e;ext e
   |cons p r ih=>
    let#[n,k]:=p;intro e;rw[aeU] at e;rw[aas]
    by_cases hx:(x==n)=true
    .rw[hx] at e;have e':=acq e;subst e';dsimp only
     split
     .left;rw[aeU,hx]
     .right;rw[aeU,hx]
    .rw[Bool.not_eq_true] at hx;rw[hx] at e;dsimp only
     split<;>(rw[aeU,hx];apply ih e)
  apply key sc.names e
 have kf:∀{x},((relabel sc X.env).names.lookup x=some .cell\/(relabel sc X.env).names.lookup x=some .free)->(x,NameKind.free)∈sc.names:=λ{x} e=>by
  have key:∀(l:List (Str×NameKind)),(∀y∈l,y.2≠.cell)->((l.map λ(n,k)=>if(k == NameKind.free&&X.env.scope.kind == .function&&X.env.kindOf n == some .cell) then(n,NameKind.cell) else(n,k)).lookup x=some .cell\/
    (l.map λ(n,k)=>if(k==NameKind.free&&X.env.scope.kind == .function&&X.env.kindOf n==some .cell) then(n,NameKind.cell) else(n,k)).lookup x=some .free)->(x,NameKind.free)∈l:=by
   intro l
   induction l with
   |nil=>intro _ e;rcases e with e|e<;>ext e
   |cons p r ih=>
    let#[n,k]:=p;intro nc e;rw[aas] at e
    by_cases hx:(x==n)=true
    .have e0:=eq_of_beq hx;subst e0;have WB:k=.free:=by
      dsimp only at e
      split at e
      .rename_i hc;have:=((aaF _ _).mp ((aaF _ _).mp hc).1).1;ext k<;>first|rfl|exact absurd this (by decide)
      .rw[aeU,aij] at e;rcases e with e|e
       .exact absurd (acq e) (nc _ aap)
       .exact acq e
     rw[WB];apply aap
    .rw[Bool.not_eq_true] at hx;refine aao _ (ih (λy hy=>nc y (aao _ hy)) ?_);dsimp only at e
     split at e<;>(rw[aeU,hx] at e;apply e)
  apply key sc.names S.xK e
 refine#[#[I.ok.mod,S.kind,I.ok.glob,I.ok.blt,aa9 _,λx y c h1 h2=>I.ok.inj x y c (cl h1) (cl h2),λx hx=>KY (.inr (kf hx)),(λx c h _=>by ext h),I.ok.hd,I.ok.frames,.inl rfl,λb hb=>#[acy (cI b hb),λx c e=>(hf b hb).2.2.2.2.1 x c (cl e)],
   I.bs,jd,λb o e hb=>?_,λb hb ya=>?_,I.stack,I.uE],
  rfl,I.bare,Un.kept hk,#[_,hn,λi x v h1 h2 h3=>?_],λx c e=>?_,I.aH.fresh (aa9 _),λx c e=>I.gj x c (cl e),λp hp=>absurd (show p∈([]:List (Addr×Obj)) from hp) (by simp),I.aH.kept hk,?_,I.hq]
 .rcases(hf b hb).2.2.2.1 with z|z
  .exact I.ok.pH b o e z
  .exact absurd (acV (aa5 e) (adJ I.ok.jd z)) (aeM _)
 .rcases aat.mp (I.D4 b ya) with z|z
  .exact(hf b hb).2.1 z
  .exact(hf b hb).2.2.1 z
 .have hlen:=A1 S.Ip;have hi:i<js.length:=by rw[hlen];apply(acN.mp h1).1
  unfold lP at h2;rw[acB,abe hi,Option.map_some] at h2;exists hj,js[i],j,h2;have l7:(U[j]?).join=some v:=acq h2;let#[a,b]:=EI S.Ip h1 (by rw[abe hi,hj]);have hs:U[j]? = some (some v):=by
   exists q,U[j]?,z,l7;rw[show z=some v from l7]
  have oW:=S.free x (abG.mpr #[(x,.free),ad3.mpr #[PySem.mem_of_lookup b,rfl],rfl]);let#[m,hm,hl]:=I.loc;let#[u,ru,l]:=hl j x v a hs (oW.elim (λz=>.inr (.inl z)) λz=>.inr (.inr z));refine#[u,ru,.inr #[lk b,?_]];rcases l with⟨k,_⟩|⟨_,c,e,hc⟩
  .rcases oW with z|z<;>(rw[z] at k;ext k)
  .let#[c',uf]:=KY (.inr (PySem.mem_of_lookup b));have e':=cl uf;rw[e] at e';have e2:=acq e';subst e2;let#[o,ho,hd]:=hc;apply#[c,uf,o,hk _ _ ho,hd]
 .let#[v,o,ho,hd]:=I.cell x c (cl e);apply#[v,o,hk _ _ ho,hd]
 .unfold lP;rw[List.length_map];apply A1 S.Ip
def Inv.RG(I:Inv X af U H3 s3)(hf:∀b∈fp,iw X af H3 b)
  (J:Inv (eE X M sc s3 H3 fp) wV aE H' s') (hs:Heap.SameBut s3.heap.objs.size s'.heap h'):Inv X af U H' { s' with heap:=h' }:=by
 have B:=J.base;have ne:∀{b} {o},s3.heap.get? b=some o->b≠s3.heap.objs.size:=λe=>acy (aa5 e)
 have B':Un (bq X.stack) fp H3 H' s3.heap h':=#[λb o e n hb hx=>(hs.2 b (ne e)).trans (B.keep b o e n hb hx),λb o e n hb hx=>let#[sl,q]:=B.slot b o e n hb hx;#[sl,(hs.2 b (ne e)).trans q],B.free,
  λb o e hx=>let#[o',q]:=B.there b o e hx;#[o',(hs.2 b (ne e)).trans q],B.iM,B.iz,B.jG]
 have fr:H' s3.heap.objs.size=none:=J.free;refine I.NX J.os B' (λb u e=>?_) J.bare λb hb=>#[(hf b hb).2.2.2.1,(hf b hb).2.1,(hf b hb).2.2.2.2.1,(hf b hb).2.2.2.2.2]
 refine(J.aH b u e).fS (λc v hc q=>(hs.2 c ?_).trans q) (λ_ q=>q) λ_ _ q=>q
 rintro rfl
 rcases hc with rfl|hc
 .rw[fr] at e;ext e
 .rw[fr] at hc;ext hc
def NP
  {Q:VK}{RR:Value->Addr->Result->Shared->Prop} (S:mh X M js sc) (hc:X.calm=true\/J.rg=true) (I2:Inv X af U H2 s2) (T:Turn X.prog X.w X.K tg J fp it tn) (st:tn 0 s2.heap) (hf:∀b∈fp,iw X af H2 b)
  (hb:∀s3 H3 fp,PG (eE X M sc s3 H3 fp) tg g/\tE (eE X M sc s3 H3 fp) ifs tt/\PE (eE X M sc s3 H3 fp) elt te)
  (h:∀D,H2 D=none->∃W:Nat->Nat->St->Hp->Prop,(∃m,W 0 m (lP js U) (upd H2 D (.lst [])))/\∀i m aE H',W i m aE H'->
   (J.stop i H'/\Q (.ref D) H')\/(J.go i H'/\∀x H2,J.x9 i H' x H2->g x aE H2 λdD H3=>tt dD H3 λb H4=>
    if b=true then te dD H4 λy H5=>∃xs,H5 D=some (.lst xs)/\xs.length<sizeLine/\∃m',m'<m/\W (i+1) m' dD (upd H5 D (.lst (xs++[y])))
    else ∃m',m'<m/\W (i+1) m' dD H4))
  (hR:∀D s3 H3 s' aE H',Inv X af U H3 s3->(∀b∈fp,iw X af H3 b)->Inv (eE X M sc s3 H3 fp) [] aE H' s'->Q (.ref D) H'->RR (.ref D) s3.heap.objs.size (.ok .next) s') :
  wpAny (model X.prog X.w) X.A (newList []) (λacc AO=>wpAny (model X.prog X.w) X.A (newFunctionEnv sc X.env.globals (l9 X.env sc.names []) [] X.env.qual none .none (some X.env)) (λNg UH=>
   codeAny (model X.prog X.w) X.A (.compStart (.ListComp elt [#[tg,iter,ifs,0]] sc pos) 0 (.ref it) acc { Ng with scope:=relabel sc X.env }) (RR acc Ng.locals) UH) X.xe AO) X.xe s2:=by
 have ZC:=I2.aH.fresh (aa9 _);let#[W,#[m0,w0],turn]:=h _ ZC;have I3:Inv X af U (upd H2 s2.heap.objs.size (.lst [])) { s2 with heap:=s2.heap.push { cls:=.type "list",data:=.seq ([]:List Value).toArray } }:=
  I2.laid (λ_ _ q=>aak _ q) (aa9 _) #[adN _,[],0,.nil,abx _ rfl]
 have EA:∀b∈fp,b<s2.heap.objs.size:=λb hb=>let#[_,e,_]:=T.obj _ _ st b hb;aa5 e
 have Gw:∀b∈fp,iw X af (upd H2 s2.heap.objs.size (.lst [])) b:=λb hb=>#[by rw[aM (acy (EA b hb))];apply(hf b hb).1,(hf b hb).2]
 have hsz:(s2.heap.push { cls:=.type "list",data:=.seq ([]:List Value).toArray }).objs.size=s2.heap.objs.size+1:=aiO ..;refine aeN (wpAny_newFunctionEnv S.xK (λy hy=>nomatch hy) (λh1 hn1 hs1=>?_) S.kind);generalize yf:({ s2 with heap:=s2.heap.push { cls:=.type "list",dict:=none,data:=.seq ([]:List Value).toArray } }:Shared)=s3 at *;have Sb:∀b o,s3.heap.get? b=some o->h1.get? b=some o:=λb o e=>(hs1.2 b (acy (aa5 e))).trans (aak _ e)
 have OD:∀b∈fp,b<s3.heap.objs.size:=λb hb=>by rw[<- yf];show b<(s2.heap.push _).objs.size;rw[hsz];apply ajB (EA b hb)
 have I4:Inv (eE X M sc s3 (upd H2 s2.heap.objs.size (.lst [])) fp) [] (lP js U) (upd H2 s2.heap.objs.size (.lst [])) { s3 with heap:=h1,toks:=s3.toks+([]:List (Str×Value)).length }:=I3.comp S Gw OD hn1 Sb;let#[hg,ht,he]:=hb s3 (upd H2 s2.heap.objs.size (.lst [])) fp;have tS:∀{H'},(∀b∈fp,H' b=none)->∀b∈fp,iw (eE X M sc s3 (upd H2 s2.heap.objs.size (.lst [])) fp) [] H' b:=λ{H'} hn b hb=>
  #[hn b hb,acy (OD b hb),I4.ok.oU b hb,.inl hb,(I4.ok.uu b hb).2,λp hp=>absurd (show p∈([]:List (Addr×Obj)) from hp) (by simp)]
 have Mg:=T.keep _ _ _ st λb hb o e=>Sb b o (by rw[<- yf];apply aak _ e)
 have fr4:∀b∈fp,upd H2 s2.heap.objs.size (.lst []) b=none:=λb hb=>(Gw b hb).1
 have loop:codeAny (model X.prog X.w) X.A (.compLoop (.ListComp elt [#[tg,iter,ifs,0]] sc pos) 0 (.ref it) (.ref s2.heap.objs.size) (compEnvC sc (l9 X.env sc.names []) s3.heap.objs.size X.env)) (RR (.ref s2.heap.objs.size) s3.heap.objs.size)
   { s3 with heap:=h1,toks:=s3.toks+([]:List (Str×Value)).length }:=by
  refine YH (λn s'=>∃i aE H',Inv (eE X M sc s3 (upd H2 s2.heap.objs.size (.lst [])) fp) [] aE H' s'/\tn i s'.heap/\(∀b∈fp,H' b=none)/\W i n aE H') ?_ m0 #[0,_,_,I4,Mg,fr4,w0]
  rintro n s5 ⟨i,Bh,H5,I5,uJ,mz,w5⟩
  rcases turn i n Bh H5 w5 with⟨stop,q⟩|⟨go,step⟩
  .refine cL (T.done (eE X M sc s3 (upd H2 s2.heap.objs.size (.lst [])) fp) rfl rfl rfl hc i [] s5 Bh H5 _ I5 (tS mz) uJ stop) ?_
   rintro r s6 ⟨hr,I6⟩
   subst hr;apply hR _ _ _ _ _ _ I3 Gw I6 q
  .refine cL (T.item (eE X M sc s3 (upd H2 s2.heap.objs.size (.lst [])) fp) rfl rfl rfl hc i [] s5 Bh H5 _ I5 (tS mz) uJ go) ?_
   rintro r s6 ⟨u,hr,h6⟩
   subst hr;refine cL h6 ?_
   rintro _ s7 ⟨x,H7,I7,r7,y7,Ex,WE⟩
   have I7':=I7.pinned (tS WE) (T.obj _ _ Ex);have back:∀{rC} {H8} {s8},Inv (eE X M sc s3 (upd H2 s2.heap.objs.size (.lst [])) fp) ([]++zf fp s7.heap) rC H8 s8->tn (i+1) s8.heap/\(∀b∈fp,H8 b=none):=λ{rC H8 s8} I8=>
    #[T.keep _ _ _ Ex λb hb o e=>(I8.pin (b,o) (aaM _ (aaM _ (B_ hb e)))).1,λb hb=>by
     let#[o,e,_]:=T.obj _ _ Ex b hb;apply(I8.pin (b,o) (aaM _ (aaM _ (B_ hb e)))).2.1]
   refine cL (hg _ s7 Bh H7 x u _ I7' r7 (step x H7 y7)) ?_
   rintro _ s8 ⟨rC,H8,I8,q8⟩
   refine JG (ht _ s8 rC H8 _ I8 q8) λok s9 H9 I9 q9=>?_
   cases ok with
   |false=>
    rw[abm aa3] at q9 ⊢;let#[m',hm,w9]:=q9;let#[a9,b9]:=back I9;apply#[m',hm,i+1,rC,H9,I9.xy,a9,b9,w9]
   |true=>
    rw[if_pos rfl] at q9 ⊢;refine cL (he _ s9 rC H9 _ I9 q9) λy fH hq=>?_
    let#[yv,QH,U0,V1,xs,hD,hz,m',hm,w10]:=hq;refine wH (JH _ fH rC QH (.ref s2.heap.objs.size) [yv] (.ref s2.heap.objs.size) [y] (λv L6=>v=.aI/\L6=upd QH s2.heap.objs.size (.lst (xs++[yv]))) U0 rfl (.cons V1 .nil) #[_,xs,yv,rfl,rfl,hD,hz,rfl,rfl]) λ_ fG v11 L6 Ov _ q=>?_
    let#[_,O_]:=q;subst O_;let#[a9,b9]:=back Ov;apply#[m',hm,i+1,rC,_,Ov.xy,a9,b9,w10]
 apply codeAny_compStart_list loop (T.self _ 0 _ _ _ Mg loop)
def SW{g:TG}(S:mh X M js sc)(hc:X.calm=true)(hi:PI X tg iter wi)
  (hb:∀s3 H3 fp,PG (eE X M sc s3 H3 fp) tg g/\tE (eE X M sc s3 H3 fp) ifs tt/\PE (eE X M sc s3 H3 fp) elt te) (hs:∀x,foldedSetIterable iter X.env x=pure x:=by intro _;rfl) :
  PE X (.ListComp elt [#[tg,iter,ifs,0]] sc pos) (Fy wi js g tt te):=by
 intro af s U H Q I h;rw[eval_ListComp];refine wpAny_comprehension_free rfl hs (RS λx hx=>I.ok.has x (S.free x hx)) S.kind S.loc ?_;refine cL (hi af s U H _ I h) λv s1 h1=>cL h1 λDQ s2 hq=>?_
 let#[it,fp,tn,J,H2,e,I2,T,rJ,f2,h2]:=hq;subst e;refine NP S (.inl hc) I2 T rJ f2 hb h2 λD s3 H3 s' aE H' I3 f3 J' q=>?_
 let#[m,hm,_]:=J'.loc;apply#[m,hm,λh' dG=>#[.ref D,H',I3.RG f3 J' dG,rfl,q]]
def ac4(hN:X.N.Nodup)(hy:X.N[i]? = some y)(hl:X.env.scope.names.lookup y=some .local)
  (S:mh X M js sc) (hc:X.calm=true) (hi:PI X tg iter wi) (hb:∀s3 H3 fp,PG (eE X M sc s3 H3 fp) tg g/\tE (eE X M sc s3 H3 fp) ifs tt/\PE (eE X M sc s3 H3 fp) elt te)
  (kh:swapsWith (.ListComp elt [#[tg,iter,ifs,0]] sc pos) (some (.Name y py)) GZ.line X.env=pure true:=by rfl) (hs:∀x,foldedSetIterable iter X.env x=pure x:=by intro _;rfl) :
  PS X (.Assign [.Name y py] (.ListComp elt [#[tg,iter,ifs,0]] sc pos) GZ) (Gp (Fy wi js g tt te) (tQ i)):=by
 intro af s U H D I h;rw[exec_Assign_Name_used _ _ _ _ kh];refine aal (wpAny_standAt (aal ?_));refine aal (ad1 (wpAny_comprehension_free rfl hs (RS λx hx=>I.ok.has x (S.free x hx)) S.kind S.loc ?_) (λ_ s' q=>abc (abc q)) λ_ _ e=>e);refine cL (hi af s U H _ I h) λv s1 h1=>cL h1 λDQ s2 hq=>?_
 let#[it,fp,tn,J,H2,e,I2,T,rJ,f2,h2]:=hq;subst e;refine NP (Q:=λx H1=>tQ i x U H1 D.nx) S (.inl hc) I2 T rJ f2 hb h2 λDa s3 H3 s' aE H' I3 f3 J' q=>?_
 have sb:Heap.SameBut s3.heap.objs.size s'.heap s'.heap:=#[rfl,λ_ _=>rfl]
 have I5:=I3.RG f3 J' sb;let#[m,hm,_]:=J'.loc;have ne:=acy I3.lt;refine wpAny_assign_Name (Pw I5 hN hy (.inl hl) (show RelV (.ref Da) (.ref Da) from rfl) (λs6 I6 #[a,GW,ha]=>?_) (.inr hl));have jK:∀x c,X.env.cells.lookup x=some c->c≠s3.heap.objs.size:=λx c e=>by
  let#[v',mU]:=I3.cell x c e;apply acy mU.lt
 have na:=ha.elim (λe=>by rw[e];apply ne) λz=>jK y a z
 refine#[m,hm.sameBut GW (afW na),λh' dG=>#[_,H',I6.turned (λb o hb e=>(dG.2 b hb).trans e) J'.free (afW ne) (.inr I3.sz) jK (λp hp=>?_),q]];apply acy (aa5 (I3.pin p hp).1)
def aeY:typeLookup (.type "dict") "__len__"=pure (some (.builtin "dict.__len__")):=by rw[typeLookup_type,builtinLookup_eq_fast];kernel_rfl
section
variable{prog:Program}{w:World}{A:Around}{E:Value->Shared->Prop}{s:Shared}
def aa0{κ:Type}[DecidableEq κ]{knd:KeyKind prog w κ}{ak:List (κ×Value)}{Q:List Value->Shared->Prop}(hh:A.handled=none)(hd:(d==sysModules)=false)(hm:s.heap.DictOf knd d ak)(hz:ak.length<=sizeLine)
  (hQ:∀s' acc,s.heap.objs.size<=s'.heap.objs.size->(∀b o,s.heap.get? b=some o->s'.heap.get? b=some o)->s'.gens=s.gens->s'.drawn=s.drawn->s'.os=s.os->ItemsOf (λi v=>∃k x,ak[i]? = some (k,x)/\knd.is k v=true) acc ak.length->Q acc.toList s') :
  wpAny (model prog w) A (collect (.ref d)) Q E s:=by
 let#[ep,hm]:=hm.dictAt;have cI:=hm.lt_size;unfold collect;refine aal (wpAny_runValue (afR F.entry_proto_collect ?_));rw[afb F.plain_proto_collect _];refine aal (aeN ?_);refine abc #[aiL F.plain_list_iadd _,afR F.entry_list_iadd ?_];rw[afb F.plain_list_iadd _];have pF:=hm.push { cls:=.type "list",data:=.seq ([]:List Value).toArray };have Wn:({ s with heap:=s.heap.push { cls:=.type "list",data:=.seq ([]:List Value).toArray } }:Shared).TypeIs (.ref d) "dict":=pF.dictOf.typeIs;show wpAny (model prog w) A.in1 (Builtin.List.listExtendWith (.ref s.heap.objs.size) (.ref d) (.ref s.heap.objs.size)) _ _ _;unfold Builtin.List.listExtendWith;refine aal (aja Wn ?_);have h1:Builtin.List.listSameRef (.ref s.heap.objs.size) (.ref d)=false:=by simp[Builtin.List.listSameRef,agF cI]
 have h2:(Value.type "dict" == Value.type "list")=false:=by decide
 have h3:(Value.type "dict" == Value.type "tuple")=false:=by decide
 simp only[h1,h2,h3,Bool.or_false,aiK,if_false];refine aal (wpAny_pyIter_dict hd pF ?_);refine aal (afy ?_);have nv:=pF.push { cls:=.type "dict_keyiterator",data:=.fields ([.ref d,.int 0 0,.int ak.length 0,.int ep 0].toArray) };have GR:({ s with heap:=(s.heap.push { cls:=.type "list",data:=.seq ([]:List Value).toArray }).push { cls:=.type "dict_keyiterator",data:=.fields ([.ref d,.int 0 0,.int ak.length 0,.int ep 0].toArray) } }:Shared).TypeIs (.ref d) "dict":=nv.dictOf.typeIs;unfold Builtin.List.listLengthHint;refine aal (wpAny_specialOf GR aeY ?_);generalize Jd:("dict.__len__":String)=NH
 (fail_if_success (clear Jd NH))
 wp_delta
 rw[show splitId NH=some ("dict","__len__") from by subst Jd;decide +kernel];subst Jd;refine aal (wpAny_isInstance (b:=true) GR (by rw[isSubtype_type];kernel_rfl) ?_);refine aal (aja GR ?_);refine abc ?_;refine aal (ajy ?_);have hsz:(s.heap.push { cls:=.type "list",data:=.seq ([]:List Value).toArray }).objs.size=s.heap.objs.size+1:=aiO ..;generalize sG:s.heap.push { cls:=.type "list",data:=.seq ([]:List Value).toArray }=h1 at *;have Zn:h1.get? s.heap.objs.size=some { cls:=.type "list",data:=.seq ([]:List Value).toArray }:=by rw[<- sG];apply abx _ rfl
 have aab:∀b o,s.heap.get? b=some o->h1.get? b=some o:=λb o e=>by rw[<- sG];apply aak _ e
 dsimp only;have WI:(h1.push { cls:=.type "dict_keyiterator",data:=.fields ([.ref d,.int 0 0,.int ak.length 0,.int ep 0].toArray) }).get? h1.objs.size=some { cls:=.type "dict_keyiterator",data:=.fields ([.ref d,.int 0 0,.int ak.length 0,.int ep 0].toArray) }:=abx _ rfl;have PM:(h1.push { cls:=.type "dict_keyiterator",data:=.fields ([.ref d,.int 0 0,.int ak.length 0,.int ep 0].toArray) }).get? s.heap.objs.size=some { cls:=.type "list",data:=.seq ([]:List Value).toArray }:=aak _ Zn;have Wb:∀b o,s.heap.get? b=some o->(h1.push { cls:=.type "dict_keyiterator",data:=.fields ([.ref d,.int 0 0,.int ak.length 0,.int ep 0].toArray) }).get? b=some o:=λb o e=>aak _ (aab b o e)
 generalize hh2:h1.push { cls:=.type "dict_keyiterator",data:=.fields ([.ref d,.int 0 0,.int ak.length 0,.int ep 0].toArray) }=h2 at *;have LZ:s.heap.objs.size≠h1.objs.size:=by rw[hsz];apply acy (aid _)
 have NJ:=agF cI;have UY:d≠h1.objs.size:=by rw[hsz];apply acy (ajB cI)
 refine aal ?_;refine aal (aju PM rfl ?_);have QM:=ag5 (Obj.mapSeq (·.push Value.none)) PM rfl;refine aju QM rfl ?_;have WD:=ag5 (Obj.mapSeq (·.pop)) QM rfl;have Eo:∀b o,b≠s.heap.objs.size->h2.get? b=some o->((h2.update s.heap.objs.size (Obj.mapSeq (·.push Value.none))).update s.heap.objs.size (Obj.mapSeq (·.pop))).get? b=some o:=
  λb o hb e=>(aeI _ _ (afW hb)).trans ((aeI _ _ (afW hb)).trans e)
 have W:=(Walks.dictKeys (A:=A.in1) (knd:=knd) hh h1.objs.size d UY ak ep).toS;refine abc #[aiL F.plain_extend_loop _,codeAny_extend_loopS W hz s.heap.objs.size (by simp;apply#[LZ,NJ]) _ ak.length 0 _ _ _ rfl (adN _) ?_ WD (ItemsOf.nil _) λs' agZ c' A3 wB nX=>?_]
 .exact#[#[_,Eo _ _ (afW LZ) WI,rfl,rfl],nv.at' λo e=>Eo _ _ (afW NJ) e]
 .show wpAny (model prog w) A (load s.heap.objs.size >>= _) _ _ s';refine aal (wpAny_load wB ?_);refine abc (hQ s' agZ (agc (aa5 wB)) (λb o e=>?_) A3.gens A3.drawn A3.os nX);have hb:=aa5 e;refine A3.heap b o ?_ (Eo b o (acy hb) (Wb b o e));intro m;rcases aat.mp m with z|z
  .exact absurd hb (by rw[z];apply aeM _)
  .have z:=aaK.mp z;rw[hsz] at z;apply absurd hb (by rw[z];apply Nat.not_lt.mpr (af1 _))
def acn{x:Value}{Q:Value->Shared->Prop}(hc:∀(Q':List Value->Shared->Prop),(∀vs s',(∃ns,IntsAre vs ns/\∀(out:Array Value) (eY:List Int),IntsAre out.toList eY->eY.Perm ns->eY.Pairwise (·<=·)->
    Q (.ref s'.heap.objs.size) { s' with heap:=sortedHeap (s'.heap.push (seqObj "list" vs.toArray 0)) s'.heap.objs.size vs out })/\vs.length<64->Q' vs s')->wpAny (model prog w) A.in1 (collect x) Q' E s):wpAny (model prog w) A (call (.builtin "sorted") [x]) Q E s:=by
 refine call_function_tree kind_sorted plain_sorted entry_sorted (args_sorted1 _) ?_;unfold Builtin.«sorted»;refine aal (abc ?_);refine aal (hc _ ?_)
 rintro vs s' ⟨⟨ns,hI,h⟩,lG⟩
 refine aal (wpAny_newList ?_);have CB:(s'.heap.push (seqObj "list" vs.toArray 0)).get? s'.heap.objs.size=some (seqObj "list" vs.toArray 0):=abx _ rfl;refine aal (afy (ah3 slot_list_sort #[_,CB,rfl] entry_list_sort (list_sort_tree CB hI lG λout eY a1 a2 a3=>#[_,rfl,?_]) (args_list_sort _)));apply abc (h out eY a1 a2 a3)
end
section
variable{X:Cx}
theorem Q3:∀{ks:List Int}{ak:List (Key×Value)}{vs:List Value},ak.map (·.1)=ks.map Sum.inl->vs.length=ak.length->(∀(i:Nat) v,vs[i]? = some v->∃k x,ak[i]? = some (k,x)/\(fQ P w).is k v=true)->IntsAre vs ks
 |[],[],vs,_,hl,_=>by cases vs with
  |nil=>apply .nil
  |cons _ _=>simp at hl
 |[],_::_,_,e,_,_=>by simp at e
 |_::_,[],_,e,_,_=>by simp at e
 |k::ks,(q,x)::ak,vs,e,hl,h=>by
  simp only[aas,agA] at e;let#[rfl,e]:=e;cases vs with
  |nil=>simp at hl
  |cons v vs=>
   let#[k',x',e0,hk]:=h 0 v rfl;have e0':=acq e0;ext e0';rcases l_ (show uh (Sum.inl k) v=true from hk) with⟨i,t,e1,e2⟩|⟨y,t,e1,e2⟩
   .cases e1;subst e2;apply .cons k t (Q3 e (by simpa using hl) λi v hv=>h (i+1) v (by simpa using hv))
   .cases e1
def LK(K:Fr):List V->Hp->VK->Prop:=λxs H Q=>∃(p:Addr) (ks:List Int),xs=[.ref p]/\ks.length<64/\((∃ak:List (Key×V),H p=some (.dK ak)/\ak.map (·.1)=ks.map Sum.inl)\/ck K H p (ks.map V.int))/\
 ∀(l:Addr) (oK:List Int),H l=none->oK.Perm ks->oK.Pairwise (·<=·)->Q (.ref l) (upd H l (.lst (oK.map V.int)))
def ahu(hc:X.calm=true):gO X (.builtin "sorted") (LK X.K):=by
 intro af s U H xs us Q I r h;let#[p,ks,rfl,lG,IC,q]:=h;let#[u,rfl,ru]:=vals1 r;ext ru;have fin:∀(vs:List Value) (s':Shared),s.heap.objs.size<=s'.heap.objs.size->(∀b o,s.heap.get? b=some o->s'.heap.get? b=some o)->s'.gens=s.gens->s'.drawn=s.drawn->s'.os=s.os->∀(out:Array Value) (eY:List Int),IntsAre out.toList eY->eY.Perm ks->eY.Pairwise (·<=·)->
   EP X af U Q (.ref s'.heap.objs.size) { s' with heap:=sortedHeap (s'.heap.push (seqObj "list" vs.toArray 0)) s'.heap.objs.size vs out }:=by
  intro vs s' hle hk e1 e2 e3 out eY a1 a2 a3;let#[h',g',d',t',o']:=s';dsimp only at e1 e2 e3 hk hle;subst e1 e2 e3;let#[e,he]:=sortedHeap_at (show(h'.push (seqObj "list" vs.toArray 0)).get? h'.objs.size=some (seqObj "list" vs.toArray 0) from abx _ rfl);have hlen:eY.length<64:=by rw[a2.length_eq];apply lG
  refine#[.ref h'.objs.size,upd H h'.objs.size (.lst (eY.map V.int)),I.laid (λb o eb=>?_) hle ?_,rfl,q _ eY (I.aH.fresh hle) a2 a3]
  .have hb:b<h'.objs.size:=aa5 (hk b o eb);rw[sortedHeap_old (acy hb) (by rw[aiO];apply ajB hb)];apply aak _ (hk b o eb)
  .exact#[by rw[List.length_map];apply agc (Co (by omega)),out.toList,e,La a1,by rw[he]]
 have hh:X.A.handled=none:=I.ok.hd hc;refine acn λQ' LM=>?_
 rcases IC with⟨ak,hp,hk⟩|hp
 .let#[hz,hd,vs,rel,dd]:=Nx I.aH hp;refine aa0 hh hd dd (by rw[<- rel.length];apply hz) λs' acc hle kp e1 e2 e3 it=>LM _ s' #[#[ks,?_,λout eY a1 a2 a3=>fin _ s' hle kp e1 e2 e3 out eY a1 a2 a3],?_]
  .refine Q3 (by rw[<- rel.keys];apply hk) (by rw[ae9];apply it.1) λi v hv=>it.2 i v (by rw[<- Array.getElem?_toList];apply hv)
  .rw[ae9,it.1,<- rel.length];have:=congrArg List.length hk;rw[List.length_map,List.length_map] at this;omega
 .let#[aA,rv,pl,hz]:=I.list hp;have hi:=intsAre_of rv;have k1:s.heap.objs.size<=((s.heap.push (seqObj "list" ([].toArray) 0)).update s.heap.objs.size (Obj.mapSeq (·++aA.toArray))).objs.size:=by
   rw[Heap.size_update,aiO];apply af1 _
  have k2:∀b o,s.heap.get? b=some o->((s.heap.push (seqObj "list" ([].toArray) 0)).update s.heap.objs.size (Obj.mapSeq (·++aA.toArray))).get? b=some o:=λb o e=>
   (aeI _ _ (agF (aa5 e))).trans (aak _ e)
  refine collect_list pl.isList (LM _ _ #[#[ks,hi,λout eY a1 a2 a3=>fin aA { s with heap:=(s.heap.push (seqObj "list" ([].toArray) 0)).update s.heap.objs.size (Obj.mapSeq (·++aA.toArray)) } k1 k2 rfl rfl rfl out eY a1 a2 a3],?_]) (by rw[<- rv.length];apply hz);rw[<- rv.length,List.length_map];apply lG
end
def aeE(a d:Value):argsOk "min" #[[a],[("default",d)]]:=by unfold argsOk;kernel_rfl
def DO:(toString "min"++toString ".loop":String)="min.loop":=by decide
def ahv(W:Walks prog w A.in1 it cP jr n P T)(bt:Nat->Nat->Bool)(Kg:CmpOf prog w A.in1 .Lt P bt)(kw:List (Str×Value))(B:Addr)(hB:B∉cP):
  ∀(k j) (s) (vb) (c),n-(j+1)=k->j+1<=n->T (j+1) s.heap->P (argBest bt j) vb->s.heap.get? B=some { cls:=.type "list",dict:=none,data:=.seq ([vb,vb].toArray) c,slots:=([].toArray) }->
   (∀v h' tk,P (argBest bt (n-1)) v->(∀b o,b∉jr->b≠B->s.heap.get? b=some o->h'.get? b=some o)->R (.ok (.ret v)) { s with heap:=h',toks:=tk })->
   codeAny (model prog w) A (.builtin "min.loop" #[[.ref it,.none,.ref B],kw]) R s:=by
 have nB:B∉jr:=λm=>hB (W.sub _ m)
 intro k
 induction k with
 |zero=>
  intro j s vb c e1 e2 st pb gB fin;have en:j+1=n:=by omega
  refine afR F.entry_min_loop ?_;rw[afb air _];refine aal (ag0 gB rfl ?_);refine aal (ajf (W.done s _ _ (en ▸ st) λh1 t1 kp=>?_));have qt:=kp B _ nB gB;refine aal (aju qt rfl (aal (ajC (abc ?_))));apply fin vb _ t1 (by rw[<- en];apply pb) λb o m1 m2 e=>(aeI _ _ (afW m2)).trans (kp b o m1 e)
 |succ k ih=>
  intro j s vb c e1 e2 st pb gB fin;have lt:j+1<n:=by omega
  refine afR F.entry_min_loop ?_;rw[afb air _];refine aal (ag0 gB rfl ?_);refine aal (ajf (W.item (j+1) s _ _ lt st λv h1 t1 pv vM kp=>?_));have qt:=kp B _ nB gB;show wpAny (model prog w) A.in1 (tryCatch (holding [v,v] (richCompare .Lt v vb >>= _)) _ >>= _) _ _ _;refine aal (ajf (afy (aal (Kg (j+1) (argBest bt j) v vb _ _ _ pv pb ?_))));refine aal (afy (afC (aal (ajC (abc ?_)))));cases hb:bt (j+1) (argBest bt j) with
  |true=>
   simp only[if_true];refine aal (aju qt rfl (aal (ajC ?_)));rw[DO];refine abc #[aiL air _,ih (j + 1) _ v _ (by omega) lt (W.frame _ _ _ vM λb m o e=>(aeI _ _ (λz:B=b=>hB (by rw[z];apply m))).trans e)
    (by simp only[argBest,hb,if_true];apply pv) (ag5 _ qt rfl) λv2 h2 t2 p2 k2=>?_]
   apply fin v2 h2 t2 p2 λb o m1 m2 e=>k2 b o m1 m2 ((aeI _ _ (afW m2)).trans (kp b o m1 e))
  |false=>
   simp only[aiK,if_false];refine aal (ajC ?_);rw[DO];refine abc #[aiL air _,ih (j+1) _ vb c (by omega) lt vM (by simp only[argBest,hb,aiK,if_false];apply pb) qt λv2 h2 t2 p2 k2=>?_];apply fin v2 h2 t2 p2 λb o m1 m2 e=>k2 b o m1 m2 (kp b o m1 e)
def af9(W:Walks prog w A.in1 it cP jr n P T)(bt:Nat->Nat->Bool)(Kg:CmpOf prog w A.in1 .Lt P bt)(key:Str)(dv:Value)(B:Addr)(hB:B∉cP){s:Shared}{c:Nat}(st:T 0 s.heap)
  (gB:s.heap.get? B=some { cls:=.type "list",dict:=none,data:=.seq ([].toArray) c,slots:=([].toArray) })
  (fin:∀v h' tk,(n=0/\v=dv\/0<n/\P (argBest bt (n-1)) v)->(∀b o,b∉jr->b≠B->s.heap.get? b=some o->h'.get? b=some o)->R (.ok (.ret v)) { s with heap:=h',toks:=tk }) :
  codeAny (model prog w) A (.builtin "min.loop" #[[.ref it,.none,.ref B],[(key,dv)]]) R s:=by
 have nB:B∉jr:=λm=>hB (W.sub _ m)
 refine afR F.entry_min_loop ?_;rw[afb air _];refine aal (ag0 gB rfl ?_)
 by_cases hn:0<n
 .refine aal (ajf (W.item 0 s _ _ hn st λv h1 t1 pv vM kp=>?_));have qt:=kp B _ nB gB;show wpAny (model prog w) A.in1 (updateSeq B (λ_=>([v,v].toArray)) >>= _) _ _ _;refine aal (aju qt rfl ?_);rw[DO];refine abc #[aiL air _,ahv W bt Kg _ B hB _ 0 _ v _ rfl hn (W.frame _ _ _ vM λb m o e=>(aeI _ _ (λz:B=b=>hB (by rw[z];apply m))).trans e) pv (ag5 _ qt rfl) λv2 h2 t2 p2 k2=>?_];apply fin v2 h2 t2 (.inr #[hn,p2]) λb o m1 m2 e=>k2 b o m1 m2 ((aeI _ _ (afW m2)).trans (kp b o m1 e))
 .have en:n=0:=by lia
  refine aal (ajf (W.done s _ _ (en ▸ st) λh1 t1 kp=>?_));apply aal (ajy (abc (fin dv h1 t1 (.inl #[en,rfl]) λb o m1 _ e=>kp b o m1 e)))
def afq{id:String}{b:Builtin}{kw:List (Str×Value)}(hk:builtinKind id=none)(hp:plainId id=true)(hb:entryFor table id=some b)(ha:argsOk id #[args,kw])
  (hc:wpAny (model prog w) A.in1 (b #[args,kw]) (λfin s'=>match fin with
   |.done f=>(match(Except.ok f:Result) with|.ok (.ret v)=>Q v s'|.ok _=>False|.error e=>E e s')
   |.again c=>c.quiet=true/\codeAny (model prog w) A c (λr s'=>match r with|.ok (.ret v)=>Q v s'|.ok _=>False|.error e=>E e s') s') E s):wpAny (model prog w) A (call (.builtin id) args kw) Q E s:=by
 refine wpAny_call (codeAny_call_builtin hp hb ?_);simp only[checkBuiltinCall,hk];cases agQ:Manifest.signature? id with
 |none=>apply abc hc
 |some sig=>
  have h2:Bind.checkArgs id sig #[args,kw]=pure ():=by simpa only[argsOk,agQ] using ha
  simp only[h2];apply abc hc
theorem Om:∀{vs} {ns} {i} {v},IntsAre vs ns->vs[i]? = some v->∃t,v=Value.int (ns.getD i 0) t
 |_,_,_,_,.nil,e=>by simp at e
 |_,_,0,_,.cons n t h,e=>by
  have e':=acq e;subst e';apply#[t,rfl]
 |_,_,i+1,v,.cons n t h,e=>by
  let#[u,eu]:=Om h (by simpa using e);apply#[u,by simpa using eu]
def ady{ns:List Int}(h:i<ns.length):ns.getD i 0∈ns:=by
 rw[adv,abe h];apply List.getElem_mem h
def Ys{l:Addr}{vs:List Value}{ns:List Int}{dv:Value}{Q:Value->Shared->Prop}(hh:A.handled=none)(hl:s.heap.IsList l vs.toArray)(hi:IntsAre vs ns)
  (fin:∀v h' tk,(ns=[]/\v=dv\/∃m t,v=.int m t/\m∈ns/\∀x∈ns,m<=x)->(∀b o,s.heap.get? b=some o->h'.get? b=some o)->Q v { s with heap:=h',toks:=tk }) :
  wpAny (model prog w) A (call (.builtin "min") [.ref l] [("default",dv)]) Q E s:=by
 refine afq F.kind_min F.plain_min F.entry_min (aeE _ _) ?_;refine aal (wpAny_of_eq (show Builtin.Builtins.bindParams "min" ["key","default"] 0 #[[],[("default",dv)]]=pure [none,some dv] from rfl) ?_);refine aal (abc (aal (wpAny_pyIter_list hl ?_)));refine aal (aeN ?_);rw[DO];have ON:l<s.heap.objs.size:=let#[_,ho,_]:=hl;aa5 ho
 have hsz:(s.heap.push { cls:=.type "list_iterator",data:=.fields ([.ref l,.int 0 0].toArray) }).objs.size=s.heap.objs.size+1:=aiO ..;have hv:∀(i) (v),vs.toArray[i]? = some v->∃t,v=Value.int (ns.getD i 0) t:=λi v e=>Om hi (by simpa using e)
 have hlen:=hi.length;generalize sG:s.heap.push { cls:=.type "list_iterator",data:=.fields ([.ref l,.int 0 0].toArray) }=h1 at *;have g1:h1.get? s.heap.objs.size=some { cls:=.type "list_iterator",data:=.fields ([.ref l,.int 0 0].toArray) }:=by rw[<- sG];apply abx _ rfl
 have old:∀b o,s.heap.get? b=some o->h1.get? b=some o:=λb o e=>by rw[<- sG];apply aak _ e
 have nl:=acy ON;have W:=Walks.list (prog:=prog) (w:=w) (A:=A.in1.in1) hh s.heap.objs.size l nl vs.toArray;have hB:h1.objs.size∉[s.heap.objs.size,l]:=by
  intro m;rcases aat.mp m with z|z
  .rw[hsz] at z;apply absurd z (agF (aid _))
  .have z:=aaK.mp z;rw[hsz] at z;apply absurd z (agF (ajB ON))
 refine abc #[aiL air _,af9 W.of_in1 (λi j=>decide (ns.getD i 0<ns.getD j 0)) (CmpOf.ints_lt (λi=>ns.getD i 0) hv) _ dv h1.objs.size hB ?_ (abx _ rfl) λv h' tk Bf kp=>?_]
 .exact#[#[_,aak _ g1,rfl,rfl],hl.at λo e=>aak _ (old l o e)]
 .refine fin v h' tk ?_ λb o e=>kp b o ?_ ?_ (aak _ (old b o e))
  .have bS:vs.toArray.size=ns.length:=by rw[ab0,hlen]
   rw[bS] at Bf;rcases Bf with⟨h0,e⟩|⟨h0,pv⟩
   .exact .inl #[List.eq_nil_of_length_eq_zero h0,e]
   .let#[t,e]:=hv _ v pv;let#[a1,a2]:=argBest_lt (λi=>ns.getD i 0) (ns.length-1);refine .inr #[_,t,e,ady (by omega),λx hx=>?_];let#[j,hj,rfl]:=List.getElem_of_mem hx;have:=a2 j (by omega);rw[show ns[j]=ns.getD j 0 by rw[adv,abe hj];rfl];apply this
  .intro m;apply absurd (aa5 e) (by rw[aaK.mp m];apply aeM _)
  .intro z;apply absurd (aa5 e) (by rw[z,hsz];apply Nat.not_lt.mpr (af1 _))
def Z0(K:Fr)(ta td:TE):TE:=λU H Q=>ta U H λx H1=>td U H1 λy H2=>∃(l:Addr) (ns:List Int),x=.ref l/\ck K H2 l (ns.map V.int)/\((ns=[]/\Q y H2)\/ns≠[]/\∀m,m∈ns->(∀n∈ns,m<=n)->Q (.int m) H2)
def acY{b:Expr}{kp:Pos}(hc:X.calm=true)(hm:X.mg "min"=none)(ha:PE X a ta)(hb:PE X b td)(hg:Gl X "min":=by rfl)(hs:starEach [a] X.env=[(false,eval a X.env)]:=by rfl)
  (h1:backTo pos (starEach [a] X.env)=(false,eval a X.env)::backTo pos (starEach [] X.env):=by rfl) (h2:(backTo pos (starEach [a] X.env)).any (·.1)=false:=by rfl)
  (h3:(backToKw pos (keywordEach [#[some "default",b,kp]] X.env)).all (·.1.isSome)=true:=by rfl) (h4:(backToKw pos (keywordEach [#[some "default",b,kp]] X.env)).any (·.1.isNone)=false:=by rfl)
  (h5:(backToKw pos (keywordEach [#[some "default",b,kp]] X.env)).filterMap (·.1)=[("default":Str)]:=by rfl) :
  PE X (.Call (.Name "min" p) [a] [#[some "default",b,kp]] pos) (Z0 X.K ta td):=by
 intro af s U H Q I h;refine afo (nZ I hg hm (show bootBuiltins "min"=some (.builtin "min") by decide +kernel) ?_ (by decide) (by decide));refine callWith_kw ?_ h1 h2 h3 h4;rw[h5];refine tU (eO ha f7 hs pos af s U H (λvs H1=>match vs with|[x]=>td U H1 λy H2=>∃(l:Addr) (ns:List Int),x=.ref l/\ck X.K H2 l (ns.map V.int)/\((ns=[]/\Q y H2)\/ns≠[]/\∀m,m∈ns->(∀n∈ns,m<=n)->Q (.int m) H2)|_=>False) I h) λus s1 vs H1 I1 rv q1=>?_
 rcases vs with _|⟨x,_|⟨x2,r2⟩⟩
 .exact q1.elim
 .let#[u,rfl,ru]:=vals1 rv;refine kws_cons (cL (hb af s1 U H1 _ I1 q1) ?_)
  rintro dv s2 ⟨y,H2,I2,ry,l,ns,ex,hq,q2⟩
  refine kws_nil ?_;subst ex;ext ru;let#[aA,ri,pl,hz]:=I2.list hq;refine Ys (I2.ok.hd hc) pl.isList (intsAre_of ri) λv h' tk Bf kp=>?_
  rcases Bf with⟨en,ev⟩|⟨m,t,ev,pF,nv⟩
  .subst ev;rcases q2 with⟨_,q2⟩|⟨ne,_⟩
   .exact#[y,H2,I2.kept kp,ry,q2]
   .exact absurd en ne
  .subst ev;rcases q2 with⟨en,_⟩|⟨_,q2⟩
   .rw[en] at pF;ext pF
   .exact#[.int m,H2,I2.kept kp,#[t,rfl],q2 m pF nv]
 .exact q1.elim
end L2
namespace PySem
def YF:typeLookup (.type "list") "keys"=pure none:=by rw[typeLookup_type,builtinLookup_eq_fast];kernel_rfl
def aeg:typeLookup (.type "tuple") "keys"=pure none:=by rw[typeLookup_type,builtinLookup_eq_fast];kernel_rfl
def Vh(hx:s.heap.get? a=some { cls:=.type "list",dict:=none,data:=.seq xs k,slots:=sl })(hA:A.handled=none)
  (h:∀h' tk,(∀b o,s.heap.get? b=some o->h'.get? b=some o)->Q none { s with heap:=h',toks:=tk }):wpAny (model prog w) A (getAttr? (.ref a) "keys") Q E s:=by
 let#[hp,g,d,tk,os]:=s;have hT:∀tO,(#[hp,g,d,tO,os]:Shared).TypeIs (.ref a) "list":=λ_=>#[_,hx,rfl]
 have f1:=sub_AttributeError;have f3:=F.slot_list_getattribute.lookup;have f4:=F.slot_list_getattribute.bind (.ref a);have f5:=am_list_getattr_none;unfold getAttr? getAttrBy? getAttrBy
 repeat (any_goals (first|assumption|exact hT _|((with_reducible show wpAny _ _ (call (Value.builtin "list.__getattribute__") _ _) _ _ _);refine call_meets F.slot_list_getattribute (hT _) am_entry_list_getattribute (F.args_list_getattribute_2 _ _) (meets_getattribute_miss_list a xs k sl "keys" _ YF (by decide +kernel)) #[hx,hA,λh' tO e xh=>?_])|wp_step))
 let#[t',u',he]:=xh.there;unfold getattributeRaised
 repeat (any_goals (first|assumption|wp_step))
 all_goals apply h _ _ xh.keeps
def ac9(hx:s.heap.get? a=some { cls:=.type "tuple",dict:=none,data:=.seq xs k,slots:=sl })(hA:A.handled=none)
  (h:∀h' tk,(∀b o,s.heap.get? b=some o->h'.get? b=some o)->Q none { s with heap:=h',toks:=tk }):wpAny (model prog w) A (getAttr? (.ref a) "keys") Q E s:=by
 let#[hp,g,d,tk,os]:=s;have hT:∀tO,(#[hp,g,d,tO,os]:Shared).TypeIs (.ref a) "tuple":=λ_=>#[_,hx,rfl]
 have f1:=sub_AttributeError;have f3:=F.slot_tuple_getattribute.lookup;have f4:=F.slot_tuple_getattribute.bind (.ref a);have f5:=am_tuple_getattr_none;unfold getAttr? getAttrBy? getAttrBy
 repeat (any_goals (first|assumption|exact hT _|((with_reducible show wpAny _ _ (call (Value.builtin "tuple.__getattribute__") _ _) _ _ _);refine call_meets F.slot_tuple_getattribute (hT _) am_entry_tuple_getattribute (F.args_tuple_getattribute_2 _ _) (meets_getattribute_miss_tuple a xs k sl "keys" _ aeg (by decide +kernel)) #[hx,hA,λh' tO e xh=>?_])|wp_step))
 let#[t',u',he]:=xh.there;unfold getattributeRaised
 repeat (any_goals (first|assumption|wp_step))
 all_goals apply h _ _ xh.keeps
end PySem
namespace L2
open PySem PySem.Spec PyProof.Rows
def Ca:plainId "dict.update.loop"=true:=by decide +kernel
def Su:entryFor table "dict.update.loop"=some Builtin.«dict.update.loop»:=entryFor_of_fast (by kernel_rfl)
def pairAt{prog:Program}{w:World}{κ:Type}[DecidableEq κ](knd:KeyKind prog w κ)(h:Heap)(no:List Addr)(v:Value)(p:κ×Value):Prop:=∃a key,v=.ref a/\a∉no/\IsTup h a ([key,p.2].toArray)/\knd.is p.1 key=true
section
variable[DecidableEq κ]{knd:KeyKind prog w κ}
def Z9(W:Walks prog w A.in1 it cP jr n P T)(hd:d∉cP)(h0:Heap)(ps:List (κ×Value))(hn:ps.length=n)(hP:∀i v,P i v->∃p,ps[i]? = some p/\pairAt knd h0 (d::jr) v p)(res:Value):
  ∀(k i) (s) (m) (IG),n-i=k->i<=n->T i s.heap->s.heap.DictOf knd d m->m.length+(n-i)<=sizeLine->(∀b o,b∉d::jr->h0.get? b=some o->s.heap.get? b=some o)->
   (∀h' tk,h'.DictOf knd d ((ps.drop i).foldl (λm p=>stored m p.1 p.2) m)->(∀b o,b∉d::jr->h0.get? b=some o->h'.get? b=some o)->R (.ok (.ret res)) { s with heap:=h',toks:=tk })->
   codeAny (model prog w) A (.builtin "dict.update.loop" #[[.ref d,.ref it,.int i IG,res],[]]) R s:=by
 have nd:d∉jr:=λm=>hd (W.sub _ m)
 intro k
 induction k with
 |zero=>
  intro i s m IG e1 e2 st dm hz kp fin;have en:i=n:=by lia
  subst en;refine afR Su ?_;rw[afb Ca _];refine aal (W.done s _ _ st λh1 t1 k1=>?_);refine aal (abc (abc (fin h1 t1 ?_ λb o mb e=>k1 b o (λz=>mb (aao _ z)) (kp b o mb e))));rw[List.drop_eq_nil_of_le (by lia)];let#[o,es,ep,ho,r]:=dm;apply#[o,es,ep,k1 d o nd ho,r]
 |succ k ih=>
  intro i s m IG e1 e2 st dm hz kp fin;have lt:i<n:=by lia
  refine afR Su ?_;rw[afb Ca _];refine aal (W.item i s _ _ lt st λv h1 t1 pv vM k1=>?_);let#[p,ep,a,key,rfl,na,hpt,Ag]:=hP i v pv;have dm1:h1.DictOf knd d m:=by
   let#[o,es,ep,ho,r]:=dm;apply#[o,es,ep,k1 d o nd ho,r]
  let#[oa,hoa,hca,na',hda]:=hpt;have ga:=k1 a oa (λz=>na (aao _ z)) (kp a oa na hoa);refine aal (afy ?_);refine aal (ajf ?_);unfold Builtin.Dict.pairItems;refine aal (aja #[oa,ga,hca] ?_);rw[if_pos (by decide)];refine aal (ag0 ga hda (abc ?_));refine afy (wpAny_dictSet_pairs Ag dm1 (λh2 dm2 sb=>?_) (by lia));have SJ:∀b o,b≠d->h1.get? b=some o->h2.get? b=some o:=λb o hb e=>(sb.2 b hb).trans e
  have rJ:=W.frame _ _ _ vM λb mb o e=>SJ b o (λz=>hd (by rw[<- z];apply mb)) e
  have oE:(stored m p.1 p.2).length<=m.length+1:=by
   unfold stored
   split
   .rw[List.length_map];apply af1 _
   .rw[abE];apply aa9 _
  refine abc #[aiL Ca _,?_];refine ih (i+1) _ (stored m p.1 p.2) 0 (by lia) lt rJ dm2 (by lia) (λb o mb e=>SJ b o (λz=>mb (by rw[z];apply aap)) (k1 b o (λz=>mb (aao _ z)) (kp b o mb e))) λh3 t3 Eu k3=>?_
  refine fin h3 t3 ?_ k3;have hi:i<ps.length:=by lia
  have x8:ps[i]=p:=by rw[abe hi] at ep;apply acq ep
  rw[ajh hi,afa,x8];apply Eu
def LJ(ps:List (κ×Value))(hz:ps.length<=sizeLine)(T0:String)(hT0:(Value.type T0 != Value.type "dict")=true)
  (HW:∀o,({ s with heap:=s.heap.push o }:Shared).TypeIs x T0)
  (hk:∀(o) (Q') (E'),(∀h' tk,(∀b ob,(s.heap.push o).get? b=some ob->h'.get? b=some ob)->Q' none { s with heap:=h',toks:=tk })->wpAny (model prog w) A.in1.in1 (getAttr? x "keys") Q' E' { s with heap:=s.heap.push o })
  (hi:∀(s2) (Q') (E'),(∀b ob,s.heap.get? b=some ob->s2.heap.get? b=some ob)->(∃o,s2.heap.get? s.heap.objs.size=some o)->
   (∀I cP jr n P T h3,Walks prog w A.in1.in1 I cP jr n P T->T 0 h3->ps.length=n->s.heap.objs.size∉cP->(∀b ob,s2.heap.get? b=some ob->h3.get? b=some ob)->(∀b∈jr,s.heap.get? b=none)->(∀i v,P i v->∃p,ps[i]? = some p/\pairAt knd s.heap (s.heap.objs.size::jr) v p)->Q' (.ref I) { s2 with heap:=h3 })->
   wpAny (model prog w) A.in1.in1 (pyIter x) Q' E' s2)
  (h:∀h' tk,h'.DictOf knd s.heap.objs.size (ps.foldl (λm p=>stored m p.1 p.2) [])->(∀b o,s.heap.get? b=some o->h'.get? b=some o)->Q (.ref s.heap.objs.size) { s with heap:=h',toks:=tk }) :
  wpAny (model prog w) A (call (.type "dict") [x]) Q E s:=by
 refine callType_codes (Q₁:=λobj cg=>obj=.ref s.heap.objs.size/\cg={ s with heap:=s.heap.push { cls:=.type "dict",data:=.dict ([].toArray) } }) F.kt_called_dict (F.kt_typeCall_dict_1 _) F.entry_dict_init (kt_code_dict_new _ #[rfl,rfl]) ?_
 rintro obj cg ⟨rfl,rfl⟩
 have Hz:(s.heap.push { cls:=.type "dict",data:=.dict ([].toArray) }).DictOf knd s.heap.objs.size []:=Heap.DictOf.new s.heap;refine#[Hz.typeIs,F.args_dict_init_2 _ _,?_];unfold Builtin.«dict.__init__»;refine aal ?_;unfold Builtin.Dict.selfAndRest;refine aal (wpAny_notOrdered_dict Hz.typeIs ?_);refine abc ?_;show wpAny (model prog w) _ (Builtin.Dict.updateFrom "dict.__init__" s.heap.objs.size x [] .none) _ _ _;unfold Builtin.Dict.updateFrom;refine aal (aja (HW _) ?_);rw[if_pos hT0];refine aal (hk _ _ _ λh1 t1 k1=>?_);refine aal (ajy (aal ?_));have o1:∀b ob,s.heap.get? b=some ob->h1.get? b=some ob:=λb ob e=>k1 b ob (aak _ e)
 refine hi { s with heap:=h1,toks:=t1 } _ _ o1 #[_,k1 _ _ (abx _ rfl)] (λI cP jr n P T h3 W st hn hd k3 hw hP=>?_);have Eu:h3.DictOf knd s.heap.objs.size []:=by
  let#[o,es,ep,ho,r]:=Hz;apply#[o,es,ep,k3 _ o (k1 _ o ho),r]
 refine abc #[aiL Ca _,Z9 W hd s.heap ps hn hP .none n 0 _ [] 0 rfl (adN _) st Eu (by rw[List.length_nil];lia) (λb o _ e=>k3 b o (o1 b o e)) λh4 t4 dm4 k4=>?_];refine#[rfl,h h4 t4 (by simpa using dm4) λb o e=>k4 b o (λm=>?_) e];rcases aat.mp m with z|z
 .exact absurd (aa5 e) (by rw[z];apply aeM _)
 .rw[hw b z] at e;ext e
end
theorem Po[DecidableEq κ]:∀{ps} {qs} {m}{r:List (κ×Value)},KV ps qs->KV m r->KV (ps.foldl (λm p=>putK m p.1 p.2) m) (qs.foldl (λm p=>stored m p.1 p.2) r)
 |_,_,_,_,.nil,h=>h
 |_,_,_,_,.cons (a:=p) e t,h=>by
  rw[afa,afa];refine Po t ?_;rw[<- e.1];apply h.put p.1 e.2
def Ij(K:Fr):List V->Hp->VK->Prop:=λxs H Q=>∃(p:Addr) (ys:List V) (ps:List (Key×V)),xs=[.ref p]/\(ck K H p ys\/bK K H p ys)/\Paired (λy (q:Key×V)=>∃a,y=.ref a/\bK K H a [kV q.1,q.2]) ys ps/\
 ∀l,H l=none->Q (.ref l) (upd H l (.dK (ps.foldl (λm q=>putK m q.1 q.2) [])))
theorem IQ(I:Inv X af U H s):∀{ys} {ps} {aA},Paired (λy (q:Key×V)=>∃a,y=.ref a/\bK X.K H a [kV q.1,q.2]) ys ps->aT ys aA->
  ∃qs:List (Key×Value),KV ps qs/\∀(i:Nat) (v),aA[i]? = some v->∃q,qs[i]? = some q/\∃a key,v=.ref a/\IsTup s.heap a ([key,q.2].toArray)/\(fQ X.prog X.w).is q.1 key=true
 |_,_,_,.nil,.nil=>#[[],.nil,λi v e=>by simp at e]
 |_,_,_,.cons (b:=q) #[a,ey,hr] t,.cons (b:=u) r rs=>by
  let#[qs,h1,h2]:=IQ I t rs;subst ey;ext r;let#[us,ru,pt,_]:=I.tuple hr;let#[key,x,rfl,rk,rx]:=vals2 ru;refine#[(q.1,x)::qs,.cons #[rfl,rx] h1,λi v e=>?_];cases i with
  |zero=>
   have e':=acq e;subst e';apply#[_,rfl,a,key,rfl,pt,se rk]
  |succ i=>
   let#[q',e1,e2]:=h2 i v (by simpa using e);apply#[q',by simpa using e1,e2]
def adT(hc:X.calm=true):gO X (.type "dict") (Ij X.K):=by
 intro af s U H xs us Q I r h;let#[p,ys,ps,rfl,IC,sJ,q]:=h;let#[u,rfl,ru]:=vals1 r;ext ru;have hh:=I.ok.hd hc;have big:=I.big;have fin:∀(aA:List Value) (qs:List (Key×Value)),KV ps qs->ys.length<=sizeLine->∀h' tk,h'.DictOf (fQ X.prog X.w) s.heap.objs.size (qs.foldl (λm p=>stored m p.1 p.2) [])->(∀b o,s.heap.get? b=some o->h'.get? b=some o)->
   EP X af U Q (.ref s.heap.objs.size) { s with heap:=h',toks:=tk }:=by
  intro aA qs pG hz h' tk dm kp;have rel:=Po pG .nil;have sW:∀(l:List (Key×V)) (m),(l.foldl (λm q=>putK m q.1 q.2) m).length<=m.length+l.length:=by
   intro l
   induction l with
   |nil=>intro m;apply aa9 _
   |cons a l ih=>
    intro m;rw[afa];have h1:=ih (putK m a.1 a.2);have h2:=D6 m a.1 a.2;rw[acK]
    lia
  have hl:=(Paired.length sJ).symm;refine#[.ref s.heap.objs.size,_,I.laid kp (aa9 _) (Et ?_ (aei.mpr (afW (acy big))) rel dm),rfl,q _ (I.aH.fresh (aa9 _))];have:=sW ps [];rw[List.length_nil] at this
  lia
 have DW:∀{qs},KV ps qs->qs.length=ys.length:=λh=>by rw[<- h.length];apply(Paired.length sJ).symm
 have qZ:∀{s2:Shared},(∃o,s2.heap.get? s.heap.objs.size=some o)->s.heap.objs.size<s2.heap.objs.size:=λ⟨_,e⟩=>aa5 e
 rcases IC with hq|hq
 .let#[aA,rv,pl,hz]:=I.list hq;let#[qs,pG,oA]:=IQ I sJ rv;let#[o,n,ho,lB,zy,t8]:=pl;have hp:=aa5 ho;refine LJ qs (by rw[DW pG];apply hz) "list" (by decide) (λob=>#[o,aak _ ho,lB]) (λob Q' E' k=>?_) (λs2 Q' E' o2 hS k=>?_) (λh' tk dm kp=>fin aA qs pG hz h' tk dm kp)
  .let#[c0,d0,dt0,sl0]:=o;dsimp only at lB zy t8;subst lB zy t8;apply Vh (aak _ ho) hh λh1 t1 kp=>k h1 t1 kp
  .have oE:s2.heap.IsList p aA.toArray:=#[o,o2 p o ho,lB,n,t8]
   refine wpAny_pyIter_list oE (k s2.heap.objs.size [s2.heap.objs.size,p] [s2.heap.objs.size] _ _ _ _ (Walks.list (A:=X.A.in1.in1) hh s2.heap.objs.size p (acy (Nat.lt_trans hp (qZ hS))) aA.toArray) #[#[_,abx _ rfl,rfl,rfl],oE.push _] (by rw[DW pG,ab0,<- rv.length]) ?_ (λb ob e=>aak _ e) ?_ λi v e=>?_)
   .intro m;rcases aat.mp m with z|z
    .exact absurd z (acy (qZ hS))
    .exact absurd (aaK.mp z) (agF hp)
   .intro b m;rw[aaK.mp m];apply aje (agc (qZ hS))
   .let#[q',e1,a,key,e2,e3,e4]:=oA i v (by simpa using e);refine#[q',e1,a,key,e2,λm=>?_,e3,e4];let#[oa,ha,_]:=e3;rcases aat.mp m with z|z
    .exact absurd (aa5 ha) (by rw[z];apply aeM _)
    .exact absurd (aa5 ha) (by rw[aaK.mp z];apply Nat.not_lt.mpr (agc (qZ hS)))
 .let#[aA,rv,#[o,ho,lB,zy,n,t8],hz]:=I.MW hq;let#[qs,pG,oA]:=IQ I sJ rv;have hp:=aa5 ho;refine LJ qs (by rw[DW pG];apply hz) "tuple" (by decide) (λob=>#[o,aak _ ho,lB]) (λob Q' E' k=>?_) (λs2 Q' E' o2 hS k=>?_) (λh' tk dm kp=>fin aA qs pG hz h' tk dm kp)
  .let#[c0,d0,dt0,sl0]:=o;dsimp only at lB zy t8;subst lB zy t8;apply ac9 (aak _ ho) hh λh1 t1 kp=>k h1 t1 kp
  .have oE:s2.heap.IsTuple p aA.toArray:=#[o,o2 p o ho,lB,n,t8]
   refine wpAny_pyIter_tuple oE (k s2.heap.objs.size [s2.heap.objs.size,p] [s2.heap.objs.size] _ _ _ _ (Walks.tuple (A:=X.A.in1.in1) hh s2.heap.objs.size p (acy (Nat.lt_trans hp (qZ hS))) aA.toArray) #[#[_,abx _ rfl,rfl,rfl],oE.push _] (by rw[DW pG,ab0,<- rv.length]) ?_ (λb ob e=>aak _ e) ?_ λi v e=>?_)
   .intro m;rcases aat.mp m with z|z
    .exact absurd z (acy (qZ hS))
    .exact absurd (aaK.mp z) (agF hp)
   .intro b m;rw[aaK.mp m];apply aje (agc (qZ hS))
   .let#[q',e1,a,key,e2,e3,e4]:=oA i v (by simpa using e);refine#[q',e1,a,key,e2,λm=>?_,e3,e4];let#[oa,ha,_]:=e3;rcases aat.mp m with z|z
    .exact absurd (aa5 ha) (by rw[z];apply aeM _)
    .exact absurd (aa5 ha) (by rw[aaK.mp z];apply Nat.not_lt.mpr (agc (qZ hS)))
end L2
namespace L2.Ev
open PySem PySem.Spec PyProof.Rows
structure VA(X:Cx)(i:Nat)(x:Str):Prop where
 N:X.N[i]? = some x
 v:CN X.env.scope x
 d:(x==("__debug__":Str))=false
 c:(x==("__classdict__":Str))=false
def VA.pe(h:VA X i x):PE X (.Name x p) (oG i):=Lu h.N h.v h.d h.c
def wo(X:Cx)(o:Expr)(m:Str)(apos:Pos)(as:List Expr)(pos:Pos)(pl:Sem Bool):Prop:=eval (.Call (.Attribute o m apos) as [] pos) X.env=(do
   let ov <- eval o X.env
   standAt apos.atName
   let(f,first) <- holding [ov] (getMethod ov m pl)
   callWith pos f first (backTo pos (starEach as X.env)) (backToKw pos (keywordEach [] X.env)))
def SE(X:Cx)(e:Expr)(es:List Expr)(pos:Pos):Prop:=starEach (e::es) X.env=(false,eval e X.env)::starEach es X.env/\(backTo pos (starEach es X.env)).any (·.1)=false
def GD(X:Cx)(x:Str):Prop:=Gl X x/\(x==("__debug__":Str))=false
abbrev XN:=Str×Option Nat
inductive D where
 |aI|bl (b:Bool)|int (i:Int)|str (x:Str)|tup (ds:List D)|lst (ds:List D)|bX (ds:List D)|bZ (ak:List (Key×D))|eV (ak:List (List Key×D))|ins (cn:Str) (fs:List (Str×D))|exc (cn:XN)
def qG(K:Fr)(H:Hp)(a:Addr)(xs:List V):Prop:=(∃o,H a=some (.cG o (.lst xs)))\/
 ∃(o:Obj) (aA:Array Value) (n:Nat),K.lookup a=some o/\o.cls=.type "list"/\o.dict=none/\o.data=.seq aA n/\aA.size<=sizeLine/\aT xs aA.toList
def qG.sq{K:Fr}(h:qG K H a xs):ck K H a xs:=h.elim (λz=>.inl (.inr z)) .inr
mutual
inductive Rep(K:Fr)(H:Hp):D->V->List Addr->Prop
 |aI:Rep K H .aI .aI []
 |bl (b:Bool):Rep K H (.bl b) (.bl b) []
 |int (i:Int):Rep K H (.int i) (.int i) []
 |str (x:Str):Rep K H (.str x) (.str x) []
 |tup {a:Addr}{xs:List V}{ds:List D}{fp:List Addr}:bK K H a xs->aC K H ds xs fp->Rep K H (.tup ds) (.ref a) fp
 |lst {a:Addr}{xs:List V}{ds:List D}{fp:List Addr}:H a=some (.lst xs)->aC K H ds xs fp->Rep K H (.lst ds) (.ref a) (a::fp)
 |xT {a:Addr}{xs:List V}{ds:List D}{fp:List Addr}:qG K H a xs->aC K H ds xs fp->Rep K H (.bX ds) (.ref a) fp
 |bZ {a:Addr}{ak:List (Key×V)}{es:List (Key×D)}{fp:List Addr}:H a=some (.dK ak)->es.map (·.1)=ak.map (·.1)->aC K H (es.map (·.2)) (ak.map (·.2)) fp->Rep K H (.bZ es) (.ref a) (a::fp)
 |eV {a:Addr}{ak:List (List Key×V)}{es:List (List Key×D)}{fp:List Addr}:H a=some (.dT ak)->es.map (·.1)=ak.map (·.1)->aC K H (es.map (·.2)) (ak.map (·.2)) fp->Rep K H (.eV es) (.ref a) (a::fp)
 |ins {cn:Str}{a C dx:Addr}{fs:List (Str×V)}{es:List (Str×D)}{fp:List Addr}:PySem.W.nsIn K mainGlobals cn=some (some (.ref C))->H a=some (.ins C dx fs)->H dx=some (.own a)->es.map (·.1)=fs.map (·.1)->aC K H (es.map (·.2)) (fs.map (·.2)) fp->Rep K H (.ins cn es) (.ref a) (a::dx::fp)
 |exc {cn:XN}{a C:Addr}{de:Option Addr}{ob:Obj}:PySem.W.nsIn K mainGlobals cn.1=some (some (.ref C))->H a=some (yh ob a (.ref C) de)->(∀n,cn.2=some n->∃dx,de=some dx/\H dx=some (Gn dx n))->Rep K H (.exc cn) (.ref a) []
inductive aC(K:Fr)(H:Hp):List D->List V->List Addr->Prop
 |nil:aC K H [] [] []
 |cons {d:D}{v:V}{ds:List D}{vs:List V}{f1 f2:List Addr}:Rep K H d v f1->aC K H ds vs f2->aC K H (d::ds) (v::vs) (f1++f2)
end
def bu(H H':Hp):Prop:=(∀a xs,H a=some (.tup xs)->H' a=some (.tup xs))/\(∀a o u,H a=some (.cG o u)->H' a=some (.cG o u))/\∀a φ,H a=some (.ext φ)->H' a=some (.ext φ)
def bu.sqt{K:Fr}(i:bu H H')(h:bK K H a xs):bK K H' a xs:=by
 rcases h with(h|⟨o,h⟩)|h
 .exact .inl (.inl (i.1 _ _ h))
 .exact .inl (.inr #[o,i.2.1 _ _ _ h])
 .exact .inr h
def bu.cG{K:Fr}(i:bu H H')(h:qG K H a xs):qG K H' a xs:=by
 rcases h with⟨o,h⟩|h
 .exact .inl #[o,i.2.1 _ _ _ h]
 .exact .inr h
def bu.of(h:aJ H H'):bu H H':=#[λ_ _ e=>h _ _ e,λ_ _ _ e=>h _ _ e,λ_ _ e=>h _ _ e]
def bu.trans(a:bu H H1)(b:bu H1 H2):bu H H2:=#[λ_ _ e=>b.1 _ _ (a.1 _ _ e),λ_ _ _ e=>b.2.1 _ _ _ (a.2.1 _ _ _ e),λ_ _ e=>b.2.2 _ _ (a.2.2 _ _ e)]
def mF:HO->Bool
 |.lst _|.dK _|.dT _|.ins _ _ _|.own _=>true
 |_=>false
theorem bu.upd(h:H p=some o)(m:mF o=true):bu H (upd H p o'):=by
 refine#[λa xs e=>?_,λa q u e=>?_,λa q e=>?_]
 .rw[aM]
  .exact e
  .rintro rfl;rw[h] at e;ext e;ext m
 .rw[aM]
  .exact e
  .rintro rfl;rw[h] at e;ext e;ext m
 .rw[aM]
  .exact e
  .rintro rfl;rw[h] at e;ext e;ext m
section
variable{K:Fr}
def Rep.frame(r:Rep K H d v fp)(k:∀a∈fp,H' a=H a)(i:bu H H'):Rep K H' d v fp:=
 Rep.rec (motive_2:=λd v fp _=>(∀a∈fp,H' a=H a)->aC K H' d v fp) (λ_=>.aI) (λb _=>.bl b) (λn _=>.int n) (λx _=>.str x) (λh _ r k=>.tup (i.sqt h) (r k))
  (λh _ r k=>.lst ((k _ (.head _)).trans h) (r λa m=>k a (.tail _ m))) (λh _ r k=>.xT (i.cG h) (r k)) (λh e _ r k=>.bZ ((k _ (.head _)).trans h) e (r λa m=>k a (.tail _ m))) (λh e _ r k=>.eV ((k _ (.head _)).trans h) e (r λa m=>k a (.tail _ m)))
  (λg h h2 e _ r k=>.ins g ((k _ (.head _)).trans h) ((k _ (.tail _ (.head _))).trans h2) e (r λa m=>k a (.tail _ (.tail _ m)))) (λg h p _=>.exc g (i.2.1 _ _ _ h) λn e=>(p n e).imp λ_ q=>#[q.1,i.2.2 _ _ q.2])
  (λ_=>.nil) (λ_ _ h t k=>.cons (h λa m=>k a (aaZ _ m)) (t λa m=>k a (aaM _ m))) r k
def aC.frame:∀{ds} {vs} {fp},aC K H ds vs fp->(∀a∈fp,H' a=H a)->bu H H'->aC K H' ds vs fp
 |_,_,_,.nil,_,_=>.nil
 |_,_,_,.cons h t,k,i=>.cons (h.frame (λa m=>k a (aaZ _ m)) i) (aC.frame t (λa m=>k a (aaM _ m)) i)
def Rep.eB(r:Rep K H d v fp):∀a∈fp,∃o,H a=some o/\mF o=true:=by
 have c:∀{b} {o} {f},H b=some o->mF o=true->(∀a∈f,∃o,H a=some o/\mF o=true)->∀a∈b::f,∃o,H a=some o/\mF o=true:=λh m r a=>λ| .head _=>#[_,h,m]|.tail _ z=>r a z
 have n:∀a∈([]:List Addr),∃o,H a=some o/\mF o=true:=λ_ m=>nomatch m
 apply Rep.rec n (λ_=>n) (λ_=>n) (λ_=>n) (λ_ _ r=>r) (λh _ r=>c h rfl r) (λ_ _ r=>r) (λh _ _ r=>c h rfl r) (λh _ _ r=>c h rfl r)
  (λ_ h h2 _ _ r=>c h rfl (c h2 rfl r)) (λ_ _ _=>n) n (λ_ _ h t a m=>(abB.mp m).elim (h a) (t a)) r
def aC.eB:∀{ds} {vs} {fp},aC K H ds vs fp->∀a∈fp,∃o,H a=some o/\mF o=true
 |_,_,_,.nil,_,m=>nomatch m
 |_,_,_,.cons h t,a,m=>(abB.mp m).elim (h.eB a) (aC.eB t a)
def Rep.same(h:Rep K H d v fp)(s:aJ H H'):Rep K H' d v fp:=
 h.frame (λa m=>let#[o,e,_]:=h.eB a m;(s a o e).trans e.symm) (.of s)
def aC.same(h:aC K H ds vs fp)(s:aJ H H'):aC K H' ds vs fp:=
 h.frame (λa m=>let#[o,e,_]:=h.eB a m;(s a o e).trans e.symm) (.of s)
def aC.length:∀{ds} {vs} {fp},aC K H ds vs fp->ds.length=vs.length
 |_,_,_,.nil=>rfl
 |_,_,_,.cons _ t=>by rw[acK,acK,aC.length t]
def aC.get:∀{ds} {vs} {fp}{i:Nat} {d},aC K H ds vs fp->ds[i]? = some d->∃v f,vs[i]? = some v/\Rep K H d v f/\∀a∈f,a∈fp
 |_,_,_,_,_,.nil,e=>by simp at e
 |_,_,_,0,_,.cons h t,e=>by
  have e':=acq e;subst e';apply#[_,_,rfl,h,λa m=>aaZ _ m]
 |_,_,_,i+1,d,.cons h t,e=>by
  let#[v,f,e1,r,s]:=aC.get t (by simpa using e);apply#[v,f,by simpa using e1,r,λa m=>aaM _ (s a m)]
def aC.append:∀{ds es} {vs ws} {f g},aC K H ds vs f->aC K H es ws g->aC K H (ds++es) (vs++ws) (f++g)
 |_,_,_,_,_,_,.nil,s=>s
 |_,_,_,_,_,g,.cons h t,s=>by
  rw[afG];apply .cons h (aC.append t s)
end
def Rep.iG{K:Fr}(r:Rep K H (.int i) v fp):v=.int i/\fp=[]:=by ext r;apply#[rfl,rfl]
def Rep.BS{K:Fr}(r:Rep K H (.bl i) v fp):v=.bl i/\fp=[]:=by ext r;apply#[rfl,rfl]
def Rep.vq{K:Fr}(r:Rep K H (.str i) v fp):v=.str i/\fp=[]:=by ext r;apply#[rfl,rfl]
def Rep.CH{K:Fr}(r:Rep K H .aI v fp):v=.aI/\fp=[]:=by ext r;apply#[rfl,rfl]
mutual
def aB:D->Bool
 |.lst _|.bZ _|.eV _|.ins _ _=>false
 |.tup ds=>aK ds
 |.bX ds=>aK ds
 |_=>true
def aK:List D->Bool
 |[]=>true
 |d::ds=>aB d&&aK ds
end
section
variable{K:Fr}
theorem Rep.aB(r:Rep K H d v fp)(e:aB d=true):fp=[]:=
 Rep.rec (motive_2:=λds _ fp _=>aK ds=true->fp=[]) (λ_=>rfl) (λ_ _=>rfl) (λ_ _=>rfl) (λ_ _=>rfl) (λ_ _ r e=>r (by rw[L2.Ev.aB] at e;apply e)) (λ_ _ _ e=>by delta L2.Ev.aB at e;ext e) (λ_ _ r e=>r (by rw[L2.Ev.aB] at e;apply e))
  (λ_ _ _ _ e=>by delta L2.Ev.aB at e;ext e) (λ_ _ _ _ e=>by delta L2.Ev.aB at e;ext e) (λ_ _ _ _ _ _ e=>by delta L2.Ev.aB at e;ext e) (λ_ _ _ _=>rfl) (λ_=>rfl) (λ_ _ h t e=>by
   rw[aK,aaF] at e;rw[h e.1,t e.2];rfl) r e
def aC.aB:∀{ds} {vs} {fp},aC K H ds vs fp->aK ds=true->fp=[]
 |_,_,_,.nil,_=>rfl
 |_,_,_,.cons h t,e=>by
  rw[aK,aaF] at e;rw[h.aB e.1,aC.aB t e.2];rfl
end
inductive Tag where
 |own|lk|sh (o:List Nat)
abbrev Slot:=Option (D×Tag)
abbrev aR:=List Slot
def vm(z:Addr->Option Nat)(i:Nat):Tag->List Addr->Prop
 |.sh o,fp=>∀a∈fp,∀j,z a=some j->j∈o
 |_,fp=>fp.Nodup/\∀a∈fp,z a=some i
def vK(Y:aR)(j:Nat):Prop:=∀d,Y[j]?≠some (some (d,.own))
structure qJ where
 d:D
 v:V
 fp:List Addr
 z0:Addr->Option Nat
structure Ok(K:Fr)(H0:Hp)(S:List Addr)(z:Addr->Option Nat)(aq:List qJ)(Y:aR)(U:St)(H:Hp):Prop where
 sl:∀i d t,Y[i]? = some (some (d,t))->∃v fp,U[i]? = some (some v)/\Rep K H d v fp/\vm z i t fp
 hl:∀p∈aq,Rep K H p.d p.v p.fp/\∀a∈p.fp,∀j,z a=some j->p.z0 a=some j/\vK Y j
 zd:∀a j,z a=some j->(∃o,H a=some o)/\(H0 a=none\/a∈S)
 en:∀a o,H0 a=some o->a∉S->H a=some o
 ln:Y.length=U.length
def Ok.same{K:Fr}(h:Ok K H0 S z aq Y U H)(s:aJ H H'):Ok K H0 S z aq Y U H':=
 #[λi d t e=>let#[v,fp,a,b,c]:=h.sl i d t e;#[v,fp,a,b.same s,c],λp m=>let#[a,b]:=h.hl p m;#[a.same s,b],
  λa j e=>let#[#[o,x],y]:=h.zd a j e;#[#[o,s _ _ x],y],λa o e n=>s _ _ (h.en a o e n),h.ln]
def dh(z:Addr->Option Nat)(H:Hp):Tag->List Addr->Prop
 |.sh o,fp=>∀a∈fp,∀j,z a=some j->j∈o
 |_,fp=>fp.Nodup/\∀a∈fp,H a=none
def dh.nil:dh z H t []:=by
 cases t with
 |sh o=>intro a m;ext m
 |own=>apply#[acv,λa m=>nomatch m]
 |lk=>apply#[acv,λa m=>nomatch m]
abbrev EF:=aR->Option (D×Tag)
def FP(X:Cx)(e:Expr)(f:EF):Prop:=∃t,PE X e t/\∀{H0} {S} {z} {aq} {Y} {U} {H} {Q} {d} {tg},
 Ok X.K H0 S z aq Y U H->f Y=some (d,tg)->(∀H' v fp,aJ H H'->Rep X.K H' d v fp->dh z H tg fp->Q v H')->t U H Q
abbrev AF:=aR->Option (List (D×Tag))
abbrev TF:=aR->Option Bool
def FT(X:Cx)(e:Expr)(f:TF):Prop:=∃t,PT X e t/\∀{H0} {S} {z} {aq} {Y} {U} {H} {Q} {b},
 Ok X.K H0 S z aq Y U H->f Y=some b->(∀H',aJ H H'->Q b H')->t U H Q
def ET(i:Nat):Tag->Tag
 |.sh o=>.sh o
 |_=>.sh [i]
def aj(i:Nat):EF:=λY=>match Y[i]? with
 |some (some (d,t))=>some (d,ET i t)
 |_=>none
def ah(i:Nat)(va:VA X i x:=by walk_at "va"):FP X (.Name x pos) (aj i):=by
 exists 20,va.pe;unfold aj at e;exists h,Y[i]?,s,e,0;cases s with
 |none=>rw[h] at e;ext e
 |some p=>
  let#[d',t]:=p;rw[h] at e;have e':=acq e;have e1:=congrArg Prod.fst e';have e2:=congrArg Prod.snd e';subst e1 e2;let#[v,fp,hs,r,zz]:=ok.sl i d' t h;refine#[v,hs,q H v fp (aJ.refl H) r ?_];cases t with
  |sh o=>apply zz
  |own=>intro a m j ej;rw[zz.2 a m] at ej;ext ej;apply aap
  |lk=>intro a m j ej;rw[zz.2 a m] at ej;ext ej;apply aap
def eC(d:D):EF:=λ_=>some (d,.own)
def ao{i j pos}:FP X (.Constant (.int i) j pos) (eC (.int i)):=#[_,Fj,@λ_ _ _ _ _ _ H _ _ _ _ e q=>by ext e;apply q H _ _ (aJ.refl H) (.int i) .nil]
def iK{b j pos}:FP X (.Constant (.bool b) j pos) (eC (.bl b)):=#[_,WY,@λ_ _ _ _ _ _ H _ _ _ _ e q=>by ext e;apply q H _ _ (aJ.refl H) (.bl b) .nil]
def jq{j pos}:FP X (.Constant .none j pos) (eC .aI):=#[_,ah2,@λ_ _ _ _ _ _ H _ _ _ _ e q=>by ext e;apply q H _ _ (aJ.refl H) .aI .nil]
def bU{x j pos}:FP X (.Constant (.str x) j pos) (eC (.str x)):=#[_,Sj,@λ_ _ _ _ _ _ H _ _ _ _ e q=>by ext e;apply q H _ _ (aJ.refl H) (.str x) .nil]
def e2(op:D->D->Option D)(fa fb:EF):EF:=λY=>match fa Y,fb Y with
 |some (d1,_),some (d2,_)=>(op d1 d2).map λd=>(d,.own)
 |_,_=>none
def pY(e:e2 op fa fb Y=some (d,tg)):∃d1 t1 d2 t2,fa Y=some (d1,t1)/\fb Y=some (d2,t2)/\op d1 d2=some d/\tg=.own:=by
 unfold e2 at e;exists h1,fa Y,p,e,0;let#[d1,t1]:=p;cases h2:fb Y with
 |none=>rw[h1,h2] at e;ext e
 |some p=>
  let#[d2,t2]:=p;rw[h1,h2] at e;dsimp only at e;exists h3,op d1 d2,d3,e;ext e;apply#[d1,t1,d2,t2,rfl,rfl,h3,rfl]
def gx(K:Fr)(r:R2)(op:D->D->Option D):Prop:=∀(H) (x y) (d1 d2) (f1 f2) (d) (Q),Rep K H d1 x f1->Rep K H d2 y f2->op d1 d2=some d->
 (∀H' v,aJ H H'->Rep K H' d v []->Q v H')->r x y H Q
def fp_2{a b e:Expr}(dd:gx X.K r op)(ha:FP X a fa)(hb:FP X b fb)(he:∀ta tb,PE X a ta->PE X b tb->PE X e (rm r ta tb)):FP X e (e2 op fa fb):=by
 let#[ta,pa,sa]:=ha;let#[tb,pb,sb]:=hb;exists 20,he ta tb pa pb;let#[d1,t1,d2,t2,e1,iV,e3,rfl]:=pY e;refine sa ok e1 λH1 x f1 s1 r1 _=>?_
 refine sb (ok.same s1) iV λH2 y f2 s2 r2 _=>?_
 apply dd H2 x y d1 d2 f1 f2 d Q (r1.same s2) r2 e3 λH3 v s3 r3=>q H3 v [] ((s1.trans s2).trans s3) r3 .nil
end L2.Ev
namespace L2.Ev
open PySem PySem.Spec PyProof.Rows
def QT:Tag->Tag->Tag
 |.sh o,.sh p=>.sh (o++p)
 |.sh o,_=>.sh o
 |_,t=>t
def iU:List (D×Tag)->Tag
 |[]=>.own
 |p::r=>QT p.2 (iU r)
def FA(X:Cx)(es:List Expr)(f:AF):Prop:=∃t,PA X es t/\(∀Y ps,f Y=some ps->ps.length=es.length)/\∀{H0} {S} {z} {aq} {Y} {U} {H} {Q} {ps},
 Ok X.K H0 S z aq Y U H->f Y=some ps->(∀H' vs fp,aJ H H'->aC X.K H' (ps.map (·.1)) vs fp->dh z H (iU ps) fp->Q vs H')->t U H Q
def aD:AF:=λ_=>some []
def au(f:EF)(g:AF):AF:=λY=>match f Y,g Y with
 |some p,some ps=>some (p::ps)
 |_,_=>none
def Sx(e:au f g Y=some ps):∃d t r,f Y=some (d,t)/\g Y=some r/\ps=(d,t)::r:=by
 unfold au at e;exists h1,f Y,p,e,0;cases h2:g Y with
 |none=>rw[h1,h2] at e;ext e
 |some r=>
  rw[h1,h2] at e;ext e;apply#[p.1,p.2,r,rfl,rfl,rfl]
def dh.join{K:Fr}(ok:Ok K H0 S z aq Y U H)(s:aJ H H1)
  (h1:dh z H t1 f1) (d1:∀a∈f1,∃o,H1 a=some o/\mF o=true) (h2:dh z H1 t2 f2):dh z H (QT t1 t2) (f1++f2):=by
 have nz:∀{a} {j},H a=none->z a=some j->False:=λ{a j} e q=>by
  let#[#[o,w],_]:=ok.zd a j q;rw[e] at w;ext w
 have both:∀{t1 t2:Tag},(f1.Nodup/\∀a∈f1,H a=none)->(f2.Nodup/\∀a∈f2,H1 a=none)->(f1++f2).Nodup/\∀a∈f1++f2,H a=none:=λp q=>by
  refine#[ac7.mpr #[p.1,q.1,λa m b m' e=>?_],λa m=>?_]
  .subst e;let#[o,w,_]:=d1 a m;rw[q.2 a m'] at w;ext w
  .rcases abB.mp m with m|m
   .exact p.2 a m
   .exact s.free (q.2 a m)
 cases t1 with
 |sh o=>
  have ie:=h1;cases t2 with
  |sh p=>
   intro a m j q;rcases abB.mp m with m|m
   .exact aaZ _ (ie a m j q)
   .exact aaM _ (h2 a m j q)
  |own=>
   intro a m j q;rcases abB.mp m with m|m
   .exact ie a m j q
   .exact(nz (s.free (h2.2 a m)) q).elim
  |lk=>
   intro a m j q;rcases abB.mp m with m|m
   .exact ie a m j q
   .exact(nz (s.free (h2.2 a m)) q).elim
 |own=>
  cases t2 with
  |sh p=>
   intro a m j q;rcases abB.mp m with m|m
   .exact(nz (h1.2 a m) q).elim
   .exact h2 a m j q
  |own=>apply both (t1:=.own) (t2:=.own) h1 h2
  |lk=>apply both (t1:=.own) (t2:=.own) h1 h2
 |lk=>
  cases t2 with
  |sh p=>
   intro a m j q;rcases abB.mp m with m|m
   .exact(nz (h1.2 a m) q).elim
   .exact h2 a m j q
  |own=>apply both (t1:=.own) (t2:=.own) h1 h2
  |lk=>apply both (t1:=.own) (t2:=.own) h1 h2
def ay:FA X [] aD:=#[_,f7,λ_ _ e=>by ext e;rfl,@λ_ _ _ _ _ _ H _ _ _ e q=>by ext e;apply q H _ _ (aJ.refl H) .nil .nil]
def ai{e:Expr}{es:List Expr}(ha:FP X e f)(hr:FA X es g)(hs:starEach (e::es) X.env=(false,eval e X.env)::starEach es X.env:=by rfl):FA X (e::es) (au f g):=by
 let#[t,p,q]:=ha;let#[t',p',l',q']:=hr;refine#[_,eO p p' hs,λY ps e=>by let#[d,tg,r,e1,e2,rfl]:=Sx e;rw[acK,acK,l' Y r e2],@λH0 S z aq Y U H Q ps ok e k=>?_];let#[d,tg,r,e1,e2,rfl]:=Sx e;refine q ok e1 λH1 v f1 s1 r1 g1=>?_
 refine q' (ok.same s1) e2 λH2 vs f2 s2 r2 g2=>?_
 apply k H2 (v::vs) (f1++f2) (s1.trans s2) (.cons (r1.same s2) r2) (dh.join ok s1 g1 r1.eB g2)
def h_(g:AF):EF:=λY=>(g Y).map λps=>(.tup (ps.map (·.1)),iU ps)
def cE{x1}(h:FA X es g)(hl:es.length<=1000:=by decide):FP X (.Tuple es x1 pos) (h_ g):=by
 let#[t,p,hg,q]:=h;exists 21,ag4 p;unfold h_ at e;exists h1,g Y,ps,e;ext e;refine q ok h1 λH1 vs fp s1 r1 g1=>#[?_,λa ha=>?_]
 .rw[<- r1.length,List.length_map,hg Y ps h1];apply agc (Co hl)
 .have s2:aJ H1 (upd H1 a (.tup vs)):=λb o e=>by rw[aM (cO e ha)];apply e
  apply k _ _ fp (s1.trans s2) (.tup (bK.of bI) (r1.same s2)) g1
def gz(g:AF):EF:=λY=>(g Y).map λps=>(.lst (ps.map (·.1)),iU ps)
def dh.cons{K:Fr}(ok:Ok K H0 S z aq Y U H)(s:aJ H H1)(h:dh z H t fp)
  (d:∀b∈fp,∃o,H1 b=some o/\mF o=true) (ha:H1 a=none):dh z H t (a::fp):=by
 have na:=s.free ha;have both:(fp.Nodup/\∀b∈fp,H b=none)->(a::fp).Nodup/\∀b∈a::fp,H b=none:=λp=>by
  refine#[ab3.mpr #[λm=>?_,p.1],λb m=>?_]
  .let#[o,w,_]:=d a m;rw[ha] at w;ext w
  .rcases aat.mp m with e|m
   .rw[e];apply na
   .exact p.2 b m
 cases t with
 |sh o=>
  intro b m j q;rcases aat.mp m with e|m
  .let#[#[o,w],_]:=ok.zd b j q;rw[e,na] at w;ext w
  .exact h b m j q
 |own=>apply both h
 |lk=>apply both h
def dR(h:FA X es g)(hl:es.length<=1000:=by decide):FP X (.List es pos) (gz g):=by
 let#[t,p,hg,q]:=h;exists 21,afL p;unfold gz at e;exists h1,g Y,ps,e;ext e;refine q ok h1 λH1 vs fp s1 r1 g1=>#[?_,λa ha=>?_]
 .rw[<- r1.length,List.length_map,hg Y ps h1];apply agc (Co hl)
 .have s2:aJ H1 (upd H1 a (.lst vs)):=λb o e=>by rw[aM (cO e ha)];apply e
  apply k _ _ (a::fp) (s1.trans s2) (.lst bI (r1.same s2)) (g1.cons ok s1 r1.eB ha)
def a_(K:Fr)(F:List D->Option D):Sp:=λvs H Q _=>∃ds fp d,aC K H ds vs fp/\F ds=some d/\∀H' v gC,aJ H H'->Rep K H' d v gC->gC.Nodup->(∀a∈gC,H a=none)->Q v H'
def cQ(F:List D->Option D)(g:AF):EF:=λY=>(g Y).bind λps=>(F (ps.map (·.1))).map λd=>(d,.own)
def WC(e:cQ F g Y=some (d,tg)):∃ps,g Y=some ps/\F (ps.map (·.1))=some d/\tg=.own:=by
 unfold cQ at e;exists h1,g Y,ps,e,0;rw[h1,ac1] at e;exists h2,F (ps.map (·.1)),d',e;ext e;apply#[ps,rfl,h2,rfl]
def aX(G:bQ X.prog X.w X.K X.mg X.base dQ k f fd ps (a_ X.K F) cm)(hr:bz k X.A cm)(hm:X.mg x=some (.ref f))(hk:PySem.W.keepIn X.K (.ref f)=true)(hb:Binds X.K fd ps [])(ha:FA X (e::es) g)
  (hg:GD X x:=by apply#[rfl,by decide])
  (he:SE X e es pos:=by apply#[rfl,rfl]):FP X (.Call (.Name x p) (e::es) [] pos) (cQ F g):=by
 let#[t,pa,_,sa]:=ha;refine#[_,O0 G hr hg.1 hm hk hb .nil m_ pa hg.2 he.1 he.2,@λH0 S z aq Y U H Q d tg ok e0 q=>?_];let#[qs,e1,e2,rfl]:=WC e0;refine sa ok e1 λH1 vs fp s1 r1 _=>?_
 rw[acU];apply#[_,fp,d,r1,e2,λH2 v gC s2 r2 nd fr=>q H2 v gC (s1.trans s2) r2 #[nd,λa m=>s1.free (fr a m)]]
def tV(f:EF):TF:=λY=>match f Y with
 |some (.bl b,_)=>some b
 |_=>none
def Ig(e:tV f Y=some b):∃t,f Y=some (.bl b,t):=by
 unfold tV at e;exists h,f Y,p,e,0;let#[d,t]:=p;rw[h] at e;ext d<;>first|(ext e;apply#[t,rfl])|ext e
def fJ(h:FP X e f)(he:∀whole,isTrue e X.env whole=(do let v <- whole;standAt e.pos;holding [v] (truthy v)):=by intro _;rfl):FT X e (tV f):=by
 let#[t,p,q]:=h;refine#[_,MK p he,@λH0 S z aq Y U H Q b ok e k=>?_];let#[tg,e1]:=Ig e;refine q ok e1 λH1 v fp s1 r1 _=>?_
 ext r1;apply#[b,rfl,k H1 s1]
def jn(ho:dH X (compareOp op) r)(dd:gx X.K r o)(ha:FP X a fa)(hb:FP X b fb)(hm:behindInMarks op b=false):FT X (.Compare a [op] [b] pos) (tV (e2 o fa fb)):=by
 let#[ta,pa,sa]:=ha;let#[tb,pb,sb]:=hb;exists 22,Rx ho pa pb hm;let#[tg,e0]:=Ig e;let#[d1,t1,d2,t2,e1,iV,e3,rfl]:=pY e0;refine sa ok e1 λH1 x f1 s1 r1 _=>?_
 refine sb (ok.same s1) iV λH2 y f2 s2 r2 _=>?_
 refine dd H2 x y d1 d2 f1 f2 _ _ (r1.same s2) r2 e3 λH3 v s3 r3=>?_
 ext r3;apply#[c,rfl,k H3 ((s1.trans s2).trans s3)]
def sU(ho:dH X (compareOp op) r)(dd:gx X.K r o)(ha:FP X a fa)(hb:FP X b fb)(hm:behindInMarks op b=false):FP X (.Compare a [op] [b] pos) (e2 o fa fb):=
 fp_2 dd ha hb λ_ _ pa pb=>aex ho pa pb hm
def uQ(ho:dH X (binaryOp op) r)(dd:gx X.K r o)(ha:FP X a fa)(hb:FP X b fb):FP X (.BinOp a op b pos) (e2 o fa fb):=
 fp_2 dd ha hb λ_ _ pa pb=>NZ ho pa pb
def kg(f g:TF):TF:=λY=>match f Y with
 |some true=>g Y
 |some false=>some false
 |none=>none
def o9(f g:TF):TF:=λY=>match f Y with
 |some true=>some true
 |some false=>g Y
 |none=>none
def k8(f:TF):TF:=λY=>(f Y).map λb=>!b
def FW(X:Cx)(e:Expr)(f:TF):Prop:=∃t,PW X e t/\∀{H0} {S} {z} {aq} {Y} {U} {H} {Q} {b},
 Ok X.K H0 S z aq Y U H->f Y=some b->(∀H',aJ H H'->Q b H')->t U H Q
def FW.ft(h:FW X e f):FT X e f:=let#[t,p,q]:=h;#[t,p.pt,q]
def rZ(h:FT X a f):FW X (.BoolOp .And [a] pos) f:=let#[t,p,q]:=h;#[t,MG p,q]
def qC(h:FT X a f):FW X (.BoolOp .Or [a] pos) f:=let#[t,p,q]:=h;#[t,aiA p,q]
def rq{rest:List Expr}(ha:FT X a f)(hb:FW X (.BoolOp .And (b::rest) pos) g):FW X (.BoolOp .And (a::b::rest) pos) (kg f g):=by
 let#[t,p,q]:=ha;let#[t',p',q']:=hb;exists 22,Pk p p';unfold kg at e;exists h,f Y,y,e;cases y with
 |false=>
  ext e;refine q ok h λH1 s1=>?_
  rw[abm aa3];apply k H1 s1
 |true=>
  refine q ok h λH1 s1=>?_
  rw[if_pos rfl];apply q' (ok.same s1) e λH2 s2=>k H2 (s1.trans s2)
def pI{rest:List Expr}(ha:FT X a f)(hb:FW X (.BoolOp .Or (b::rest) pos) g):FW X (.BoolOp .Or (a::b::rest) pos) (o9 f g):=by
 let#[t,p,q]:=ha;let#[t',p',q']:=hb;exists 22,aad p p';unfold o9 at e;exists h,f Y,y,e;cases y with
 |true=>
  ext e;refine q ok h λH1 s1=>?_
  rw[if_pos rfl];apply k H1 s1
 |false=>
  refine q ok h λH1 s1=>?_
  rw[abm aa3];apply q' (ok.same s1) e λH2 s2=>k H2 (s1.trans s2)
def ju(ha:FT X a f):FT X (.UnaryOp .Not a pos) (k8 f):=by
 let#[t,p,q]:=ha;exists 22,agP p;unfold k8 at e;exists h,f Y,y,e;ext e;apply q ok h λH1 s1=>k H1 s1
inductive Out where
 |nx (Y:aR)|rt (d:D)|bk (Y:aR)|ct (Y:aR)
 |er (raw:Bool) (cn:XN) (Y:aR)
abbrev SF:=aR->Option Out
def j7(X:Cx)(x:Str):Bool:=x==("self":Str)||(X.fn ("self":Str)&&!X.fn x)
def Kp(X:Cx)(U aE:St):Prop:=∀(i:Nat) (x),X.N[i]? = some x->j7 X x=true->aE[i]? = U[i]?
def Kp.refl(X:Cx)(U:St):Kp X U U:=λ_ _ _ _=>rfl
def Kp.trans(a:Kp X U pK)(b:Kp X pK iE):Kp X U iE:=λi x h k=>(b i x h k).trans (a i x h k)
def Kp.set(hi:X.N[i]? = some x)(hs:j7 X x=false):Kp X U (U.set i v):=λj y h k=>by
 refine ac6 λe=>?_
 subst e;rw[hi] at h;have h:=acq h;subst h;rw[hs] at k;ext k
def uO(X:Cx)(H0:Hp)(S:List Addr)(aq:List qJ)(o7:St)(raw:Bool)(cn:XN)(Y:aR):Prop:=∃ES:XS,(if raw=true then Ie X ES else tu X ES)/\
 ∀z U H C,Ok X.K H0 S z aq Y U H->Kp X o7 U->PySem.W.nsIn X.K mainGlobals cn.1=some (some (.ref C))->ES (.ref C) cn.2 U H
def uO.of(k:uO X H0 S aq U raw cn Y)(a:Kp X U aE):uO X H0 S aq aE raw cn Y:=
 let#[ES,th,q]:=k;#[ES,th,λz s H C ok b hC=>q z s H C ok (a.trans b) hC]
def m6(X:Cx)(H0:Hp)(S:List Addr)(aq:List qJ)(o7:St)(E:Ends):Out->Prop
 |.nx Y=>∀z U H,Ok X.K H0 S z aq Y U H->Kp X o7 U->E.nx U H
 |.bk Y=>∀z U H,Ok X.K H0 S z aq Y U H->Kp X o7 U->E.bk U H
 |.ct Y=>∀z U H,Ok X.K H0 S z aq Y U H->Kp X o7 U->E.ct U H
 |.er raw cn Y=>uO X H0 S aq o7 raw cn Y
 |.rt d=>∀H v fp,(∀a o,H0 a=some o->a∉S->H a=some o)->Rep X.K H d v fp->fp.Nodup->(∀a∈fp,H0 a=none\/a∈S)->E.rt v H
def FS(X:Cx)(st:List Stmt)(f:SF):Prop:=∃t,g_ X st t/\∀{H0} {S} {z} {aq} {Y} {U} {H} {E} {o},
 Ok X.K H0 S z aq Y U H->f Y=some o->m6 X H0 S aq U E o->t E U H
def fj(X:Cx)(st:Stmt)(f:SF):Prop:=∃t,PS X st t/\∀{H0} {S} {z} {aq} {Y} {U} {H} {E} {o},
 Ok X.K H0 S z aq Y U H->f Y=some o->m6 X H0 S aq U E o->t E U H
def m6.of(k:m6 X H0 S aq U E o)(a:Kp X U aE):m6 X H0 S aq aE E o:=by
 cases o with
 |nx Y=>apply λz s H ok b=>k z s H ok (a.trans b)
 |bk Y=>apply λz s H ok b=>k z s H ok (a.trans b)
 |ct Y=>apply λz s H ok b=>k z s H ok (a.trans b)
 |rt d=>apply k
 |er raw cn Y=>apply uO.of k a
def fB:SF:=λY=>some (.nx Y)
def bY(f g:SF):SF:=λY=>match f Y with
 |some (.nx Y')=>g Y'
 |o=>o
def cj:FS X [] fB:=#[_,SV,@λ_ _ z _ _ U H _ _ ok e k=>by ext e;apply k z U H ok (.refl _ _)]
def aL{st:Stmt}(h:fj X st f):FS X [st] f:=let#[t,p,q]:=h;#[t,Uh p,q]
def aN{st:Stmt}{rest:List Stmt}(h1:fj X st f)(h2:FS X rest g):FS X (st::rest) (bY f g):=by
 let#[t,p,q]:=h1;let#[t',p',q']:=h2;exists 23,xG p p';unfold bY at e;exists h,f Y,w,e,0;refine q ok h ?_;rw[h] at e;cases w with
 |nx Y'=>apply λz' aE H' bg a=>q' bg e (k.of a)
 |rt d=>ext e;apply k
 |bk Y'=>ext e;apply k
 |ct Y'=>ext e;apply k
 |er _ _ _=>ext e;apply k
def Hj:SF:=λ_=>none
def PF{st:Stmt}:fj X st Hj:=#[_,QU,@λ_ _ _ _ _ _ _ _ _ _ e _=>by ext e]
def nI{st:List Stmt}:FS X st Hj:=#[_,Ww,@λ_ _ _ _ _ _ _ _ _ _ e _=>by ext e]
def dZ(c:TF)(f g:SF):SF:=λY=>match c Y with
 |some true=>f Y
 |some false=>g Y
 |none=>none
def bV(hc:FT X c tc)(ha:FS X a f)(hb:FS X b g):fj X (.If c a b pos) (dZ tc f g):=by
 let#[t,p,q]:=hc;let#[t1,p1,q1]:=ha;let#[t2,p2,q2]:=hb;exists 23,N4 p p1 p2;unfold dZ at e;exists h,tc Y,y,e;refine q ok h λH1 s1=>?_
 cases y with
 |true=>rw[if_pos rfl];apply q1 (ok.same s1) e k
 |false=>rw[abm aa3];apply q2 (ok.same s1) e k
def jy:Tag->Bool
 |.sh _=>false
 |_=>true
def kR(f:EF):SF:=λY=>match f Y with
 |some (d,t)=>if jy t=true then some (.rt d) else if aB d=true then some (.rt d) else none
 |none=>none
def aZ(he:FP X e f):fj X (.Return (some e) pos) (kR f):=by
 let#[t,p,q]:=he;exists 23,zW p;unfold kR at e;exists h,f Y,w,e,0;let#[d,tg]:=w;rw[h] at e;dsimp only at e;refine q ok h λH1 v fp s1 r1 g1=>?_
 have en:∀a o,H0 a=some o->a∉S->H1 a=some o:=λa o e n=>s1 _ _ (ok.en a o e n)
 by_cases ho:jy tg=true
 .rw[if_pos ho] at e;ext e;have g:fp.Nodup/\∀a∈fp,H a=none:=by ext tg<;>first|exact g1|ext ho
  refine k H1 v fp en r1 g.1 λa m=>?_
  cases h0:H0 a with
  |none=>apply .inl rfl
  |some o=>
   by_cases hs:a∈S
   .exact .inr hs
   .have w:=ok.en a o h0 hs;rw[g.2 a m] at w;ext w
 .rw[abm ho] at e;let#[hi,e]:=ci e;ext e;have hn:=r1.aB hi;subst hn;apply k H1 v [] en r1 acv λa m=>nomatch m
def tR(i:Nat):SF:=λY=>match Y[i]? with
 |some (some (d,t))=>if jy t=true then some (.rt d) else if aB d=true then some (.rt d) else none
 |_=>none
def vU(i:Nat)(va:VA X i x:=by walk_at "va"):fj X (.Return (some (.Name x pos')) pos) (tR i):=by
 exists 23,zW va.pe;unfold tR at e;exists h,Y[i]?,w,e,0;cases w with
 |none=>rw[h] at e;ext e
 |some w=>
  let#[d,tg]:=w;rw[h] at e;dsimp only at e;let#[v,fp,hs,r,zz]:=ok.sl i d tg h;refine#[v,hs,?_]
  by_cases ho:jy tg=true
  .rw[if_pos ho] at e;ext e;have g:fp.Nodup/\∀a∈fp,z a=some i:=by ext tg<;>first|exact zz|ext ho
   apply k H v fp ok.en r g.1 λa m=>(ok.zd a i (g.2 a m)).2
  .rw[abm ho] at e;let#[hi,e]:=ci e;ext e;have hn:=r.aB hi;subst hn;apply k H v [] ok.en r acv λa m=>nomatch m
def iI(Y:aR)(i:Nat)(d:D):Tag->aR
 |.sh o=>Y.set i (some (d,.sh o))
 |_=>Y.set i (some (d,.own))
def eS(i:Nat)(f:EF):SF:=λY=>match f Y with
 |some (d,t)=>some (.nx (iI Y i d t))
 |none=>none
def Ok.chg{K:Fr}{fp aO fo:List Addr}(ok:Ok K H0 S z aq Y U H)(hi:Y'[i]? = some (some (d,tg)))(hs:aE[i]? = some (some v))(h0:∀a∈aO,z a=some i)(im:bu H H')
  (keep:∀b o,b∉aO->H b=some o->H' b=some o) (r:Rep K H' d v fp) (hz:vm z' i tg fp) (zn:∀a,a∉fo->z a=some i/\z' a=none\/z' a=z a/\a∉aO/\(z a=some i->¬vK Y i)) (JI:∀a∈fo,(a∈aO\/H a=none)/\∃o,H' a=some o)
  (ot:∀{j d t},j≠i->Y'[j]? = some (some (d,t))->Y[j]? = some (some (d,t))/\(aO=[]\/∀o,t=.sh o->i∉o)) (os:∀j,j≠i->aE[j]? = U[j]?) (hh:aO=[]\/¬vK Y i) (ln:Y'.length=aE.length):Ok K H0 S z' aq Y' aE H':=by
 have old:∀{a} {o},a∉aO->H a=some o->a∉fo:=λn e m=>(JI _ m).1.elim n λq=>by rw[e] at q;ext q
 have at_:∀{a} {k},a∉fo->z' a=some k->z a=some k/\a∉aO/\(k=i->¬vK Y i):=λ{a k} n e=>by
  rcases zn a n with⟨_,w⟩|⟨w,q,u⟩
  .rw[e] at w;ext w
  .rw[e] at w;apply#[w.symm,q,λx=>u (x ▸ w.symm)]
 have S0:∀a∈aO,H0 a=none\/a∈S:=λa m=>(ok.zd a i (h0 a m)).2
 refine#[λj d' t e=>?_,λp hp=>?_,λa j e=>?_,λa o e n=>keep a o (λm=>?_) (ok.en a o e n),ln]
 .by_cases hj:j=i
  .subst hj;rw[hi] at e;ext e;apply#[v,fp,hs,r,hz]
  .let#[e0,nd]:=ot hj e;let#[v',gC,dG,r',zz]:=ok.sl j d' t e0;have n0:∀a∈gC,a∉aO:=λa m q=>by
    have zi:=h0 a q;rcases nd with rfl|nd
    .cases q
    cases t with
    |sh o=>apply nd o rfl (zz a m i zi)
    |own=>rw[zz.2 a m] at zi;apply hj (acq zi)
    |lk=>rw[zz.2 a m] at zi;apply hj (acq zi)
   have n1:∀a∈gC,a∉fo:=λa m=>let#[o,w,_]:=r'.eB a m;old (n0 a m) w
   have o1:∀a∈gC,z a=some j->z' a=some j:=λa m e=>by
    rcases zn a (n1 a m) with⟨w,_⟩|⟨w,_⟩
    .rw[e] at w;apply(hj (acq w)).elim
    .rw[w,e]
   refine#[v',gC,(os j hj).trans dG,r'.frame (λa m=>?_) im,?_]
   .let#[o,w,_]:=r'.eB a m;rw[keep a o (n0 a m) w,w]
   .cases t with
    |sh o=>apply λa m k q=>zz a m k (at_ (n1 a m) q).1
    |own=>apply#[zz.1,λa m=>o1 a m (zz.2 a m)]
    |lk=>apply#[zz.1,λa m=>o1 a m (zz.2 a m)]
 .let#[r',RC]:=ok.hl p hp;have n0:∀a∈p.fp,a∉aO:=λa m q=>by
   rcases hh with rfl|hh
   .cases q
   .exact hh (RC a m i (h0 a q)).2
  refine#[r'.frame (λa m=>?_) im,λa m j q=>?_]
  .let#[o,w,_]:=r'.eB a m;rw[keep a o (n0 a m) w,w]
  .let#[o,w,_]:=r'.eB a m;let#[q,_,hj]:=at_ (old (n0 a m) w) q;let#[x,y]:=RC a m j q;apply#[x,λd e=>y d (ot (λx=>hj x (x ▸ y)) e).1]
 .by_cases w:a∈fo
  .refine#[(JI a w).2,(JI a w).1.elim (S0 a) λq=>?_];cases h0:H0 a with
   |none=>apply .inl rfl
   |some o=>
    by_cases hs:a∈S
    .exact .inr hs
    .rw[ok.en a o h0 hs] at q;ext q
  .let#[e,n,_]:=at_ w e;let#[#[o,x],y]:=ok.zd a j e;apply#[#[o,keep a o n x],y]
 .rcases S0 a m with q|q
  .rw[e] at q;ext q
  .exact n q
open Classical in
def zN(fo:List Addr)(i:Nat)(z:Addr->Option Nat):Addr->Option Nat:=λa=>if a∈fo then some i else if z a=some i then none else z a
def KH{fo aO:List Addr}(h:∀a∈aO,z a=some i)(a:Addr)(n:a∉fo):z a=some i/\zN fo i z a=none\/zN fo i z a=z a/\a∉aO/\(z a=some i->P):=by
 unfold zN
 by_cases w:z a=some i
 .exact .inl #[w,by rw[abm n,if_pos w]]
 .exact .inr #[by rw[abm n,abm w],λm=>w (h a m),λq=>(w q).elim]
def Ok.set{K:Fr}{fp:List Addr}(ok:Ok K H0 S z aq Y U H)(hi:i<U.length)(s:aJ H H1)
  (r:Rep K H1 d v fp) (g:dh z H t fp):∃z',Ok K H0 S z' aq (iI Y i d t) (U.set i (some v)) H1:=by
 have n0:∀a∈([]:List Addr),z a=some i:=λa m=>nomatch m
 have main:∀(fo) (tg),(∀a∈fo,H a=none/\a∈fp)->vm (zN fo i z) i tg fp->∃z',Ok K H0 S z' aq (Y.set i (some (d,tg))) (U.set i (some v)) H1:=λfo tg h hz=>
  #[_,ok.chg (ae0 (by rw[ok.ln];apply hi)) (ae0 hi) n0 (.of s) (λb o _ e=>s b o e) r hz (KH n0) (λa m=>#[.inr (h a m).1,let#[o,w,_]:=r.eB a (h a m).2;#[o,w]])
   (λhj e=>#[(ac6 (afW hj)).symm.trans e,.inl rfl]) (λj hj=>ac6 (afW hj)) (.inl rfl) (by rw[ahw,ahw];apply ok.ln)]
 cases t with
 |own=>apply main fp .own (λa m=>#[g.2 a m,m]) #[g.1,λa m=>if_pos m]
 |lk=>apply main fp .own (λa m=>#[g.2 a m,m]) #[g.1,λa m=>if_pos m]
 |sh o=>
  refine main [] (.sh o) (λa m=>nomatch m) λa m j q=>?_
  rcases KH (fo:=[]) (P:=True) n0 a (λw=>nomatch w) with⟨_,w⟩|⟨w,_⟩
  .rw[q] at w;ext w
  .exact g a m j (w ▸ q)
def Ok.stored{K:Fr}{G:Prop}(ok:Ok K H0 S z aq Y U H)(s:aJ H H1)
  (r:Rep K H1 d v fp) (g:dh z H t fp) (k:∀z',Ok K H0 S z' aq (iI Y i d t) (U.set i (some v)) H1->G):G:=by
 by_cases hi:i<U.length
 .let#[z',bg]:=ok.set hi s r g;apply k z' bg
 .have e1:U.set i (some v)=U:=List.set_eq_of_length_le (Nat.le_of_not_lt hi);have e2:∀w,Y.set i w=Y:=λw=>List.set_eq_of_length_le (by rw[ok.ln];apply Nat.le_of_not_lt hi)
  have e3:iI Y i d t=Y:=by ext t<;>apply e2 _
  refine k z ?_;rw[e1,e3];apply ok.same s
def bO(i:Nat){x:Str}{e:Expr}(he:FP X e f)(hN:X.N.Nodup)(hi:X.N[i]? = some x:=by rfl)(hx:Loc X.env.scope x:=by first|exact Or.inl rfl|exact Or.inr rfl)
  (hs:swapsWith e (some (.Name x pos')) pos.line X.env=pure false:=by rfl) (hf:X.fn x=true\/X.env.scope.names.lookup x=some .local:=by first|exact .inl rfl|exact .inr rfl) (lu:j7 X x=false:=by rfl):fj X (.Assign [.Name x pos'] e pos) (eS i f):=by
 let#[t,p,q]:=he;exists 23,B0 hN hi hx p hs hf;unfold eS at e;exists h,f Y,w,e,0;let#[d,tg]:=w;rw[h] at e;ext e;refine q ok h λH1 v fp s1 r1 g1=>?_
 apply ok.stored s1 r1 g1 λz' bg=>k z' _ H1 bg (.set hi lu)
abbrev GF:=D->Tag->aR->Option aR
def FG(X:Cx)(tg:Expr)(g:GF)(is:List Nat):Prop:=(∀i∈is,∀x,X.N[i]? = some x->j7 X x=false)/\∃t,PG X tg t/\∀{H0} {S} {z} {aq} {Y} {U} {H H1} {v} {d} {tag} {fp} {Q} {Y'},
 Ok X.K H0 S z aq Y U H->aJ H H1->Rep X.K H1 d v fp->dh z H tag fp->g d tag Y=some Y'->(∀z' aE,Ok X.K H0 S z' aq Y' aE H1->(aE.length=U.length/\∀j,j∉is->aE[j]? = U[j]?)->Q aE H1)->t v U H1 Q
def gN(i:Nat):GF:=λd t Y=>some (iI Y i d t)
abbrev zP:=List D->aR->Option aR
def Kp.off{is:List Nat}(hk:∀i∈is,∀x,X.N[i]? = some x->j7 X x=false)(h:∀j,j∉is->aE[j]? = U[j]?):Kp X U aE:=λi x e k=>h i λm=>by rw[hk i m x e] at k;ext k
def BX(X:Cx)(ts:List Expr)(g:zP)(is:List Nat):Prop:=(∀i∈is,∀x,X.N[i]? = some x->j7 X x=false)/\∃t,zm X ts t/\(∀ds Y Y',g ds Y=some Y'->ds.length=ts.length)/\∀{H0} {S} {z} {aq} {Y} {U} {H} {vs} {ds} {fp} {Q} {Y'},
 Ok X.K H0 S z aq Y U H->aC X.K H ds vs fp->g ds Y=some Y'->(∀z' aE,Ok X.K H0 S z' aq Y' aE H->(aE.length=U.length/\∀j,j∉is->aE[j]? = U[j]?)->Q aE H)->t vs U H Q
def pU:zP:=λds Y=>match ds with
 |[]=>some Y
 |_=>none
def fV(g:GF)(gs:zP):zP:=λds Y=>match ds with
 |d::r=>if aB d=true then(g d .own Y).bind λY'=>gs r Y' else none
 |_=>none
def Sk(e:fV g gs ds Y=some Y'):∃d r aP,ds=d::r/\aB d=true/\g d .own Y=some aP/\gs r aP=some Y':=by
 cases ds with
 |nil=>ext e
 |cons d r=>
  unfold fV at e;dsimp only at e;let#[hi,e]:=ci e;exists h,g d .own Y,aP,e,0;rw[h,ac1] at e;apply#[d,r,aP,rfl,hi,h,e]
def gT(gs:zP):GF:=λd _ Y=>match d with
 |.tup ds=>gs ds Y
 |_=>none
def cK(i:Nat)(hN:X.N.Nodup)(hi:X.N[i]? = some x:=by rfl)(hx:Loc X.env.scope x:=by first|exact Or.inl rfl|exact Or.inr rfl)(hf:X.fn x=true\/X.env.scope.names.lookup x=some .local:=by first|exact .inl rfl|exact .inr rfl)(lu:j7 X x=false:=by rfl):FG X (.Name x pos) (gN i) [i]:=by
 refine#[λj m y e=>by rw[aaK.mp m,hi] at e;have e:=acq e;subst e;apply lu,_,QF hN hi hx hf,@λH0 S z aq Y U H H1 v d tag fp Q Y' ok s r g e k=>?_];ext e;apply ok.stored s r g λz' bg=>k z' _ bg #[ahw ..,λj hj=>ac6 λe=>hj (by rw[e];apply aap)]
def t_:BX X [] pU []:=by
 refine#[λj m=>(nomatch m),_,Xo,λds Y Y' e=>?_,@λH0 S z aq Y U H vs ds fp Q Y' ok r e k=>?_]
 .cases ds with
  |nil=>rfl
  |cons _ _=>ext e
 .cases ds with
  |nil=>ext r;ext e;apply#[rfl,k z U ok #[rfl,λ_ _=>rfl]]
  |cons _ _=>ext e
def ig(h1:FG X e g is)(h2:BX X es gs ks)(hs:(assignEach (e::es) X.env).map (·.2)=assign e X.env::(assignEach es X.env).map (·.2):=by rfl):BX X (e::es) (fV g gs) (is++ks):=by
 let#[n1,t,p,q]:=h1;let#[n2,t',p',l',q']:=h2;refine#[λj m=>(abB.mp m).elim (n1 j) (n2 j),_,ahy p p' hs,λds Y Y' e=>?_,@λH0 S z aq Y U H vs ds fp Q Y' ok r e k=>?_]
 .let#[d,r,aP,rfl,_,_,h]:=Sk e;rw[acK,acK,l' r aP Y' h]
 .let#[d,dr,aP,rfl,hi,h1,h2]:=Sk e;cases r with
  | @cons _ v _ vr f1 f2 r1 r2=>
   have hn:=r1.aB hi;subst hn;apply#[v,vr,rfl,q ok (aJ.refl H) r1 .nil h1 λz1 pK cM a1=>q' cM r2 h2 λz2 iE nY a2=>k z2 iE nY #[a2.1.trans a1.1,λj hj=>(a2.2 j λm=>hj (aaM _ m)).trans (a1.2 j λm=>hj (aaZ _ m))]]
def ud(hc:X.calm=true)(h:BX X es gs is)(hn:(assignEach es X.env).length=es.length:=by rfl)(dJ:(assignEach es X.env).findIdx? (·.1)=none:=by rfl):FG X (.Tuple es k pos) (gT gs) is:=by
 let#[n1,t,p,l,q]:=h;refine#[n1,_,WU hc p hn dJ,@λH0 S z aq Y U H H1 v d tag fp Q Y' ok s r g e k=>?_];cases r with
 | @tup a xs ds fp hq rs=>
  have e:=e;apply#[a,xs,rfl,hq,by rw[<- rs.length];apply l ds Y Y' e,q (ok.same s) rs e k]
 |_=>ext e
def BI(f:EF)(g:GF):SF:=λY=>match f Y with
 |some (d,t)=>(g d t Y).map .nx
 |none=>none
def abA{is:List Nat}(he:FP X e f)(hg:FG X tg g is)(hs:swapsWithSole [tg] e pos.line X.env=pure false:=by rfl)(hw:swappedStores [tg] e X.env=pure none:=by rfl)
  (h1:(assignEach [tg] X.env).map (·.2)=[assign tg X.env]:=by rfl):fj X (.Assign [tg] e pos) (BI f g):=by
 let#[t,p,q]:=he;let#[n1,t',p',q']:=hg;exists 23,aaG p p' hs hw h1;unfold BI at e;cases h:f Y with
 |none=>rw[h] at e;ext e
 |some w=>
  let#[d,tg]:=w;rw[h] at e;dsimp only at e;cases h2:g d tg Y with
  |none=>rw[h2] at e;ext e
  |some Y'=>
   rw[h2] at e;ext e;apply q ok h λH1 v fp s1 r1 g1=>q' ok s1 r1 g1 h2 λz' aE bg a=>k z' aE H1 bg (.off n1 a.2)
structure Hv where
 d:D
 v:V
 fp:List Addr
def n6(K:Fr)(J:It)(ds:List D)(hv:List Hv):Prop:=∀(H) (i),(∀h∈hv,Rep K H h.d h.v h.fp)->
 (∀d,ds[i]? = some d->J.go i H/\∀x H1,J.x9 i H x H1->aJ H H1/\∃fp,Rep K H1 d x fp/\∀a∈fp,∃h∈hv,a∈h.fp)/\(ds.length<=i->J.stop i H)
abbrev IF:=aR->Option (List D×Tag)
def FI(X:Cx)(tg iter:Expr)(f:IF):Prop:=∃wi,PI X tg iter wi/\∀{H0} {S} {z} {aq} {Y} {U} {H} {R} {ds} {t},
 Ok X.K H0 S z aq Y U H->f Y=some (ds,t)->(∀H1 J hv,aJ H H1->(∀h∈hv,Rep X.K H1 h.d h.v h.fp/\∀a∈h.fp,∀j,z a=some j->∃o,t=.sh o/\j∈o)->n6 X.K J ds hv->R J H1)->wi U H R
def iu(f:EF):IF:=λY=>match f Y with
 |some (.lst ds,t)=>some (ds,t)
 |some (.bX ds,t)=>some (ds,t)
 |some (.tup ds,t)=>some (ds,t)
 |_=>none
def af7(K:Fr)(tl:TE):TI:=λU H R=>tl U H λx H1=>∃a,x=.ref a/\(((∃xs,ck K H1 a xs)/\R (Ai K a) H1)\/((∃xs,bK K H1 a xs)/\R (EK K a) H1))
def acS(hl:PE X l tl):PI X tg l (af7 X.K tl):=by
 intro af s U H R I h;refine hl.n I h λv s1 x H1 I1 r1 q1=>?_
 let#[a,e,q]:=q1;subst e;ext r1;rcases q with⟨⟨xs,hq⟩,q⟩|⟨⟨xs,hq⟩,q⟩
 .let#[aA,rv,p,hz]:=I1.list hq;refine wpAny_pyIter_list p.isList ?_;refine#[s1.heap.objs.size,[s1.heap.objs.size],_,_,H1,rfl,I1.kept (λb o e=>aak _ e),ahz a _,#[_,abx _ rfl,rfl,rfl],λb hb=>?_,q];obtain rfl:b=s1.heap.objs.size:=by simpa using hb
  apply I1.pN (aa9 _) (I1.aH.fresh (aa9 _))
 .let#[aA,rv,p,hz]:=I1.tuple hq;refine wpAny_pyIter_tuple (show s1.heap.IsTuple a aA.toArray from p) ?_;refine#[s1.heap.objs.size,[s1.heap.objs.size],_,_,H1,rfl,I1.kept (λb o e=>aak _ e),aeu a _,#[_,abx _ rfl,rfl,rfl],λb hb=>?_,q];obtain rfl:b=s1.heap.objs.size:=by simpa using hb
  apply I1.pN (aa9 _) (I1.aH.fresh (aa9 _))
def Rep.dM{K:Fr}(r:Rep K H (.lst ds) v fp):∃a xs f,v=.ref a/\ck K H a xs/\aC K H ds xs f/\∀b∈f,b∈fp:=by
 cases r with
 |lst h rs=>apply#[_,_,_,rfl,ck.of h,rs,λb m=>aao _ m]
def Rep.nU{K:Fr}(r:Rep K H (.bX ds) v fp):∃a xs,v=.ref a/\ck K H a xs/\aC K H ds xs fp:=by
 cases r with
 |xT h rs=>apply#[_,_,rfl,h.sq,rs]
def Rep.gY{K:Fr}(r:Rep K H (.tup ds) v fp):∃a xs,v=.ref a/\bK K H a xs/\aC K H ds xs fp:=by
 cases r with
 |tup h rs=>apply#[_,_,rfl,h,rs]
def Yk{K:Fr}:n6 K (Ai K a) ds [#[.lst ds,.ref a,fp]]:=by
 intro H i hh;have r:=hh #[.lst ds,.ref a,fp] aap;let#[a',xs,f,e,hq,rs,sub]:=r.dM;ext e;refine#[λd hd=>?_,λhl=>#[xs,hq,by rw[<- rs.length];apply hl]];let#[v,f',hv,rv,s']:=rs.get hd;refine#[#[xs,v,hq,hv],λx H1 y=>?_];let#[e1,y]:=y;subst e1;have e2:=y xs hq;rw[hv] at e2;ext e2;apply#[aJ.refl _,f',rv,λb m=>#[_,aap,sub b (s' b m)]]
def Xx{K:Fr}:n6 K (Ai K a) ds [#[.bX ds,.ref a,fp]]:=by
 intro H i hh;have r:=hh #[.bX ds,.ref a,fp] aap;let#[a',xs,e,hq,rs]:=r.nU;ext e;refine#[λd hd=>?_,λhl=>#[xs,hq,by rw[<- rs.length];apply hl]];let#[v,f',hv,rv,s']:=rs.get hd;refine#[#[xs,v,hq,hv],λx H1 y=>?_];let#[e1,y]:=y;subst e1;have e2:=y xs hq;rw[hv] at e2;ext e2;apply#[aJ.refl _,f',rv,λb m=>#[_,aap,s' b m]]
def V2{K:Fr}:n6 K (EK K a) ds [#[.tup ds,.ref a,fp]]:=by
 intro H i hh;have r:=hh #[.tup ds,.ref a,fp] aap;let#[a',xs,e,hq,rs]:=r.gY;ext e;refine#[λd hd=>?_,λhl=>#[xs,hq,by rw[<- rs.length];apply hl]];let#[v,f',hv,rv,s']:=rs.get hd;refine#[#[xs,v,hq,hv],λx H1 y=>?_];let#[e1,y]:=y;subst e1;have e2:=y xs hq;rw[hv] at e2;ext e2;apply#[aJ.refl _,f',rv,λb m=>#[_,aap,s' b m]]
def O4{K:Fr}{lo:Int}:n6 K (xj lo n) ((List.range n).map λi:Nat=>D.int (lo+(i:Int))) []:=by
 intro H i _;refine#[λd hd=>?_,λhl=>?_]
 .rw[acB] at hd
  by_cases hi:i<n
  .rw[List.getElem?_range hi] at hd;ext hd;refine#[hi,λx H1 y=>?_];let#[e1,e2]:=y;subst e1 e2;apply#[aJ.refl _,[],.int _,λb m=>nomatch m]
  .rw[aiN (by simpa using hi)] at hd;ext hd
 .rw[List.length_map,ajd] at hl;apply hl
def dh.over{K:Fr}(ok:Ok K H0 S z aq Y U H)(g:dh z H t fp):∀a∈fp,∀j,z a=some j->∃o,t=.sh o/\j∈o:=by
 intro a m j q;cases t with
 |sh o=>apply#[o,rfl,g a m j q]
 |own=>let#[#[o,w],_]:=ok.zd a j q;rw[g.2 a m] at w;ext w
 |lk=>let#[#[o,w],_]:=ok.zd a j q;rw[g.2 a m] at w;ext w
def gm{l:Expr}{f:EF}(hl:FP X l f):FI X tg l (iu f):=by
 let#[t,p,q]:=hl;exists 24,acS p;unfold iu at e;exists h,f Y,w,e,0;let#[d,Uv]:=w;rw[h] at e;cases d with
 |lst es=>
  ext e;refine q ok h λH1 v fp s1 r1 g1=>?_
  let#[a,xs,f,rfl,hq,rs,sub]:=r1.dM;apply#[a,rfl,.inl #[#[xs,hq],k H1 _ [#[.lst ds,.ref a,fp]] s1 (λh m=>by cases aaK.mp m;apply#[r1,g1.over ok]) Yk]]
 |bX es=>
  ext e;refine q ok h λH1 v fp s1 r1 g1=>?_
  let#[a,xs,rfl,hq,rs]:=r1.nU;apply#[a,rfl,.inl #[#[xs,hq],k H1 _ [#[.bX ds,.ref a,fp]] s1 (λh m=>by cases aaK.mp m;apply#[r1,g1.over ok]) Xx]]
 |tup es=>
  ext e;refine q ok h λH1 v fp s1 r1 g1=>?_
  let#[a,xs,rfl,hq,rs]:=r1.gY;apply#[a,rfl,.inr #[#[xs,hq],k H1 _ [#[.tup ds,.ref a,fp]] s1 (λh m=>by cases aaK.mp m;apply#[r1,g1.over ok]) V2]]
 |_=>ext e
def small(i:Int):Bool:=decide (-(2 ^ 62)<=i)&&decide (i<2 ^ 62)
def yW(g:EF):IF:=λY=>match g Y with
 |some (.int j,_)=>if small j=true then some ((List.range j.toNat).map λi:Nat=>D.int (0+(i:Int)),.own) else none
 |_=>none
def qO(f g:EF):IF:=λY=>match f Y,g Y with
 |some (.int i,_),some (.int j,_)=>if(small i&&small j)=true then some ((List.range (j-i).toNat).map λk:Nat=>D.int (i+(k:Int)),.own) else none
 |_,_=>none
def wM(h:small i=true):-(2 ^ 62)<=i/\i<2 ^ 62:=by
 let#[a,b]:=(aaF _ _).mp h;apply#[aaY a,aaY b]
def IU(hm:X.mg "range"=none)(ha:FP X a g)(hg:Gl X "range":=by rfl)(hs:starEach [a] X.env=[(false,eval a X.env)]:=by rfl):FI X tg (.Call (.Name "range" p) [a] [] pos) (yW g):=by
 let#[t,pa,q]:=ha;exists 24,acu hg hm (eO pa f7 hs) hs;unfold yW at e;exists h,g Y,w,e,0;let#[d,Uv]:=w;rw[h] at e;cases d with
 |int j=>
  dsimp only at e;let#[hj,e]:=ci e;ext e;refine q ok h λH1 v fp s1 r1 g1=>?_
  ext r1;apply#[j,rfl,(wM hj).1,(wM hj).2,k H1 _ [] s1 (λh m=>nomatch m) O4]
 |_=>ext e
def AY(hm:X.mg "range"=none)(ha:FP X a f)(hb:FP X b g)(hg:Gl X "range":=by rfl)(hs:starEach [a,b] X.env=[(false,eval a X.env),(false,eval b X.env)]:=by rfl)(bS:starEach [b] X.env=[(false,eval b X.env)]:=by rfl):
  FI X tg (.Call (.Name "range" p) [a,b] [] pos) (qO f g):=by
 let#[t,pa,q]:=ha;let#[t',pb,q']:=hb;exists 24,YZ hg hm (eO pa (eO pb f7 bS) (by rw[hs,bS])) hs bS;unfold qO at e;exists h,f Y,w,e,0;let#[d,Uv]:=w;cases h2:g Y with
 |none=>rw[h,h2] at e;ext d<;>ext e
 |some w=>
  let#[d2,tg2]:=w;rw[h,h2] at e;cases d with
  |int i=>
   cases d2 with
   |int j=>
    dsimp only at e;let#[hj,e]:=ci e;ext e;let#[si,sj]:=(aaF _ _).mp hj;refine q ok h λH1 v fp s1 r1 g1=>?_
    ext r1;refine q' (ok.same s1) h2 λH2 v fp s2 r2 g2=>?_
    ext r2;apply#[i,j,rfl,#[(wM si).1,(wM si).2,(wM sj).1,(wM sj).2],k H2 _ [] (s1.trans s2) (λh m=>nomatch m) O4]
   |_=>ext e
  |_=>ext e
def mP:Tag->List Nat
 |.sh o=>o
 |_=>[]
def k7(t:Tag):Tag:=.sh (mP t)
def ownAt(Y:aR)(j:Nat):Bool:=match Y[j]? with
 |some (some (_,.own))=>true
 |_=>false
def nO(o:List Nat)(Y:aR):List Nat:=o.filter (ownAt Y)
def So:Tag->Tag
 |.own=>.lk
 |t=>t
def Rl:Tag->Tag
 |.lk=>.own
 |t=>t
def BN(f:Tag->Tag):Slot->Slot
 |some (d,t)=>some (d,f t)
 |none=>none
def pC:List Nat->aR->aR
 |[],Y=>Y
 |j::r,Y=>pC r (Y.modify j (BN So))
def ug:List Nat->aR->aR
 |[],Y=>Y
 |j::r,Y=>ug r (Y.modify j (BN Rl))
def cY(g:GF)(t:Tag)(f:SF):List D->SF
 |[],Y=>some (.nx Y)
 |d::ds,Y=>match g d t Y with
  |none=>none
  |some aP=>match f aP with
   |some (.nx aQ)=>cY g t f ds aQ
   |some (.ct aQ)=>cY g t f ds aQ
   |some (.bk aQ)=>some (.nx aQ)
   |some (.rt r)=>some (.rt r)
   |some (.er raw cn aQ)=>some (.er raw cn aQ)
   |none=>none
def jc(it:IF)(g:GF)(f:SF):SF:=λY=>match it Y with
 |none=>none
 |some (ds,t)=>match cY g (k7 t) f ds (pC (nO (mP t) Y) Y) with
  |some (.nx Y')=>some (.nx (ug (nO (mP t) Y) Y'))
  |some (.rt d)=>some (.rt d)
  |some (.er raw cn Y')=>some (.er raw cn (ug (nO (mP t) Y) Y'))
  |_=>none
theorem AL:∀{ks} {Y} {i} {d} {t},(pC ks Y)[i]? = some (some (d,t))->∃t',Y[i]? = some (some (d,t'))/\(t=t'\/(t'=.own/\t=.lk))/\(i∈ks->t≠.own)
 |[],Y,i,d,t,h=>#[t,h,.inl rfl,λm=>nomatch m]
 |j::r,Y,i,d,t,h=>by
  let#[t1,h1,h2,h3]:=AL (ks:=r) h;rw[List.getElem?_modify] at h1;exists e,Y[i]?,s,h1;have ie:(if j=i then BN So s else s)=some (d,t1):=acq h1
  by_cases hj:j=i
  .rw[if_pos hj] at ie;cases s with
   |none=>ext ie
   |some p=>
    let#[d0,t0]:=p;ext ie;refine#[t0,rfl,?_,λ_=>?_]
    .rcases h2 with h2|⟨h2,l7⟩
     .cases t0<;>first|exact .inl h2|exact .inr #[rfl,h2]
     .cases t0<;>ext h2
    .rcases h2 with h2|⟨h2,l7⟩
     .rw[h2];ext t0<;>(intro z;ext z)
     .rw[l7];intro z;ext z
  .rw[abm hj] at ie;subst ie;refine#[t1,rfl,h2,λm=>?_];rcases aat.mp m with z|z
   .exact absurd z.symm hj
   .exact h3 z
theorem OY:∀{ks} {Y},(pC ks Y).length=Y.length
 |[],_=>rfl
 |_::r,Y=>(OY (ks:=r)).trans (List.length_modify ..)
theorem P0:∀{ks} {Y},(ug ks Y).length=Y.length
 |[],_=>rfl
 |_::r,Y=>(P0 (ks:=r)).trans (List.length_modify ..)
theorem Gj:∀{ks} {Y} {i} {d} {t},(ug ks Y)[i]? = some (some (d,t))->∃t',Y[i]? = some (some (d,t'))/\(t=t'\/(t'=.lk/\t=.own/\i∈ks))
 |[],Y,i,d,t,h=>#[t,h,.inl rfl]
 |j::r,Y,i,d,t,h=>by
  let#[t1,h1,h2]:=Gj (ks:=r) h;rw[List.getElem?_modify] at h1;exists e,Y[i]?,s,h1;have ie:(if j=i then BN Rl s else s)=some (d,t1):=acq h1
  by_cases hj:j=i
  .rw[if_pos hj] at ie;cases s with
   |none=>ext ie
   |some p=>
    let#[d0,t0]:=p;ext ie;refine#[t0,rfl,?_];rcases h2 with h2|⟨h2,l7,h3⟩
    .cases t0<;>first|exact .inl h2|exact .inr #[rfl,h2,by rw[hj];apply aap]
    .cases t0<;>ext h2
  .rw[abm hj] at ie;subst ie;refine#[t1,rfl,?_];rcases h2 with h2|⟨h2,l7,h3⟩
   .exact .inl h2
   .exact .inr #[h2,l7,aao _ h3]
def uU(z:Addr->Option Nat)(hv:List Hv):List qJ:=hv.map λh=>#[h.d,h.v,h.fp,z]
def yx(z:Addr->Option Nat)(aq:List qJ):List qJ:=aq.map λh=>{ h with z0:=z }
section
variable{K:Fr}
def Ok.begin(ok:Ok K H0 S z aq Y U H)(hh:∀h∈hv,Rep K H h.d h.v h.fp/\∀a∈h.fp,∀j,z a=some j->∃o,t=.sh o/\j∈o):
  Ok K H0 S z (uU z hv++yx z aq) (pC (nO (mP t) Y) Y) U H:=by
 refine#[λi d tg e=>?_,λp m=>?_,ok.zd,ok.en,by rw[OY];apply ok.ln]
 .let#[t',e',h,_]:=AL e;let#[v,fp,a,b,c]:=ok.sl i d t' e';refine#[v,fp,a,b,?_];rcases h with h|⟨h,h'⟩
  .subst h;apply c
  .subst h h';apply c
 .have aaC:∀j,vK Y j->vK (pC (nO (mP t) Y) Y) j:=λj n d e=>by
   let#[t',e',h,_]:=AL e;rcases h with h|⟨h,h'⟩
   .subst h;apply n d e'
   .cases h'
  rcases abB.mp m with m|m
  .let#[h,hm,rfl]:=abG.mp m;refine#[(hh h hm).1,λa ha j q=>#[q,λd e=>?_]];let#[o,rfl,hj]:=(hh h hm).2 a ha j q;let#[t',e',h',n]:=AL e;rcases h' with h'|⟨h',mY⟩
   .subst h';apply n (ad3.mpr #[hj,by unfold ownAt;rw[e']]) rfl
   .cases mY
  .let#[h,hm,rfl]:=abG.mp m;let#[r,hz]:=ok.hl h hm;apply#[r,λa ha j q=>#[q,aaC j (hz a ha j q).2]]
def Ok.fin(ok:Ok K H0 S z aq Y U H)(bg:Ok K H0 S z' (uU z hv++yx z aq) Y' aE H'):Ok K H0 S z' aq (ug (nO (mP t) Y) Y') aE H':=by
 refine#[λi d tg e=>?_,λp m=>?_,bg.zd,bg.en,by rw[P0];apply bg.ln]
 .let#[t',e',h]:=Gj e;let#[v,fp,a,b,c]:=bg.sl i d t' e';refine#[v,fp,a,b,?_];rcases h with h|⟨h,h',_⟩
  .subst h;apply c
  .subst h h';apply c
 .let#[r,hz]:=bg.hl { p with z0:=z } (aaM _ (abG.mpr #[p,m,rfl]));refine#[r,λa ha j q=>?_];let#[h1,h2]:=hz a ha j q;have h1:=h1;let#[h3,h4]:=(ok.hl p m).2 a ha j h1;refine#[h3,λd e=>?_];let#[t',e',h]:=Gj e;rcases h with h|⟨h,_,hk⟩
  .subst h;apply h2 d e'
  .have ho:=(ad3.mp hk).2;unfold ownAt at ho;exists e0,Y[j]?,s,ho;cases s with
   |none=>ext ho
   |some p=>
    let#[d0,t0]:=p;ext t0<;>first|exact h4 d0 e0|ext ho
end
def l5(hc:X.calm=true)(hi:FI X tg iter it)(hg:FG X tg g is)(hb:FS X body f)(hp:PassesOwn (model X.prog X.w) X.A X.env X.xe:=by apply PassesOwn.never)
  (hs:∀x,foldedSetIterable iter X.env x=pure x:=by intro _;rfl):fj X (.For tg iter body [] pos) (jc it g f):=by
 let#[wi,pi,si]:=hi;let#[n1,tgt,pg,sg]:=hg;let#[tb,pb,sb]:=hb;exists 23,adq hp hc pi pg pb hs;unfold jc at e;exists h,it Y,w,e,0;let#[ds,t]:=w;rw[h] at e;dsimp only at e;refine si ok h λH1 J hv s1 hh KC=>?_
 exists ho,cY g (k7 t) f ds (pC (nO (mP t) Y) Y),out,e;have cM:=ok.same s1;have nY:=cM.begin hh;have fin:∀{z'} {Y'} {aE} {H'},Ok X.K H0 S z' (uU z hv++yx z aq) Y' aE H'->out=.nx Y'->Kp X U aE->E.nx aE H':=λ{z' Y' aE H'} bg eo kp=>by
  subst eo;ext e;apply k z' aE H' (cM.fin bg) kp
 refine#[λi m aE H'=>m=ds.length-i/\∃z' Y',Ok X.K H0 S z' (uU z hv++yx z aq) Y' aE H'/\cY g (k7 t) f (ds.drop i) Y'=some out/\Kp X U aE,#[ds.length,rfl,z,_,nY,ho,.refl _ _],?_]
 rintro i m aE H' ⟨rfl,z',Y',bg,e',kp⟩
 have hH:∀h∈hv,Rep X.K H' h.d h.v h.fp:=λh m=>(bg.hl _ (aaZ _ (abG.mpr #[h,m,rfl]))).1
 let#[go,stop]:=KC H' i hH
 by_cases hl:ds.length<=i
 .refine .inl #[stop hl,?_];rw[List.drop_eq_nil_of_le hl] at e';ext e';apply fin bg rfl kp
 .have cI:=Nat.lt_of_not_le hl;rw[ajh cI] at e';let#[g1,g2]:=go ds[i] (abe cI);refine .inr #[g1,λiE H2=>∃z' Y',Ok X.K H0 S z' (uU z hv++yx z aq) Y' iE H2/\cY g (k7 t) f (ds.drop (i+1)) Y'=some out/\Kp X U iE,λiE H2 hn=>#[ds.length-(i+1),by omega,rfl,hn],λx H2 y=>?_];let#[s2,fp,r2,sub]:=g2 x H2 y;unfold cY at e';cases rO:g ds[i] (k7 t) Y' with
  |none=>rw[rO] at e';ext e'
  |some aP=>
   rw[rO] at e';dsimp only at e';refine sg (tag:=k7 t) bg s2 r2 (λa ha j q=>?_) rO λz2 iE gR a3=>?_
   .let#[h,hm,L5]:=sub a ha;let#[_,hz]:=bg.hl _ (aaZ _ (abG.mpr #[h,hm,rfl]));let#[q0,_]:=hz a L5 j q;let#[o',rfl,hj]:=(hh h hm).2 a L5 j q0;apply hj
   .cases hf:f aP with
    |none=>rw[hf] at e';ext e'
    |some o1=>
     rw[hf] at e';refine sb gR hf ?_;cases o1 with
     |nx aQ=>apply λz3 dD H3 i0 b=>#[z3,aQ,i0,e',(kp.trans (.off n1 a3.2)).trans b]
     |ct aQ=>apply λz3 dD H3 i0 b=>#[z3,aQ,i0,e',(kp.trans (.off n1 a3.2)).trans b]
     |bk aQ=>
      ext e';apply λz3 dD H3 i0 b=>fin i0 rfl ((kp.trans (.off n1 a3.2)).trans b)
     |rt d=>
      ext e';ext e;apply k
     |er raw cn aQ=>
      ext e';ext e;let#[ES,th,q]:=k;apply#[ES,th,λz3 dD H3 C i0 b hC=>q z3 dD H3 C (cM.fin i0) ((kp.trans (.off n1 a3.2)).trans b) hC]
def iD(c:TF)(f:SF):Nat->SF
 |0,_=>none
 |n+1,Y=>match c Y with
  |some false=>some (.nx Y)
  |some true=>match f Y with
   |some (.nx Y')=>iD c f n Y'
   |some (.ct Y')=>iD c f n Y'
   |some (.bk Y')=>some (.nx Y')
   |some (.rt d)=>some (.rt d)
   |some (.er raw cn Y')=>some (.er raw cn Y')
   |none=>none
  |none=>none
def M8(n:Nat)(hc:FT X c tc)(hb:FS X body f)(hp:PassesOwn (model X.prog X.w) X.A X.env X.xe:=by apply PassesOwn.never):fj X (.While c body [] pos) (iD tc f n):=by
 let#[t,p,q]:=hc;let#[tb,pb,qb]:=hb;exists 23,RH hp p pb;refine#[λm aE H'=>∃z' Y',Ok X.K H0 S z' aq Y' aE H'/\iD tc f m Y'=some o/\Kp X U aE,#[n,z,Y,ok,e,.refl _ _],?_]
 rintro m aE H' ⟨z',Y',bg,e',kp⟩
 cases m with
 |zero=>ext e'
 |succ m=>
  unfold iD at e';exists hc,tc Y',b,e';refine q bg hc λH1 s1=>?_
  cases b with
  |false=>
   ext e';rw[abm aa3];apply k z' aE H1 (bg.same s1) kp
  |true=>
   rw[if_pos rfl];dsimp only at e';exists hf,f Y',o1,e';refine#[λiE H2=>∃z2 aQ,Ok X.K H0 S z2 aq aQ iE H2/\iD tc f m aQ=some o/\Kp X U iE,λiE H2 hn=>#[m,aid m,hn],?_];refine qb (bg.same s1) hf ?_;cases o1 with
   |nx aQ=>apply λz3 dD H3 i0 b=>#[z3,aQ,i0,e',kp.trans b]
   |ct aQ=>apply λz3 dD H3 i0 b=>#[z3,aQ,i0,e',kp.trans b]
   |bk aQ=>
    ext e';apply λz3 dD H3 i0 b=>k z3 dD H3 i0 (kp.trans b)
   |rt d=>
    ext e';apply k
   |er raw cn aQ=>
    ext e';let#[ES,th,q]:=k;apply#[ES,th,λz3 dD H3 C i0 b hC=>q z3 dD H3 C i0 (kp.trans b) hC]
def Ju(K:Fr)(f:EF):TE:=λU H Q=>∃H0 S z aq Y d tg,Ok K H0 S z aq Y U H/\f Y=some (d,tg)/\∀H' v fp,aJ H H'->Rep K H' d v fp->dh z H tg fp->Q v H'
def zo(K:Fr)(f:TF):TT:=λU H Q=>∃H0 S z aq Y b,Ok K H0 S z aq Y U H/\f Y=some b/\∀H',aJ H H'->Q b H'
def E8(K:Fr)(g:GF)(is:List Nat):TG:=λv U H1 Q=>∃H0 S z aq Y H d tag fp Y',Ok K H0 S z aq Y U H/\aJ H H1/\Rep K H1 d v fp/\dh z H tag fp/\g d tag Y=some Y'/\
 ∀z' aE,Ok K H0 S z' aq Y' aE H1->(aE.length=U.length/\∀j,j∉is->aE[j]? = U[j]?)->Q aE H1
def FP.pe(h:FP X e f):PE X e (Ju X.K f):=by
 let#[t,p,q]:=h
 rintro af s U H Q I ⟨H0,S,z,aq,Y,d,tg,ok,e,k⟩
 apply p af s U H Q I (q ok e k)
def FT.pt(h:FT X e f):PT X e (zo X.K f):=by
 let#[t,p,q]:=h
 rintro af s U H Q I ⟨H0,S,z,aq,Y,b,ok,e,k⟩
 apply p af s U H Q I (q ok e k)
def FG.pg(h:FG X e g is):PG X e (E8 X.K g is):=by
 let#[_,t,p,q]:=h
 rintro af s U H1 v u Q I r ⟨H0,S,z,aq,Y,H,d,tag,fp,Y',ok,sm,rp,tk,e,k⟩
 apply p af s U H1 v u Q I r (q ok sm rp tk e k)
def AI(X:Cx)(ifs:List Expr)(f:TF):Prop:=tE X ifs (zo X.K f)
def nH:TF:=λ_=>some true
def kP:AI X [] nH:=by
 rintro af s U H Q I ⟨H0,S,z,aq,Y,b,ok,e,k⟩
 ext e;apply wpAny_tests_nil #[H,I,k H (aJ.refl H)]
def qA(h:FT X c f):AI X [c] f:=Rb h.pt
def jw(js:List (Option Nat))(Y:aR):aR:=js.map λj=>match j with
 |none=>none
 |some j=>match Y[j]? with
  |some (some (d,_))=>some (d,.sh [])
  |_=>none
def jF(g:GF)(tt:TF)(te:EF)(Y:aR)(d:D):Option (Option D):=match g d (.sh []) Y with
 |none=>none
 |some aP=>match tt aP with
  |none=>none
  |some false=>some none
  |some true=>match te aP with
   |none=>none
   |some (e,t)=>if jy t=true then some (some e) else if aB e=true then some (some e) else none
def oH(h:D->Option (Option D)):List D->Option (List D)
 |[]=>some []
 |d::ds=>match h d with
  |none=>none
  |some none=>oH h ds
  |some (some e)=>match oH h ds with
   |none=>none
   |some es=>some (e::es)
def iW(js:List (Option Nat))(it:IF)(g:GF)(tt:TF)(te:EF):EF:=λY=>match it Y with
 |none=>none
 |some (ds,_)=>if ds.length<sizeLine then(oH (jF g tt te (jw js Y)) ds).map λes=>(.lst es,.own) else none
theorem QB:∀{ds},(∀d∈ds,h d=some (k d))->oH h ds=some (ds.filterMap k)
 |[],_=>rfl
 |d::ds,e=>by
  unfold oH;rw[e d aap,QB λx m=>e x (aao _ m),aeX];cases k d<;>rfl
section
variable{X:Cx}
def L_(Aa:∀i∈is,js[i]? = some none)
  (si:∀{H0} {S} {z} {aq} {Y} {U} {H} {R} {ds} {t},
   Ok X.K H0 S z aq Y U H->it Y=some (ds,t)->(∀H1 J hv,aJ H H1->(∀h∈hv,Rep X.K H1 h.d h.v h.fp/\∀a∈h.fp,∀j,z a=some j->∃o,t=.sh o/\j∈o)->n6 X.K J ds hv->R J H1)->wi U H R)
  (ok:Ok X.K H0 S z aq Y U H) (e:iW js it g tt te Y=some (d,tg))
  (k:∀H' v fp,aJ H H'->Rep X.K H' d v fp->dh z H tg fp->Q v H'):Fy wi js (E8 X.K g is) (zo X.K tt) (Ju X.K te) U H Q:=by
 unfold iW at e;cases h:it Y with
 |none=>rw[h] at e;ext e
 |some w=>
  let#[ds,t]:=w;rw[h] at e;dsimp only at e
  by_cases hz:ds.length<sizeLine
  .rw[if_pos hz] at e;cases Ll:oH (jF g tt te (jw js Y)) ds with
   |none=>rw[Ll] at e;ext e
   |some es=>
    rw[Ll] at e;ext e;refine si ok h λH1 J hv s1 hh KC Dd u9=>?_
    have cM:=ok.same s1;have inner:∀(aE) (H2),aJ H1 H2->(∃o,H2 Dd=some o)->aE.length=js.length->(∀j,j∉is->aE[j]? = (lP js U)[j]?)->Ok X.K H1 [] (λa=>if a=Dd then some js.length else none) (uU (λ_=>none) hv) (jw js Y) aE H2:=by
     intro aE H2 s2 JU hlen Dg;have nD:∀{a} {o},H1 a=some o->a≠Dd:=λe=>cO e u9
     refine#[λi d t e=>?_,λp m=>?_,λa j e=>?_,λa o e _=>s2 _ _ e,by unfold jw;rw[List.length_map,hlen]]
     .unfold jw at e;rw[acB] at e;cases hj:js[i]? with
      |none=>rw[hj] at e;ext e
      |some o=>
       rw[hj] at e;cases o with
       |none=>ext e
       |some j=>
        have e:(match Y[j]? with|some (some (d,_))=>some (d,Tag.sh [])|_=>none)=some (d,t):=acq e;cases hr:Y[j]? with
        |none=>rw[hr] at e;ext e
        |some s=>
         rw[hr] at e;cases s with
         |none=>ext e
         |some p=>
          let#[d0,t0]:=p;have e1:d0=d/\Tag.sh []=t:=Prod.mk.inj (acq e);let#[rfl,rfl]:=e1;let#[v,fp,hs,r,_]:=cM.sl j d0 t0 hr;have hi:i∉is:=λm=>by rw[Aa i m] at hj;ext hj
          refine#[v,fp,?_,r.same s2,λa m q e=>?_]
          .rw[Dg i hi];unfold lP;rw[acB,hj];show some ((U[j]?).join)=some (some v);rw[hs];rfl
          .let#[o,w,_]:=r.eB a m;dsimp only at e;rw[abm (nD w)] at e;ext e
     .let#[h,hm,rfl]:=abG.mp m;refine#[(hh h hm).1.same s2,λa ha q e=>?_];let#[o,w,_]:=(hh h hm).1.eB a ha;rw[abm (nD w)] at e;ext e
     .by_cases w:a=Dd
      .rw[w];apply#[JU,.inl u9]
      .rw[abm w] at e;ext e
    refine#[λi m aE H'=>m=ds.length - i/\aJ H1 H'/\aE.length=js.length/\(∀j,j∉is->aE[j]? = (lP js U)[j]?)/\∃done rest vs fp,H' Dd=some (.lst vs)/\aC X.K H' done vs fp/\fp.Nodup/\(∀a∈fp,H1 a=none/\a≠Dd)/\
     oH (jF g tt te (jw js Y)) (ds.drop i)=some rest/\done++rest=es/\done.length<=i,?_,?_]
    .refine#[ds.length,rfl,λb o e=>by rw[aM (cO e u9)];apply e,by unfold lP;rw[List.length_map],λ_ _=>rfl,[],es,[],[],bI,.nil,acv,(λa m=>nomatch m),Ll,rfl,aa9 _]
    .rintro i m aE H' ⟨rfl,sH,hlen,Dg,done,rest,vs,fp,hD,rs,nd,fr,hr,rfl,hle⟩
     let#[go,stop]:=KC H' i λh m=>(hh h m).1.same sH
     by_cases hl:ds.length<=i
     .refine .inl #[stop hl,?_];rw[List.drop_eq_nil_of_le hl] at hr;ext hr;rw[acU] at k;refine k H' (.ref Dd) (Dd::fp) (s1.trans sH) (.lst hD rs) #[ab3.mpr #[λm=>(fr Dd m).2 rfl,nd],λa m=>?_];rcases aat.mp m with e|m
      .rw[e];apply s1.free u9
      .exact s1.free (fr a m).1
     .have cI:i<ds.length:=Nat.lt_of_not_le hl;rw[ajh cI] at hr;let#[g1,g2]:=go ds[i] (abe cI);refine .inr #[g1,λx H2 y=>?_];let#[s2,i8,r2,sub]:=g2 x H2 y;have nY:=inner aE H' sH #[_,hD] hlen Dg;unfold oH at hr;cases hE:jF g tt te (jw js Y) ds[i] with
      |none=>rw[hE] at hr;ext hr
      |some oe=>
       rw[hE] at hr;unfold jF at hE;cases rO:g ds[i] (.sh []) (jw js Y) with
       |none=>rw[rO] at hE;ext hE
       |some aP=>
        rw[rO] at hE;dsimp only at hE;have Vs:dh (λa=>if a=Dd then some js.length else none) H' (.sh []) i8:=λa m j e=>by
         let#[h,hm,ha]:=sub a m;let#[o,w,_]:=(hh h hm).1.eB a ha;dsimp only at e;rw[abm (cO w u9)] at e;ext e
        refine#[H1,[],_,_,jw js Y,H',ds[i],.sh [],i8,aP,nY,s2,r2,Vs,rO,λz3 dD gR Q0=>?_];have Te:dD.length=js.length:=Q0.1.trans hlen;have Ti:∀j,j∉is->dD[j]? = (lP js U)[j]? :=λj hj=>(Q0.2 j hj).trans (Dg j hj)
        cases ht:tt aP with
        |none=>rw[ht] at hE;ext hE
        |some b=>
         rw[ht] at hE;refine#[H1,[],z3,_,aP,b,gR,ht,λH4 s4=>?_];have Jg:aJ H1 H4:=(sH.trans s2).trans s4;have yE:aJ H' H4:=s2.trans s4;cases b with
         |false=>
          ext hE;refine acs ?_;apply#[ds.length-(i+1),by lia,rfl,Jg,Te,Ti,done,rest,vs,fp,yE _ _ hD,rs.same yE,nd,fr,hr,rfl,Nat.le_succ_of_le hle]
         |true=>
          refine Wa ?_;dsimp only at hE;cases Fp:te aP with
          |none=>rw[Fp] at hE;ext hE
          |some w=>
           let#[y,ty]:=w;rw[Fp] at hE;dsimp only at hE;refine#[H1,[],z3,_,aP,y,ty,gR.same s4,Fp,λH5 yv fy s5 ry gy=>?_];have zJ:oe=some y/\fy.Nodup/\∀a∈fy,H4 a=none:=by
            by_cases ho:jy ty=true
            .rw[if_pos ho] at hE;ext hE;apply#[rfl,by ext ty<;>first|exact gy|ext ho]
            .rw[abm ho] at hE
             by_cases hi:aB y=true
             .rw[if_pos hi] at hE;ext hE;have hn:=ry.aB hi;subst hn;apply#[rfl,acv,λa m=>nomatch m]
             .rw[abm hi] at hE;ext hE
           let#[rfl,Xb,F1]:=zJ;dsimp only at hr;cases w_:oH (jF g tt te (jw js Y)) (ds.drop (i+1)) with
           |none=>rw[w_] at hr;ext hr
           |some r'=>
            rw[w_] at hr;ext hr;have NN:aJ H' H5:=yE.trans s5;have Mq:H5 Dd=some (.lst vs):=NN _ _ hD;have lv:vs.length<sizeLine:=by rw[<- rs.length];lia
            have im:bu H5 (upd H5 Dd (.lst (vs++[yv]))):=bu.upd Mq rfl;have n1:∀a∈fp++fy,a≠Dd:=λa m=>by
             rcases abB.mp m with m|m
             .exact(fr a m).2
             .intro e;have:=F1 a m;rw[e,yE _ _ hD] at this;ext this
            have rs5:aC X.K H5 (done++[y]) (vs++[yv]) (fp++fy):=by
             have q:=aC.append (rs.same NN) (aC.cons ry .nil);rw[acU] at q;apply q
            refine#[vs,Mq,lv,ds.length-(i+1),by lia,rfl,λb o e=>?_,Te,Ti,done++[y],r',vs++[yv],fp++fy,bI,rs5.frame (λa m=>aM (n1 a m)) im,?_,λa m=>?_,w_,?_,?_]
            .rw[aM (cO e u9)];apply s5 _ _ (Jg _ _ e)
            .refine ac7.mpr #[nd,Xb,λa m b m' e=>?_];subst e;let#[o,w,_]:=(rs.same yE).eB a m;rw[F1 a m'] at w;ext w
            .refine#[?_,n1 a m];rcases abB.mp m with m|m
             .exact(fr a m).1
             .exact Jg.free (F1 a m)
            .rw[afG];rfl
            .rw[abE,aea];lia
  .rw[abm hz] at e;ext e
def je{ifs:List Expr}{tt:TF}{te:EF}{is:List Nat}(S:mh X M js sc)(hc:X.calm=true)(hi:FI X tg iter it)(Aa:∀i∈is,js[i]? = some none)
  (hb:∀s3 H3 fp,FG (eE X M sc s3 H3 fp) tg g is/\AI (eE X M sc s3 H3 fp) ifs tt/\FP (eE X M sc s3 H3 fp) elt te) (hs:∀x,foldedSetIterable iter X.env x=pure x:=by intro _;rfl) :
  FP X (.ListComp elt [#[tg,iter,ifs,0]] sc pos) (iW js it g tt te):=by
 let#[wi,pi,si]:=hi;apply#[_,SW (tt:=zo X.K tt) S hc pi (λs3 H3 fp=>#[(hb s3 H3 fp).1.pg,(hb s3 H3 fp).2.1,(hb s3 H3 fp).2.2.pe]) hs,@λH0 S z aq Y U H Q d tg ok e k=>L_ Aa si ok e k]
def DN(i:Nat){ifs:List Expr}{js:List (Option Nat)}{it:IF}{is:List Nat}(hN:X.N.Nodup)(S:mh X M js sc)(hc:X.calm=true)(hi:FI X tg iter it)
  (Aa:∀i∈is,js[i]? = some none) (hb:∀s3 H3 fp,FG (eE X M sc s3 H3 fp) tg g is/\AI (eE X M sc s3 H3 fp) ifs tt/\FP (eE X M sc s3 H3 fp) elt te) (hy:X.N[i]? = some y:=by rfl) (hl:X.env.scope.names.lookup y=some .local:=by rfl)
  (kh:swapsWith (.ListComp elt [#[tg,iter,ifs,0]] sc pos) (some (.Name y py)) GZ.line X.env=pure true:=by rfl) (hs:∀x,foldedSetIterable iter X.env x=pure x:=by intro _;rfl) (lu:j7 X y=false:=by rfl) :
  fj X (.Assign [.Name y py] (.ListComp elt [#[tg,iter,ifs,0]] sc pos) GZ) (eS i (iW js it g tt te)):=by
 let#[wi,pi,si]:=hi;exists 23,ac4 (g:=E8 X.K g is) (tt:=zo X.K tt) (te:=Ju X.K te) hN hy hl S hc pi (λs3 H3 fp=>#[(hb s3 H3 fp).1.pg,(hb s3 H3 fp).2.1,(hb s3 H3 fp).2.2.pe]) kh hs;unfold eS at e;exists h,iW js it g tt te Y,w,e,0;let#[d,tg]:=w;rw[h] at e;ext e;refine L_ Aa si ok h λH1 v fp s1 r1 g1=>?_
 apply ok.stored s1 r1 g1 λz' bg=>k z' _ H1 bg (.set hy lu)
end
def sy(n:Nat)(ds:List D):aR:=ds.map (λd=>some (d,.sh []))++List.replicate (n-ds.length) none
def bH(n N:Nat)(b:SF):List D->Option D:=λds=>if ds.length=n then(match b (sy N ds) with
 |some (.rt d)=>some d
 |some (.nx _)=>some .aI
 |_=>none) else none
abbrev CF:=List D->List D->Option D
def Ce(N:Nat)(es ds:List D):aR:=es.map (λd=>some (d,.own))++(ds.map (λd=>some (d,.sh []))++List.replicate (N-(ds.length+es.length)) none)
def runC(n N:Nat)(b:SF):CF:=λes ds=>if ds.length + es.length=n then(match b (Ce N es ds) with
 |some (.rt d)=>some d
 |some (.nx _)=>some .aI
 |_=>none) else none
def Wp(K:Fr)(G:CF):Sp:=λvs H Q _=>∃us ws es ds aO cP d,vs=us++ws/\aC K H es us aO/\aO.Nodup/\aC K H ds ws cP/\(∀b∈cP,b∉aO)/\G es ds=some d/\
 ∀H' v fp,(∀a o,H a=some o->a∉aO->H' a=some o)->Rep K H' d v fp->fp.Nodup->(∀a∈fp,H a=none\/a∈aO)->Q v H'
def aC.own{K:Fr}:∀{es} {us} {fp} (k),aC K H es us fp->fp.Nodup->∃z:Addr->Option Nat,(∀i d,es[i]? = some d->∃v f,us[i]? = some v/\Rep K H d v f/\f.Nodup/\∀a∈f,z a=some (k+i))/\∀a j,z a=some j->a∈fp
 |_,_,_,_,.nil,_=>#[λ_=>none,λi d e=>by simp at e,λ_ _ e=>nomatch e]
 |_,_,_,k,.cons (f1:=f1) (f2:=f2) r t,n=>by
  classical
  let#[n1,n2,n3]:=ac7.mp n;let#[z,h1,h2]:=t.own (k+1) n2;refine#[λa=>if a∈f1 then some k else z a,λi d e=>?_,λa j e=>?_]
  .cases i with
   |zero=>ext e;apply#[_,f1,rfl,r,n1,λa m=>if_pos m]
   |succ i=>
    let#[v,f,a1,a2,a3,a4]:=h1 i d e;apply#[v,f,a1,a2,a3,λa m=>(abm λq=>n3 a q a (h2 a _ (a4 a m)) rfl).trans ((a4 a m).trans (by rw[Nat.add_assoc,Nat.add_comm 1]))]
  .dsimp only at e
   split at e
   .exact aaZ _ (by assumption)
   .exact aaM _ (h2 a j e)
section
variable{K:Fr}
def Ok.lW{H:Hp}(r0:aC K H es us aO)(nd:aO.Nodup)(rs:aC K H ds ws cP)(dj:∀b∈cP,b∉aO):∃z,Ok K H aO z [] (Ce N.length es ds) (start N (us++ws)) H:=by
 let#[z,h1,h2]:=r0.own 0 nd;have l0:=r0.length;have l1:=rs.length;unfold Ce start;rw[adK,afG];refine#[z,λi d' t' e'=>?_,(λp m=>by ext m),(λa j e=>#[let#[o,w,_]:=r0.eB a (h2 a j e);#[o,w],.inr (h2 a j e)]),(λa o e _=>e),?_]
 .by_cases hi:i<es.length
  .rw[afS (by rw[List.length_map];apply hi),acB,abe hi] at e';ext e';let#[v,g,hv,rv,n',hz]:=h1 i _ (abe hi);rw[ajp] at hz;apply#[v,g,(afS (by rw[List.length_map];lia)).trans (by rw[acB,hv];rfl),rv,n',hz]
  .rw[agH (by rw[List.length_map];lia),List.length_map] at e';rw[agH (by rw[List.length_map];lia),List.length_map,<- l0];generalize i-es.length=i at e' ⊢
   by_cases hi:i<ds.length
   .rw[afS (by rw[List.length_map];apply hi),acB,abe hi] at e';ext e';let#[v,g,hv,rv,sub]:=rs.get (abe hi);apply#[v,g,(afS (by rw[List.length_map];lia)).trans (by rw[acB,hv];rfl),rv,λa m j e=>(dj a (sub a m) (h2 a j e)).elim]
   .rw[agH (by rw[List.length_map];lia),List.getElem?_replicate] at e'
    split at e'<;>ext e'
 .simp only[abE,List.length_map,List.length_replicate]
  lia
def aeT{st:Stmt}(F:jD K x qual st f fd)(S:rG N ps (c9 st))
  (hb:∀(aU:{c:Value // c=fd.code}) (A) (outer) (s) (H) (E),bz k (A.deeper (envOfC qual (c9 st) s.heap.objs.size f aU)) cm->FS (gb dQ P w K mg base N qual (c9 st) f aU A outer s H E cm).f_ (gS st) b) :
  bQ P w K mg base dQ (k+1) f fd ps (Wp K (runC ps.length N.length b)) cm:=by
 refine F.ok S (λvs H Q E h=>?_) (λaU A outer s H vs Q E hr h=>?_)<;>let#[us,ws,es,ds,aO,cP,d,e0,r0,nd,rs,dj,e,q]:=h
 .unfold runC at e
  split at e
  .rename_i h;rw[e0,abE,<- r0.length,<- rs.length,Nat.add_comm,h]
  .cases e
 .let#[t,p,sd]:=hb aU A outer s H E hr;refine#[t,p,?_];let#[z,ok]:=Ok.lW r0 nd rs dj;rw[e0];unfold runC at e
  split at e
  .cases ho:b (Ce N.length es ds) with
   |none=>rw[ho] at e;ext e
   |some o=>
    rw[ho] at e;refine sd ok ho ?_;cases o with
    |rt d'=>ext e;apply q
    |nx Y'=>ext e;apply λz' aE H' bg _=>q H' .aI [] bg.en .aI acv λa m=>nomatch m
    |bk _=>ext e
    |ct _=>ext e
    |er _ _ _=>ext e
  .cases e
def SG{st:Stmt}(F:jD K x qual st f fd)(S:rG N ps (c9 st))
  (hb:∀(aU:{c:Value // c=fd.code}) (A) (outer) (s) (H) (E),bz k (A.deeper (envOfC qual (c9 st) s.heap.objs.size f aU)) cm->FS (gb dQ P w K mg base N qual (c9 st) f aU A outer s H E cm).f_ (gS st) b) :
  bQ P w K mg base dQ (k+1) f fd ps (a_ K (bH ps.length N.length b)) cm:=
 (aeT F S hb).imp λvs H Q E #[ds,fp,d,rs,e,q]=>#[[],vs,[],ds,[],fp,d,rfl,.nil,.nil,rs,(λ_ _ m=>nomatch m),e,λH' v fp en r n fr=>q H' v fp (λa o e=>en a o e λm=>nomatch m) r n λa m=>(fr a m).resolve_right λm=>nomatch m]
end
def vp(f:Int->Int->Int):D->D->Option D
 |.int i,.int j=>some (.int (f i j))
 |_,_=>none
def vP(C:Int->Int->Bool)(f:Int->Int->Int):D->D->Option D
 |.int i,.int j=>if C i j=true then some (.int (f i j)) else none
 |_,_=>none
def vE(f:Int->Int->Bool):D->D->Option D
 |.int i,.int j=>some (.bl (f i j))
 |_,_=>none
def oj(i j:Int):Bool:=(decide (-(2 ^ 64)<i)&&decide (i<2 ^ 64))||(decide (-(2 ^ 64)<j)&&decide (j<2 ^ 64))
def HQ(_ j:Int):Bool:=decide (0<j)
def iN:=vp λi j=>i+j
def jv:=vp λi j=>i-j
def kO:=vP oj λi j=>i*j
def oMod:=vP HQ λi j=>i % j
def oLt:=vE λi j=>decide (i<j)
def oLe:=vE λi j=>decide (i<=j)
def Dz:=vE λi j=>decide (j<i)
def As:=vE λi j=>decide (j<=i)
def oEq:D->D->Option D
 |.int i,.int j=>some (.bl (i==j))
 |.bl i,.bl j=>some (.bl (i==j))
 |.str i,.str j=>some (.bl (i==j))
 |.aI,.aI=>some (.bl true)
 |_,_=>none
def lF:D->D->Option D
 |.int i,.int j=>some (.bl (!(i==j)))
 |.bl i,.bl j=>some (.bl (!(i==j)))
 |.str i,.str j=>some (.bl (!(i==j)))
 |.aI,.aI=>some (.bl false)
 |_,_=>none
def oz:D->Bool
 |.aI=>true
 |_=>false
def jf:D->D->Option D
 |d,.aI=>some (.bl (oz d))
 |_,_=>none
def DV:D->D->Option D
 |d,.aI=>some (.bl (!oz d))
 |_,_=>none
section
variable{K:Fr}
def Sa:gx K (nS λi j=>.int (g i j)) (vp g):=by
 intro H x y d1 d2 f1 f2 d Q r1 r2 e k;unfold vp at e
 split at e
 .cases e;apply#[_,_,r1.iG.1,r2.iG.1,k H _ (aJ.refl H) (.int _)]
 .cases e
def s_:gx K (nS λi j=>.bl (g i j)) (vE g):=by
 intro H x y d1 d2 f1 f2 d Q r1 r2 e k;unfold vE at e
 split at e
 .cases e;apply#[_,_,r1.iG.1,r2.iG.1,k H _ (aJ.refl H) (.bl _)]
 .cases e
def Cm(h:∀i j,c i j=true->C i j):gx K (rI C λi j=>.int (g i j)) (vP c g):=by
 intro H x y d1 d2 f1 f2 d Q r1 r2 e k;unfold vP at e
 split at e
 .rename_i i j;let#[hc,e]:=ci e;ext e;apply#[i,j,r1.iG.1,r2.iG.1,h i j hc,k H _ (aJ.refl H) (.int _)]
 .cases e
def VU(i j:Int)(h:oj i j=true):yS i j:=by
 unfold oj at h;unfold yS;rcases(ajc _ _).mp h with h|h
 .let#[a,b]:=(aaF _ _).mp h;apply .inl #[aaY a,aaY b]
 .let#[a,b]:=(aaF _ _).mp h;apply .inr #[aaY a,aaY b]
def SK:gx K Kf oEq:=by
 intro H x y d1 d2 f1 f2 d Q r1 r2 e k;unfold oEq at e
 split at e
 .cases e;rw[r1.iG.1,r2.iG.1];refine#[rfl,?_];rw[C5];apply k H _ (aJ.refl H) (.bl _)
 .cases e;rw[r1.BS.1,r2.BS.1];refine#[rfl,?_];rw[Br];apply k H _ (aJ.refl H) (.bl _)
 .cases e;rw[r1.vq.1,r2.vq.1];refine#[rfl,?_];rw[CD];apply k H _ (aJ.refl H) (.bl _)
 .cases e;rw[r1.CH.1,r2.CH.1];apply#[rfl,by have:=k H (.bl true) (aJ.refl H) (.bl _);simpa using this]
 .cases e
def afs:gx K R8 lF:=by
 intro H x y d1 d2 f1 f2 d Q r1 r2 e k;unfold lF at e
 split at e
 .cases e;rw[r1.iG.1,r2.iG.1];refine#[rfl,?_];rw[C5];apply k H _ (aJ.refl H) (.bl _)
 .cases e;rw[r1.BS.1,r2.BS.1];refine#[rfl,?_];rw[Br];apply k H _ (aJ.refl H) (.bl _)
 .cases e;rw[r1.vq.1,r2.vq.1];refine#[rfl,?_];rw[CD];apply k H _ (aJ.refl H) (.bl _)
 .cases e;rw[r1.CH.1,r2.CH.1];apply#[rfl,by have:=k H (.bl false) (aJ.refl H) (.bl _);simpa using this]
 .cases e
theorem Rep.oz(r:Rep K H d v fp):decide (v=.aI)=oz d:=by
 ext r<;>first|rfl|exact abS (λe=>nomatch e)
def LR:gx K (λx y H Q=>y=.aI/\Q (.bl (decide (x=.aI))) H) jf:=by
 intro H x y d1 d2 f1 f2 d Q r1 r2 e k;unfold jf at e
 split at e
 .cases e;ext r2;refine#[rfl,?_];rw[r1.oz];apply k H _ (aJ.refl H) (.bl _)
 .cases e
def ZG:gx K (λx y H Q=>y=.aI/\Q (.bl (!decide (x=.aI))) H) DV:=by
 intro H x y d1 d2 f1 f2 d Q r1 r2 e k;unfold DV at e
 split at e
 .cases e;ext r2;refine#[rfl,?_];rw[r1.oz];apply k H _ (aJ.refl H) (.bl _)
 .cases e
end
section
variable{X:Cx}
def dw(ha:FP X a fa)(hb:FP X b fb):FP X (.BinOp a .Add b pos) (e2 iN fa fb):=uQ Zy Sa ha hb
def qL(ha:FP X a fa)(hb:FP X b fb):FP X (.BinOp a .Sub b pos) (e2 jv fa fb):=uQ aan Sa ha hb
def gZ(ha:FP X a fa)(hb:FP X b fb):FP X (.BinOp a .Mult b pos) (e2 kO fa fb):=uQ ad4 (Cm VU) ha hb
def j6(ha:FP X a fa)(hb:FP X b fb):FP X (.BinOp a .Mod b pos) (e2 oMod fa fb):=uQ Xa (Cm λ_ _ h=>aaY h) ha hb
def qP(ha:FP X a fa)(hb:FP X b fb):FT X (.Compare a [.Lt] [b] pos) (tV (e2 oLt fa fb)):=jn Ol s_ ha hb (jk _)
def aew(ha:FP X a fa)(hb:FP X b fb):FT X (.Compare a [.Gt] [b] pos) (tV (e2 Dz fa fb)):=jn Zj s_ ha hb (jk _)
def B6(ha:FP X a fa)(hb:FP X b fb):FT X (.Compare a [.GtE] [b] pos) (tV (e2 As fa fb)):=jn aa2 s_ ha hb (jk _)
def dF(ha:FP X a fa)(hb:FP X b fb):FT X (.Compare a [.Eq] [b] pos) (tV (e2 oEq fa fb)):=jn HK SK ha hb (jk _)
def xW(ha:FP X a fa)(hb:FP X b fb):FT X (.Compare a [.NotEq] [b] pos) (tV (e2 lF fa fb)):=jn adZ afs ha hb (jk _)
def uT(ha:FP X a fa)(hb:FP X b fb):FT X (.Compare a [.Is] [b] pos) (tV (e2 jf fa fb)):=jn R9 LR ha hb (jk _)
def XT(ha:FP X a fa)(hb:FP X b fb):FT X (.Compare a [.IsNot] [b] pos) (tV (e2 DV fa fb)):=jn acT ZG ha hb (jk _)
def F2(ha:FP X a fa)(hb:FP X b fb):FP X (.Compare a [.Eq] [b] pos) (e2 oEq fa fb):=sU HK SK ha hb (jk _)
def e1(op:D->Option D)(fa:EF):EF:=λY=>match fa Y with
 |some (d1,_)=>(op d1).map λd=>(d,.own)
 |none=>none
def oB(e:e1 op fa Y=some (d,tg)):∃d1 t1,fa Y=some (d1,t1)/\op d1=some d/\tg=.own:=by
 unfold e1 at e;exists h1,fa Y,p,e,0;let#[d1,t1]:=p;rw[h1] at e;dsimp only at e;exists h3,op d1,d3,e;ext e;apply#[d1,t1,rfl,h3,rfl]
def qY(K:Fr)(r:List V->Hp->VK->Prop)(op:D->Option D):Prop:=∀(H) (x) (d1) (f1) (d) (Q),Rep K H d1 x f1->op d1=some d->
 (∀H' v fp,aJ H H'->Rep K H' d v fp->fp.Nodup->(∀a∈fp,H a=none)->Q v H')->r [x] H Q
def fp_1(dd:qY X.K r op)(ha:FP X a fa)(he:∀ta,PE X a ta->PE X e (Gk r (Um ta DE))):FP X e (e1 op fa):=by
 let#[t,p,q]:=ha;exists 21,he t p;let#[d1,t1,h1,h2,rfl]:=oB e;refine q ok h1 λH1 x f1 s1 r1 _=>?_
 apply dd H1 x d1 f1 d Q r1 h2 λH2 v fp s2 r2 nd fr=>k H2 v fp (s1.trans s2) r2 #[nd,λa m=>s1.free (fr a m)]
def f9:D->Option D
 |.lst ds=>some (.int ds.length)
 |.bX ds=>some (.int ds.length)
 |.tup ds=>some (.int ds.length)
 |.bZ es=>some (.int es.length)
 |_=>none
def gO.or'(h:gO X f r)(h':gO X f r'):gO X f (λxs H Q=>r xs H Q\/r' xs H Q):=by
 intro af s U H xs us Q I rv q;rcases q with q|q
 .exact h af s U H xs us Q I rv q
 .exact h' af s U H xs us Q I rv q
def aeL:qY X.K (λxs H Q=>(∃p ys,xs=[V.ref p]/\(ck X.K H p ys\/bK X.K H p ys)/\Q (.int ys.length) H)\/(∃a ak,xs=[V.ref a]/\H a=some (.dK ak)/\Q (.int ak.length) H)) f9:=by
 intro H x d1 f1 d Q r e k;have fin:∀n:Nat,d=.int n->Q (.int n) H:=λn e=>by subst e;apply k H _ [] (aJ.refl H) (.int _) acv λa m=>nomatch m
 cases d1 with
 |lst ds=>
  let#[a,xs,f,rfl,hq,rs,_]:=r.dM;ext e;apply .inl #[a,xs,rfl,.inl hq,by rw[<- rs.length];apply fin _ rfl]
 |bX ds=>
  let#[a,xs,rfl,hq,rs]:=r.nU;ext e;apply .inl #[a,xs,rfl,.inl hq,by rw[<- rs.length];apply fin _ rfl]
 |tup ds=>
  let#[a,xs,rfl,hq,rs]:=r.gY;ext e;apply .inl #[a,xs,rfl,.inr hq,by rw[<- rs.length];apply fin _ rfl]
 |bZ es=>
  cases r with
  |bZ h hk rs=>
   ext e;refine .inr #[_,_,rfl,h,?_];have hl:=congrArg List.length hk;rw[List.length_map,List.length_map] at hl;rw[<- hl];apply fin _ rfl
 |_=>ext e
def jg(hm:X.mg "len"=none)(ha:FP X a fa)(hg:Gl X "len":=by rfl)(hs:starEach [a] X.env=[(false,eval a X.env)]:=by rfl):FP X (.Call (.Name "len" p) [a] [] pos) (e1 f9 fa):=
 fp_1 aeL ha λta pa=>sA (gO.or' abN ahP) hg hm PySem.boot_len (eO pa f7 hs) (he:=hs)
def lY:D->Option D
 |.lst ds=>if aK ds=true then some (.lst ds) else none
 |.tup ds=>if aK ds=true then some (.lst ds) else none
 |_=>none
def acz:qY X.K (λxs H Q=>∃p ys,xs=[V.ref p]/\(ck X.K H p ys\/bK X.K H p ys)/\∀l,H l=none->Q (.ref l) (upd H l (.lst ys))) lY:=by
 intro H x d1 f1 d Q r e k;have fin:∀{ds} {xs} {f},aC X.K H ds xs f->(if aK ds=true then some (D.lst ds) else none)=some d->∀l,H l=none->Q (.ref l) (upd H l (.lst xs)):=λ{ds xs f} rs e l hl=>by
  let#[hi,e]:=ci e;ext e;have hn:=rs.aB hi;subst hn;have s2:aJ H (upd H l (.lst xs)):=λb o e=>by rw[aM (cO e hl)];apply e
  apply k _ _ [l] s2 (.lst bI (rs.same s2)) (ab3.mpr #[(λm=>by ext m),acv]) λa m=>by cases aaK.mp m;apply hl
 cases d1 with
 |lst ds=>
  let#[a,xs,f,rfl,hq,rs,_]:=r.dM;apply#[a,xs,rfl,.inl hq,fin rs e]
 |tup ds=>
  let#[a,xs,rfl,hq,rs]:=r.gY;apply#[a,xs,rfl,.inr hq,fin rs e]
 |_=>ext e
def ia(hm:X.mg "list"=none)(ha:FP X a fa)(hg:Gl X "list":=by rfl)(hs:starEach [a] X.env=[(false,eval a X.env)]:=by rfl):FP X (.Call (.Name "list" p) [a] [] pos) (e1 lY fa):=
 fp_1 acz ha λta pa=>xg ahD hg hm (by rfl) (eO pa f7 hs) (he:=hs)
end
def cC:D->D->Option D
 |.bX ds,.int i=>(d7 ds i).bind λd=>if aB d=true then some d else none
 |.lst ds,.int i=>(d7 ds i).bind λd=>if aB d=true then some d else none
 |.tup ds,.int i=>(d7 ds i).bind λd=>if aB d=true then some d else none
 |_,_=>none
def WL{K:Fr}:gx K (λx y H Q=>Lo K x y H Q\/Cf K x y H Q\/KW x y H Q) cC:=by
 intro H x y d1 d2 f1 f2 d Q r1 r2 e k;have key:∀{ds} {xs} {f} {i},aC K H ds xs f->((d7 ds i).bind λd=>if aB d=true then some d else none)=some d->∃v,d7 xs i=some v/\Rep K H d v []:=λ{ds xs f i} rs e=>by
  unfold d7 at e ⊢;rw[<- rs.length];exists h,lR ds.length i,j,e,0;rw[h,ac1] at e;rw[ac1];exists h2,ds[j]?,d',e,0;rw[h2,ac1] at e
  by_cases hi:aB d'=true
  .rw[if_pos hi] at e;ext e;let#[v,f',hv,rv,_]:=rs.get h2;have hn:=rv.aB hi;subst hn;apply#[v,hv,rv]
  .rw[abm hi] at e;ext e
 unfold cC at e
 split at e
 .let#[a,xs,rfl,hq,rs]:=r1.nU;let#[v,hv,rv]:=key rs e;apply .inl #[a,xs,_,v,rfl,r2.iG.1,hq,hv,k H v (aJ.refl H) rv]
 .let#[a,xs,f,rfl,hq,rs,_]:=r1.dM;let#[v,hv,rv]:=key rs e;apply .inl #[a,xs,_,v,rfl,r2.iG.1,hq,hv,k H v (aJ.refl H) rv]
 .let#[a,xs,rfl,hq,rs]:=r1.gY;let#[v,hv,rv]:=key rs e;apply .inr (.inl #[a,xs,_,v,rfl,r2.iG.1,hq,hv,k H v (aJ.refl H) rv])
 .cases e
def aV(ha:FP X a fa)(hb:FP X b fb)(hs:E5 b:=by apply λ_ _=>rfl):FP X (.Subscript a b pos) (e2 cC fa fb):=fp_2 WL ha hb λ_ _ pa pb=>Lc Uq pa pb hs
def G_:eC d Y=some (d,.own):=rfl
def k1(op:D->Option D):Option (D×Tag)->Option (D×Tag)
 |some (d,_)=>(op d).map λd=>(d,.own)
 |none=>none
def zS:e1 KR fa Y=k1 KR (fa Y):=by unfold e1 k1;cases fa Y<;>rfl
def Q6:k1 KR (some (d,t))=(KR d).map λd=>(d,.own):=rfl
def k2(op:D->D->Option D):Option (D×Tag)->Option (D×Tag)->Option (D×Tag)
 |some (d1,_),some (d2,_)=>(op d1 d2).map λd=>(d,.own)
 |_,_=>none
def j8:e2 HH fa fb Y=k2 HH (fa Y) (fb Y):=by unfold e2 k2;cases fa Y<;>cases fb Y<;>rfl
def xF:k2 HH (some (d1,t1)) (some (d2,t2))=(HH d1 d2).map λd=>(d,.own):=rfl
def Pu:(some a).map f=some (f a):=rfl
def kV:Option (D×Tag)->Option Bool
 |some (.bl b,_)=>some b
 |_=>none
def yp:tV fa Y=Ev.kV (fa Y):=by
 unfold tV Ev.kV;cases fa Y with
 |none=>rfl
 |some p=>let#[d,t]:=p;ext d<;>rfl
def AD(h:tf Y=some true):kg tf tg Y=tg Y:=by unfold kg;rw[h]
def aeZ(h:tf Y=some false):kg tf tg Y=some false:=by unfold kg;rw[h]
def aaA(h:tf Y=some false):o9 tf tg Y=tg Y:=by unfold o9;rw[h]
def xS(h:tf Y=some a)(h2:tg Y=some b):kg tf tg Y=some (a&&b):=by unfold kg;rw[h];ext a<;>first|exact h2|rfl
def vf(h:tf Y=some a)(h2:tg Y=some b):o9 tf tg Y=some (a||b):=by unfold o9;rw[h];ext a<;>first|exact h2|rfl
def GP:k8 tf Y=(tf Y).map λb=>!b:=rfl
def aaP:fB Y=some (.nx Y):=rfl
def uA(g:SF):Option Out->Option Out
 |some (.nx Y)=>g Y
 |o=>o
def iF:bY sf sg Y=uA sg (sf Y):=by
 unfold bY uA;cases sf Y with
 |none=>rfl
 |some o=>ext o<;>rfl
def o8:uA sg (some (.nx Y))=sg Y:=rfl
def Bx(sf sg:SF)(Y:aR):Option Bool->Option Out
 |some true=>sf Y
 |some false=>sg Y
 |none=>none
def gP:dZ tf sf sg Y=Bx sf sg Y (tf Y):=by unfold dZ Bx;cases tf Y<;>rfl
def LO:Bx sf sg Y (some true)=sf Y:=rfl
def Pz:Bx sf sg Y (some false)=sg Y:=rfl
def RW:Option (D×Tag)->Option Out
 |some (d,t)=>if jy t=true then some (.rt d) else if aB d=true then some (.rt d) else none
 |none=>none
def xN:kR fa Y=RW (fa Y):=by unfold kR RW;cases fa Y<;>rfl
def CG(i:Nat)(Y:aR):Option (D×Tag)->Option Out
 |some (d,t)=>some (.nx (iI Y i d t))
 |none=>none
def kG:eS i fa Y=CG i Y (fa Y):=by unfold eS CG;cases fa Y<;>rfl
def yT:aD Y=some []:=rfl
def mC:Option (D×Tag)->Option (List (D×Tag))->Option (List (D×Tag))
 |some p,some ps=>some (p::ps)
 |_,_=>none
def bN:au fa a Y=mC (fa Y) (a Y):=by unfold au mC;cases fa Y<;>cases a Y<;>rfl
def Ck:mC (some p) (some ps)=some (p::ps):=rfl
def s_call:cQ F a Y=(a Y).bind λps=>(F (ps.map (·.1))).map λd=>(d,.own):=rfl
def Mp:(some a).bind f=f a:=rfl
def p_:h_ a Y=(a Y).map λps=>(.tup (ps.map (·.1)),iU ps):=rfl
def OL:iN (.int m) (.int n)=some (.int (m+n)):=rfl
def mT(h:oj m n=true):kO (.int m) (.int n)=some (.int (m*n)):=by show(if oj m n=true then some (D.int (m*n)) else none)=_;rw[if_pos h]
def kC(h:0<n):oMod (.int m) (.int n)=some (.int (m % n)):=by show(if HQ m n=true then some (D.int (m % n)) else none)=_;rw[if_pos (show HQ m n=true from aa1 h)]
def BP:oLt (.int m) (.int n)=some (.bl (decide (m<n))):=rfl
def acX:oLe (.int m) (.int n)=some (.bl (decide (m<=n))):=rfl
def UO:As (.int m) (.int n)=some (.bl (decide (n<=m))):=rfl
def m9:oEq (.int m) (.int n)=some (.bl (m==n)):=rfl
def Cs:f9 (.lst ds)=some (.int ds.length):=rfl
def zh(h:d7 ds m=some d)(hi:aB d=true):cC (.lst ds) (.int m)=some d:=by show((d7 ds m).bind λd=>if aB d=true then some d else none)=_;rw[h,ac1,if_pos hi]
def RK(h:d7 ds m=some d)(hi:aB d=true):cC (.bX ds) (.int m)=some d:=by show((d7 ds m).bind λd=>if aB d=true then some d else none)=_;rw[h,ac1,if_pos hi]
def jB(h:d7 ds m=some d)(hi:aB d=true):cC (.tup ds) (.int m)=some d:=by show((d7 ds m).bind λd=>if aB d=true then some d else none)=_;rw[h,ac1,if_pos hi]
def bR(hl:ds.length=n)(h:b (sy N ds)=some (.rt d)):bH n N b ds=some d:=by unfold bH;rw[if_pos hl,h]
def dI(ns:List Int):D:=.bX (ns.map D.int)
def HN{ns:List Int}{i:Int}(h0:0<=i)(h1:i<ns.length):d7 (ns.map D.int) i=some (.int (ns.getD i.toNat 0)):=by
 unfold d7 lR;have h2:i.toNat<ns.length:=by omega
 rw[List.length_map,if_pos h0,if_pos h1,ac1,acB,abe h2,adv,abe h2];rfl
section
variable[DecidableEq κ]
def bC(es:List (κ×D))(k:κ):Option D:=(es.find? λkv=>decide (kv.1=k)).map (·.2)
def putD(es:List (κ×D))(k:κ)(d:D):List (κ×D):=
 if(es.any λkv=>decide (kv.1=k))=true then es.map (λkv=>if kv.1=k then(kv.1,d) else kv) else es++[(k,d)]
theorem qp{K:Fr}:∀{es}{ak:List (κ×V)} {fp},es.map (·.1)=ak.map (·.1)->aC K H (es.map (·.2)) (ak.map (·.2)) fp->
  (∀d,bC es k=some d->∃v f,eK ak k=some v/\Rep K H d v f/\∀a∈f,a∈fp)/\(bC es k=none->eK ak k=none)
 |[],[],_,_,_=>#[λd e=>(nomatch e),λ_=>rfl]
 |[],_::_,_,e,_=>by simp at e
 |_::_,[],_,e,_=>by simp at e
 |(q,d0)::es,(q',v0)::ak,fp,e,r=>by
  simp only[aas,agA] at e;let#[rfl,e]:=e;simp only[aas] at r;cases r with
  | @cons _ _ _ _ f1 f2 r1 r2=>
   let#[i1,i2]:=qp e r2
   by_cases h:q=k
   .have e1:bC ((q,d0)::es) k=some d0:=by unfold bC;rw[adE,aa1 h];rfl
    refine#[λd ed=>?_,λen=>?_]
    .rw[e1] at ed;ext ed;apply#[v0,f1,xu h,r1,λa m=>aaZ _ m]
    .rw[e1] at en;ext en
   .have e1:bC ((q,d0)::es) k=bC es k:=by unfold bC;rw[adE,abS h]
    rw[e1,yQ h];apply#[λd ed=>let#[v,f,a,b,c]:=i1 d ed;#[v,f,a,b,λx m=>aaM _ (c x m)],i2]
def A8{k:κ}(e:es.map (·.1)=ak.map (·.1)):(putD es k d).map (·.1)=(putK ak k v).map (·.1):=by
 have any:(es.any λkv=>decide (kv.1=k))=ak.any λkv=>decide (kv.1=k):=by
  have h1:(es.any λkv=>decide (kv.1=k))=(es.map (·.1)).any λx=>decide (x=k):=by rw[aiX];rfl
  have h2:(ak.any λkv=>decide (kv.1=k))=(ak.map (·.1)).any λx=>decide (x=k):=by rw[aiX];rfl
  rw[h1,h2,e]
 have m1:∀l:List (κ×D),(l.map λkv=>if kv.1=k then(kv.1,d) else kv).map (·.1)=l.map (·.1):=λl=>by
  rw[adw];congr 1;funext kv;show(if kv.1=k then(kv.1,d) else kv).1=kv.1;split<;>rfl
 have m2:∀l:List (κ×V),(l.map λkv=>if kv.1=k then(kv.1,v) else kv).map (·.1)=l.map (·.1):=λl=>by
  rw[adw];congr 1;funext kv;show(if kv.1=k then(kv.1,v) else kv).1=kv.1;split<;>rfl
 unfold putD putK;rw[any]
 by_cases h:(ak.any λkv=>decide (kv.1=k))=true
 .rw[if_pos h,if_pos h,m1,m2,e]
 .rw[abm h,abm h,adK,adK,e];rfl
def Fq{K:Fr}{ak:List (κ×V)}(e:es.map (·.1)=ak.map (·.1))(r:aC K H (es.map (·.2)) (ak.map (·.2)) [])(rv:Rep K H d v []):
  aC K H ((putD es k d).map (·.2)) ((putK ak k v).map (·.2)) []:=by
 have any:(es.any λkv=>decide (kv.1=k))=ak.any λkv=>decide (kv.1=k):=by
  have h1:(es.any λkv=>decide (kv.1=k))=(es.map (·.1)).any λx=>decide (x=k):=by rw[aiX];rfl
  have h2:(ak.any λkv=>decide (kv.1=k))=(ak.map (·.1)).any λx=>decide (x=k):=by rw[aiX];rfl
  rw[h1,h2,e]
 have go:∀(es:List (κ×D)) (ak:List (κ×V)),es.map (·.1)=ak.map (·.1)->aC K H (es.map (·.2)) (ak.map (·.2)) []->aC K H ((es.map λkv=>if kv.1=k then(kv.1,d) else kv).map (·.2)) ((ak.map λkv=>if kv.1=k then(kv.1,v) else kv).map (·.2)) []:=by
  intro es
  induction es with
  |nil=>
   intro ak e r;cases ak with
   |nil=>apply .nil
   |cons _ _=>simp at e
  |cons p es ih=>
   intro ak e r;cases ak with
   |nil=>simp at e
   |cons p' ak=>
    let#[q,d0]:=p;let#[q',v0]:=p';simp only[aas,agA] at e;let#[rfl,e]:=e;simp only[aas] at r ⊢;generalize hf:([]:List Addr)=fp at r;cases r with
    | @cons _ _ _ _ f1 f2 r1 r2=>
     let#[h1,h2]:=agI.mp hf.symm;subst h1 h2;have t:=ih ak e r2
     by_cases h:q=k
     .rw[if_pos h,if_pos h];apply aC.cons rv t
     .rw[abm h,abm h];apply aC.cons r1 t
 unfold putD putK;rw[any]
 by_cases h:(ak.any λkv=>decide (kv.1=k))=true
 .rw[if_pos h,if_pos h];apply go es ak e r
 .rw[abm h,abm h,adK,adK];apply aC.append r (aC.cons rv .nil)
end
def iJ:D->Option Key
 |.int i=>some (.inl i)
 |.str x=>some (.inr x)
 |_=>none
def Rep.key{K:Fr}(r:Rep K H d y fp)(e:iJ d=some k):y=L2.kV k:=by
 ext r<;>ext e<;>rfl
def kH:D->D->Option D
 |.bZ es,kd=>match iJ kd with
  |some k=>(bC es k).bind λd=>if aB d=true then some d else none
  |none=>none
 |_,_=>none
def tDg:R2:=λx y H Q=>∃a v,x=.ref a/\jj H a y (some v)/\Q v H
def Z8{K:Fr}:gx K tDg kH:=by
 intro H x y d1 d2 f1 f2 d Q r1 r2 e k;cases r1 with
 | @bZ a ak es fp h hk rs=>
  have e:(match iJ d2 with|some k=>(bC es k).bind λd=>if aB d=true then some d else none|none=>none)=some d:=e;exists xH,iJ d2,key,e;dsimp only at e;exists hv,bC es key,d',e,0;rw[hv,ac1] at e
  by_cases hi:aB d'=true
  .rw[if_pos hi] at e;ext e;let#[v,f,h1,r,_]:=(qp hk rs).1 d hv;have hn:=r.aB hi;subst hn;have ek:=r2.key xH;subst ek;have g:=jj.k (k:=key) h;rw[h1] at g;apply#[a,v,rfl,g,k H v (aJ.refl H) r]
  .rw[abm hi] at e;ext e
 |_=>ext e
def xZ(hu:X.A.units+1<cLine)(ha:FP X a fa)(hb:FP X b fb)(hs:yH b:=by apply λ_ _=>rfl):FP X (.Subscript a b pos) (e2 kH fa fb):=
 fp_2 Z8 ha hb λ_ _ pa pb=>MX hu pa pb hs
def u0(d1 d2 d3:D):Option D:=match d1,iJ d2 with
 |.bZ es,some k=>match bC es k with
  |some d=>if aB d=true then some d else none
  |none=>if aB d3=true then some d3 else none
 |_,_=>none
def e3(op:D->D->D->Option D)(fa fb fc:EF):EF:=λY=>match fa Y,fb Y,fc Y with
 |some (d1,_),some (d2,_),some (d3,_)=>(op d1 d2 d3).map λd=>(d,.own)
 |_,_,_=>none
def ab1(e:e3 op fa fb fc Y=some (d,tg)):∃d1 t1 d2 t2 d3 t3,fa Y=some (d1,t1)/\fb Y=some (d2,t2)/\fc Y=some (d3,t3)/\op d1 d2 d3=some d/\tg=.own:=by
 unfold e3 at e;exists h1,fa Y,p,e,0;cases h2:fb Y with
 |none=>rw[h1,h2] at e;ext e
 |some q=>
  cases h3:fc Y with
  |none=>rw[h1,h2,h3] at e;ext e
  |some r=>
   let#[d1,t1]:=p;let#[d2,t2]:=q;let#[d3,t3]:=r;rw[h1,h2,h3] at e;dsimp only at e;exists h4,op d1 d2 d3,d4,e;ext e;apply#[d1,t1,d2,t2,d3,t3,rfl,rfl,rfl,h4,rfl]
def adD{apos fT:Pos}(hu:X.A.units+1<cLine)(ha:FP X a fa)(hb:FP X b fb)(hc:FP X c fc)(m:M2 X a "get" apos b c fT:=by apply#[rfl,rfl,rfl,rfl]):FP X (.Call (.Attribute a "get" apos) [b,c] [] fT) (e3 u0 fa fb fc):=by
 let#[ta,pa,sa]:=ha;let#[tb,pb,sb]:=hb;let#[tc,pc,sc]:=hc;exists 21,Gz hu pa pb pc m;let#[d1,t1,d2,t2,d3,t3,h1,h2,h3,h4,rfl]:=ab1 e;refine sa ok h1 λH1 x f1 s1 r1 _=>?_
 cases d1 with
 |bZ es=>
  cases r1 with
  | @bZ p ak _ fp h hk rs=>
   refine#[p,rfl,.inl #[ak,.inl h],?_];refine sb (ok.same s1) h2 λH2 y f2 s2 r2 _=>?_
   refine sc ((ok.same s1).same s2) h3 λH3 w f3 s3 r3 _=>?_
   unfold u0 at h4;exists xH,iJ d2,key,h4;dsimp only at h4;have ek:=r2.key xH;subst ek;have Cy:=s3 _ _ (s2 _ _ h);have g:=jj.k (k:=key) Cy;refine#[_,g,?_];have PV:=(s1.trans s2).trans s3;let#[i1,i2]:=qp hk ((rs.same s2).same s3);cases hv:bC es key with
   |some d'=>
    rw[hv] at h4;dsimp only at h4;let#[hi,h4]:=ci h4;ext h4;let#[v,f,e1,r,_]:=i1 d hv;have hn:=r.aB hi;subst hn;rw[e1];apply k H3 v [] PV r .nil
   |none=>
    rw[hv] at h4;dsimp only at h4;let#[hi,h4]:=ci h4;ext h4;rw[i2 hv];have hn:=r3.aB hi;subst hn;apply k H3 w [] PV r3 .nil
 |_=>ext h4
def Mt:FP X (.Dict [] [] pos) (eC (.bZ [])):=by
 refine#[_,aiG,@λH0 S z aq Y U H Q d tg ok e k p hp=>?_];ext e;have s2:aJ H (upd H p (.dK [])):=λb o e=>by rw[aM (cO e hp)];apply e
 apply k _ _ [p] s2 (.bZ bI rfl .nil) #[ab3.mpr #[(λm=>by ext m),acv],λa m=>by cases aaK.mp m;apply hp]
def Tr(i:Nat):Slot->Slot
 |some (d,.sh o)=>if o.contains i=true then none else some (d,.sh o)
 |s=>s
def cJ(Y:aR)(i:Nat)(d:D):aR:=(Y.map (Tr i)).set i (some (d,.own))
def aaR(e:Tr i s=some (d,t)):s=some (d,t)/\∀o,t=.sh o->i∉o:=by
 cases s with
 |none=>ext e
 |some w=>
  let#[d',t']:=w;cases t' with
  |sh o=>
   have e:(if o.contains i=true then none else some (d',Tag.sh o))=some (d,t):=e
   split at e
   .cases e
   .rename_i hc;ext e;apply#[rfl,λo' eo m=>by ext eo;apply hc (aet.mpr m)]
  |own=>ext e;apply#[rfl,λo eo=>by ext eo]
  |lk=>ext e;apply#[rfl,λo eo=>by ext eo]
def M4(hj:j≠i)(e:(cJ Y i d1)[j]? = some (some (d,t))):Y[j]? = some (some (d,t))/\(P\/∀o,t=.sh o->i∉o):=by
 unfold cJ at e;rw[ac6 (afW hj),acB] at e;let#[s,e0,e]:=ac3.mp e;let#[rfl,n]:=aaR e;apply#[e0,.inr n]
def Ow(h:Y[i]? = some d0):(cJ Y i d1)[i]? = some (some (d1,.own)):=ae0 (by rw[List.length_map];apply(acN.mp h).1)
def RP:(cJ Y i d1).length=Y.length:=by unfold cJ;rw[ahw,List.length_map]
def Ok.put{K:Fr}(ok:Ok K H0 S z aq Y U H)(h:Y[i]? = some (some (d0,.own)))
  (hs:U[i]? = some (some v)) (zz:vm z i .own aO) (im:bu H H') (keep:∀b o,b∉aO->H b=some o->H' b=some o) (r1:Rep K H' d1 v aY) (nd:aY.Nodup) (fr:∀b∈aY,b∈aO\/H b=none):∃z',Ok K H0 S z' aq (cJ Y i d1) U H':=
 #[_,ok.chg (Ow h) hs zz.2 im keep r1 #[nd,λa m=>if_pos m] (KH zz.2) (λa m=>#[fr a m,let#[o,w,_]:=r1.eB a m;#[o,w]]) M4 (λ_ _=>rfl) (.inr λn=>n _ h) (RP.trans ok.ln)]
def Ok.Gg{K:Fr}(ok:Ok K H0 S z aq Y U H)(h:Y[i]? = some (some (d0,.own)))
  (hs:U[i]? = some (some v)) (zz:vm z i .own fp) (hp:p∈fp) (ho:H p=some o) (mo:mF o=true) (r1:Rep K (upd H p o') d1 v fp):Ok K H0 S z aq (cJ Y i d1) U (upd H p o'):=
 ok.chg (Ow h) hs zz.2 (bu.upd ho mo) (λb o n e=>by rw[aM λq:b=p=>n (q ▸ hp)];apply e) r1 zz (λa n=>.inr #[rfl,n,λ_ n=>n _ h]) (λa m=>#[.inl m,let#[o,w,_]:=r1.eB a m;#[o,w]]) M4 (λ_ _=>rfl) (.inr λn=>n _ h) (RP.trans ok.ln)
def nu(i:Nat)(fk fv:EF):SF:=λY=>match fv Y,Y[i]?,fk Y with
 |some (d,_),some (some (.bZ es,.own)),some (kd,_)=>match iJ kd with
  |some k=>if(aB d&&aK (es.map (·.2))&&decide (es.length<sizeLine))=true then some (.nx (cJ Y i (.bZ (putD es k d)))) else none
  |none=>none
 |_,_,_=>none
def DP(i:Nat){x:Str}{k v:Expr}(hu:X.A.units+1<cLine)(hk:FP X k fk)(hv:FP X v fv)(va:VA X i x:=by walk_at "va")(hs:swapsWith v (some (.Subscript (.Name x p1) k pos')) pos.line X.env=pure false:=by rfl):
  fj X (.Assign [.Subscript (.Name x p1) k pos'] v pos) (nu i fk fv):=by
 let#[tk,pk,sk]:=hk;let#[tv,pB,sv]:=hv;exists 25,Ep hu va.pe pk pB hs;unfold nu at e
 split at e
 .rename_i d td es kd tkd h1 h2 h3;exists h4,iJ kd,key,e;dsimp only at e;let#[hc,e]:=ci e;ext e;let#[K2,Fk]:=(aaF _ _).mp hc;let#[K2,Jx]:=(aaF _ _).mp K2;have hz:=aaY Fk;refine sv ok h1 λH1 v fv' s1 rv _=>?_
  let#[xv,fp,dG,r,zz]:=(ok.same s1).sl i _ _ h2;refine#[xv,dG,?_];refine sk (ok.same s1) h3 λH2 y fk' s2 rk _=>?_
  have ek:=rk.key h4;subst ek;have r':=r.same s2;cases r' with
  | @bZ a ak _ f h fZ rs=>
   have hn:=rs.aB Jx;subst hn;have Ec:=rv.aB K2;subst Ec;have hl:ak.length=es.length:=by have:=congrArg List.length fZ;simpa using this.symm
   refine#[a,_,rfl,vD.k h (by rw[hl];apply hz),?_];have im:bu H2 (upd H2 a (.dK (putK ak key v))):=bu.upd h rfl;refine q z U _ (Ok.Gg ((ok.same s1).same s2) h2 dG zz aap h rfl (.bZ bI (A8 fZ) ?_)) (.refl _ _);apply Fq fZ (rs.frame (λa m=>nomatch m) im) ((rv.same s2).frame (λa m=>nomatch m) im)
 .cases e
def vd(x:Int):List Int->List Int
 |[]=>[x]
 |y::r=>if x<=y then x::y::r else y::vd x r
def dY:List Int->List Int
 |[]=>[]
 |x::r=>vd x (dY r)
theorem Iq(x:Int):∀l:List Int,(vd x l).Perm (x::l)
 |[]=>.refl _
 |y::r=>by
  unfold vd
  split
  .exact .refl _
  .exact((Iq x r).cons y).trans (.swap x y r)
theorem vL:∀l:List Int,(dY l).Perm l
 |[]=>.refl _
 |x::r=>(Iq x (dY r)).trans ((vL r).cons x)
theorem Rc(x:Int):∀{l},l.Pairwise (·<=·)->(vd x l).Pairwise (·<=·)
 |[],_=>ai1 _ _
 |y::r,h=>by
  let#[h1,h2]:=aeh.mp h;unfold vd
  split
  .rename_i hx;apply aeh.mpr #[λz m=>(aat.mp m).elim (λe=>e ▸ hx) λm=>Int.le_trans hx (h1 z m),h]
  .rename_i hx;refine aeh.mpr #[λz m=>?_,Rc x h2];rcases aat.mp ((Iq x r).mem_iff.mp m) with e|m
   .rw[e];lia
   .exact h1 z m
theorem Gm:∀l:List Int,(dY l).Pairwise (·<=·)
 |[]=>.nil
 |x::r=>Rc x (Gm r)
def ag9(p:a.Perm b)(s:a.Pairwise (·<=·)):a=dY b:=by
 have q:=p.trans (vL b).symm;apply q.eq_of_pairwise (λx y _ _ h1 h2=>Int.le_antisymm h1 h2) s (Gm b)
def yI(l:List Int):(dY l).length=l.length:=(vL l).length_eq
def eU:List D->Option (List Int)
 |[]=>some []
 |.int i::r=>(eU r).map (i::·)
 |_=>none
def i_{α:Type}:List (Key×α)->Option (List Int)
 |[]=>some []
 |(.inl i,_)::r=>(i_ r).map (i::·)
 |_=>none
theorem uq{K:Fr}:∀{ds} {xs} {fp} {ns},aC K H ds xs fp->eU ds=some ns->xs=ns.map V.int
 |_,_,_,ns,.nil,e=>by ext e;rfl
 |_,_,_,ns,.cons (d:=d) h t,e=>by
  cases d with
  |int i=>
   unfold eU at e;exists q,eU _,r,e;ext e;ext h;rw[uq t q];rfl
  |_=>ext e
def uH(ns:List Int):eU (ns.map D.int)=some ns:=by
 induction ns with
 |nil=>rfl
 |cons n r ih=>rw[aas];unfold eU;rw[ih];rfl
theorem SM:∀{es:List (Key×α)} {ks},i_ es=some ks->es.map (·.1)=ks.map Sum.inl
 |[],ks,e=>by ext e;rfl
 |(.inl i,_)::r,ks,e=>by
  unfold i_ at e;exists q,i_ r,l,e;ext e;rw[aas,SM q];rfl
 |(.inr _,_)::_,_,e=>by ext e
def mV:D->Option D
 |.lst ds=>match eU ds with
  |some ns=>if ns.length<64 then some (.lst ((dY ns).map D.int)) else none
  |none=>none
 |.bZ es=>match i_ es with
  |some ns=>if ns.length<64 then some (.lst ((dY ns).map D.int)) else none
  |none=>none
 |_=>none
theorem yV{K:Fr}:∀ns:List Int,aC K H (ns.map D.int) (ns.map V.int) []
 |[]=>.nil
 |n::r=>aC.cons (.int n) (yV r)
def abP{K:Fr}:qY K (LK K) mV:=by
 intro H x d1 f1 d Q r e k;have fin:∀(ns:List Int),(if ns.length<64 then some (D.lst ((dY ns).map D.int)) else none)=some d->ns.length<64/\∀l (oK:List Int),H l=none->oK.Perm ns->oK.Pairwise (·<=·)->Q (.ref l) (upd H l (.lst (oK.map V.int))):=λns e=>by
  by_cases h:ns.length<64
  .rw[if_pos h] at e;ext e;refine#[h,λl oK hl p s=>?_];have eq:=ag9 p s;subst eq;have s2:aJ H (upd H l (.lst ((dY ns).map V.int))):=λb o e=>by rw[aM (cO e hl)];apply e
   apply k _ _ [l] s2 (.lst bI (yV _)) (ab3.mpr #[(λm=>by ext m),acv]) λa m=>by cases aaK.mp m;apply hl
  .rw[abm h] at e;ext e
 cases d1 with
 |lst ds=>
  let#[a,xs,f,rfl,hq,rs,_]:=r.dM;have e:(match eU ds with|some ns=>if ns.length<64 then some (D.lst ((dY ns).map D.int)) else none|none=>none)=some d:=e;cases h:eU ds with
  |none=>rw[h] at e;ext e
  |some ns=>
   rw[h] at e;let#[h1,h2]:=fin ns e;have ex:=uq rs h;subst ex;apply#[a,ns,rfl,h1,.inr hq,h2]
 |bZ es=>
  cases r with
  | @bZ a ak _ fp h hk rs=>
   have e:(match i_ es with|some ns=>if ns.length<64 then some (D.lst ((dY ns).map D.int)) else none|none=>none)=some d:=e;cases h':i_ es with
   |none=>rw[h'] at e;ext e
   |some ns=>
    rw[h'] at e;let#[h1,h2]:=fin ns e;apply#[a,ns,rfl,h1,.inl #[ak,h,by rw[<- hk];apply SM h'],h2]
 |_=>ext e
def jN:List D->Option (List (Key×D))
 |[]=>some []
 |.tup [kd,d]::r=>match iJ kd,jN r with
  |some k,some ps=>if aB d=true then some ((k,d)::ps) else none
  |_,_=>none
 |_=>none
def DU:D->Option D
 |.lst ds=>(jN ds).map λps=>.bZ (ps.foldl (λm p=>putD m p.1 p.2) [])
 |.tup ds=>(jN ds).map λps=>.bZ (ps.foldl (λm p=>putD m p.1 p.2) [])
 |.bZ es=>if aK (es.map (·.2))=true then some (.bZ es) else none
 |_=>none
def afi:bootBuiltins "min"=some (.builtin "min"):=by decide +kernel
def abk:bootBuiltins "sorted"=some (.builtin "sorted"):=by decide +kernel
def BV(hc:X.calm=true)(hm:X.mg "sorted"=none)(ha:FP X a fa)(hg:Gl X "sorted":=by rfl)(hs:starEach [a] X.env=[(false,eval a X.env)]:=by rfl):FP X (.Call (.Name "sorted" p) [a] [] pos) (e1 mV fa):=
 fp_1 abP ha λta pa=>sA (ahu hc) hg hm abk (eO pa f7 hs) (he:=hs)
def CZ:D->D->Option D:=vp λi j=>if j<i then j else i
def kq:List Int->Int
 |[]=>0
 |[x]=>x
 |x::r=>if x<=kq r then x else kq r
theorem F7:∀{l},l≠[]->kq l∈l/\∀x∈l,kq l<=x
 |[x],_=>#[aap,λy m=>by rw[aaK.mp m];apply Int.le_refl _]
 |x::y::r,_=>by
  let#[h1,h2]:=F7 (l:=y::r) (by simp);show(if x<=kq (y::r) then x else kq (y::r))∈_/\∀z∈_,(if x<=kq (y::r) then x else kq (y::r))<=z
  by_cases h:x<=kq (y::r)
  .rw[if_pos h];apply#[aap,λz m=>(aat.mp m).elim (λe=>by rw[e];apply Int.le_refl _) λm=>Int.le_trans h (h2 z m)]
  .rw[abm h];apply#[aao _ h1,λz m=>(aat.mp m).elim (λe=>by rw[e];lia) λm=>h2 z m]
def ads:D->D->Option D
 |.lst ds,z=>match eU ds with
  |some []=>if aB z=true then some z else none
  |some (n::r)=>some (.int (kq (n::r)))
  |none=>none
 |_,_=>none
def MA(hc:X.calm=true)(hm:X.mg "min"=none)(ha:FP X a fa)(hb:FP X b fb)(hg:Gl X "min":=by rfl)(hs:starEach [a,b] X.env=[(false,eval a X.env),(false,eval b X.env)]:=by rfl)(bS:starEach [b] X.env=[(false,eval b X.env)]:=by rfl)(hpl:(backTo pos (starEach [b] X.env)).any (·.1)=false:=by rfl):
  FP X (.Call (.Name "min" p) [a,b] [] pos) (e2 CZ fa fb):=by
 let#[ta,pa,sa]:=ha;let#[tb,pb,sb]:=hb;exists 21,sA (abL hc) hg hm afi (eO pa (eO pb f7 bS) (by rw[hs,bS])) (he:=by rw[hs,bS]) (hpl:=hpl);let#[d1,t1,d2,t2,h1,h2,h3,rfl]:=pY e;refine sa ok h1 λH1 x f1 s1 r1 _=>?_
 refine sb (ok.same s1) h2 λH2 y f2 s2 r2 _=>?_
 unfold CZ vp at h3
 split at h3
 .cases h3;apply#[_,_,by rw[r1.iG.1,r2.iG.1],k H2 _ [] (s1.trans s2) (.int _) .nil]
 .cases h3
def agY(hc:X.calm=true)(hm:X.mg "min"=none)(ha:FP X a fa)(hb:FP X b fb)(hg:Gl X "min":=by rfl)(hs:starEach [a] X.env=[(false,eval a X.env)]:=by rfl)
  (h1:backTo pos (starEach [a] X.env)=(false,eval a X.env)::backTo pos (starEach [] X.env):=by rfl) (h2:(backTo pos (starEach [a] X.env)).any (·.1)=false:=by rfl)
  (h3:(backToKw pos (keywordEach [#[some "default",b,kp]] X.env)).all (·.1.isSome)=true:=by rfl) (h4:(backToKw pos (keywordEach [#[some "default",b,kp]] X.env)).any (·.1.isNone)=false:=by rfl)
  (h5:(backToKw pos (keywordEach [#[some "default",b,kp]] X.env)).filterMap (·.1)=[("default":Str)]:=by rfl) :
  FP X (.Call (.Name "min" p) [a] [#[some "default",b,kp]] pos) (e2 ads fa fb):=by
 let#[ta,pa,sa]:=ha;let#[tb,pb,sb]:=hb;exists 21,acY hc hm pa pb hg hs h1 h2 h3 h4 h5;let#[d1,t1,d2,t2,g1,g2,g3,rfl]:=pY e;refine sa ok g1 λH1 x f1 s1 r1 _=>?_
 refine sb (ok.same s1) g2 λH2 y f2 s2 r2 _=>?_
 cases d1 with
 |lst ds=>
  let#[l,xs,f,rfl,hq,rs,_]:=(r1.same s2).dM;have g3:(match eU ds with|some []=>if aB d2=true then some d2 else none|some (n::r)=>some (.int (kq (n::r)))|none=>none)=some d:=g3;cases h:eU ds with
  |none=>rw[h] at g3;ext g3
  |some ns=>
   rw[h] at g3;have ex:=uq rs h;subst ex;refine#[l,ns,rfl,hq,?_];cases ns with
   |nil=>
    have g3:=g3
    by_cases hi:aB d2=true
    .rw[if_pos hi] at g3;ext g3;have hn:=r2.aB hi;subst hn;apply .inl #[rfl,k H2 y [] (s1.trans s2) r2 .nil]
    .rw[abm hi] at g3;ext g3
   |cons n r=>
    ext g3;refine .inr #[by simp,λm pF nv=>?_];let#[q1,q2]:=F7 (l:=n::r) (by simp);have em:=Int.le_antisymm (nv _ q1) (q2 m pF);rw[em];apply k H2 _ [] (s1.trans s2) (.int _) .nil
 |_=>ext g3
theorem Oo{K:Fr}:∀{ds} {xs} {fp} {ps},aC K H ds xs fp->jN ds=some ps->
  ∃qs:List (Key×V),Paired (λy (q:Key×V)=>∃a,y=.ref a/\bK K H a [L2.kV q.1,q.2]) xs qs/\ps.map (·.1)=qs.map (·.1)/\aC K H (ps.map (·.2)) (qs.map (·.2)) []
 |_,_,_,ps,.nil,e=>by ext e;apply#[[],.nil,rfl,.nil]
 |_,_,_,ps,.cons (d:=d) (ds:=dr) h t,e=>by
  unfold jN at e
  split at e
  .rename_i heq;ext heq
  .rename_i kd d' r heq;ext heq;exists h1,iJ kd,k,e,0;cases h2:jN dr with
   |none=>rw[h1,h2] at e;ext e
   |some pr=>
    rw[h1,h2] at e;dsimp only at e;let#[hi,e]:=ci e;ext e;let#[qs,a1,a2,a3]:=Oo t h2;let#[a,ys,rfl,hq,rs]:=h.gY;cases rs with
    |cons rk rs=>
     cases rs with
     |cons rv rs=>
      cases rs with
      |nil=>
       have ek:=rk.key h1;subst ek;have hn:=rv.aB hi;subst hn;apply#[(k,_)::qs,.cons #[a,rfl,hq] a1,by rw[aas,aas,a2],aC.cons rv a3]
  .cases e
theorem Us{K:Fr}:∀{ps:List (Key×D)}{qs:List (Key×V)} {es} {ak},ps.map (·.1)=qs.map (·.1)->aC K H (ps.map (·.2)) (qs.map (·.2)) []->es.map (·.1)=ak.map (·.1)->aC K H (es.map (·.2)) (ak.map (·.2)) []->
  (ps.foldl (λm p=>putD m p.1 p.2) es).map (·.1)=(qs.foldl (λm q=>putK m q.1 q.2) ak).map (·.1)/\aC K H ((ps.foldl (λm p=>putD m p.1 p.2) es).map (·.2)) ((qs.foldl (λm q=>putK m q.1 q.2) ak).map (·.2)) []
 |[],[],_,_,_,_,h1,h2=>#[h1,h2]
 |[],_::_,_,_,e,_,_,_=>by simp at e
 |_::_,[],_,_,e,_,_,_=>by simp at e
 |(k,d)::ps,(k',v)::qs,es,ak,e,r,h1,h2=>by
  simp only[aas,agA] at e;let#[rfl,e]:=e;simp only[aas] at r;generalize hf:([]:List Addr)=fp at r;cases r with
  | @cons _ _ _ _ f1 f2 r1 r2=>
   let#[z1,z2]:=agI.mp hf.symm;subst z1 z2;rw[afa,afa];apply Us e r2 (A8 h1) (Fq h1 h2 r1)
def ahe{K:Fr}:qY K (λxs H Q=>Ij K xs H Q\/∃a ak,xs=[V.ref a]/\H a=some (.dK ak)/\∀l,H l=none->Q (.ref l) (upd H l (.dK ak))) DU:=by
 intro H x d1 f1 d Q r e k;have fresh:∀{o:HO} {l},H l=none->aJ H (upd H l o):=λhl b o e=>by rw[aM (cO e hl)];apply e
 have O5:∀l:Addr,([l]:List Addr).Nodup:=λl=>ab3.mpr #[(λm=>by ext m),acv]
 have seq:∀{ds} {xs} {f} {p},aC K H ds xs f->(ck K H p xs\/bK K H p xs)->((jN ds).map λps=>D.bZ (ps.foldl (λm p=>putD m p.1 p.2) []))=some d->Ij K [.ref p] H Q:=λ{ds xs f p} rs hq e=>by
  exists h,jN ds,ps,e;ext e;let#[qs,a1,a2,a3]:=Oo rs h;refine#[p,xs,qs,rfl,hq,a1,λl hl=>?_];let#[b1,b2]:=Us (es:=[]) (ak:=[]) a2 a3 rfl .nil;apply k _ _ [l] (fresh hl) (.bZ bI b1 (b2.same (fresh hl))) (O5 l) λa m=>by cases aaK.mp m;apply hl
 cases d1 with
 |lst ds=>
  let#[a,xs,f,rfl,hq,rs,_]:=r.dM;apply .inl (seq rs (.inl hq) e)
 |tup ds=>
  let#[a,xs,rfl,hq,rs]:=r.gY;apply .inl (seq rs (.inr hq) e)
 |bZ es=>
  cases r with
  | @bZ a ak _ fp h hk rs=>
   have e:(if aK (es.map (·.2))=true then some (D.bZ es) else none)=some d:=e;let#[hi,e]:=ci e;ext e;have hn:=rs.aB hi;subst hn;apply .inr #[a,ak,rfl,h,λl hl=>k _ _ [l] (fresh hl) (.bZ bI hk (rs.same (fresh hl))) (O5 l) λa m=>by cases aaK.mp m;apply hl]
 |_=>ext e
section
variable{X:Cx}
def ab7:gO X (.type "dict") (λxs H Q=>∃a ak,xs=[V.ref a]/\H a=some (.dK ak)/\∀l,H l=none->Q (.ref l) (upd H l (.dK ak))):=by
 intro af s U H xs us Q I r h;let#[a,ak,rfl,ha,q]:=h;let#[u,rfl,ru]:=vals1 r;ext ru;apply abj I (.inl ha) λp s' hp I'=>#[.ref p,_,I',rfl,q p hp]
def Bl{p:Pos}(hc:X.calm=true)(hm:X.mg "dict"=none)(ha:FP X a fa)(hg:Gl X "dict":=by rfl)(hs:starEach [a] X.env=[(false,eval a X.env)]:=by rfl):FP X (.Call (.Name "dict" p) [a] [] pos) (e1 DU fa):=
 fp_1 ahe ha λta pa=>xg (gO.or' (adT hc) ab7) hg hm (show bootBuiltins "dict"=some (.type "dict") by decide +kernel) (eO pa f7 hs) (he:=hs)
def yD:D->Option D
 |.lst ds=>if aK ds=true then some (.tup ds) else none
 |.tup ds=>if aK ds=true then some (.tup ds) else none
 |_=>none
def Ei:qY X.K (λxs H Q=>∃p ys,xs=[V.ref p]/\((ck X.K H p ys/\∀l,H l=none->Q (.ref l) (upd H l (.tup ys)))\/(bK X.K H p ys/\Q (.ref p) H))) yD:=by
 intro H x d1 f1 d Q r e k;cases d1 with
 |lst ds=>
  let#[a,xs,f,rfl,hq,rs,_]:=r.dM;have e:(if aK ds=true then some (D.tup ds) else none)=some d:=e;let#[hi,e]:=ci e;ext e;have hn:=rs.aB hi;subst hn;refine#[a,xs,rfl,.inl #[hq,λl hl=>?_]];have s2:aJ H (upd H l (.tup xs)):=λb o e=>by rw[aM (cO e hl)];apply e
  apply k _ _ [] s2 (.tup (bK.of bI) (rs.same s2)) acv λa m=>nomatch m
 |tup ds=>
  let#[a,xs,rfl,hq,rs]:=r.gY;have e:(if aK ds=true then some (D.tup ds) else none)=some d:=e;let#[hi,e]:=ci e;ext e;have hn:=rs.aB hi;subst hn;apply#[a,xs,rfl,.inr #[hq,k H _ [] (aJ.refl H) (.tup hq rs) acv λa m=>nomatch m]]
 |_=>ext e
def zg{p:Pos}(hm:X.mg "tuple"=none)(ha:FP X a fa)(hg:Gl X "tuple":=by rfl)(hs:starEach [a] X.env=[(false,eval a X.env)]:=by rfl):FP X (.Call (.Name "tuple" p) [a] [] pos) (e1 yD fa):=
 fp_1 Ei ha λta pa=>xg OE hg hm (show bootBuiltins "tuple"=some (.type "tuple") by decide +kernel) (eO pa f7 hs) (he:=hs)
end
def ym(N:List Str)(uM sc:Scope)(M:List Str)(js:List (Option Nat)):Bool:=
 (sc.kind == .function)&&sc.names.all (λy=>y.2 != .cell)&&sc.names.all (λy=>if y.2 == .local then sc.names.lookup y.1==some .local else true)&&oO N sc M js&&(frees sc).all (λx=>uM.names.lookup x==some .cell||uM.names.lookup x==some .free)&&decide M.Nodup
def ZM(h1:X.N=N)(h2:X.env.scope=uM)(h3:X.env.kindOf=λx=>uM.names.lookup x)(h:ym N uM sc M js=true):mh X M js sc:=by
 unfold ym at h;let#[h,a6]:=(aaF _ _).mp h;let#[h,a5]:=(aaF _ _).mp h;let#[h,a4]:=(aaF _ _).mp h;let#[h,a3]:=(aaF _ _).mp h;let#[a1,a2]:=(aaF _ _).mp h;refine#[?_,λy hy=>?_,λy hy hl=>?_,?_,λx hx=>?_,aaY a6]
 .cases hk:sc.kind<;>rw[hk] at a1<;>first|rfl|exact absurd a1 (by decide)
 .have:=adR.mp a2 y hy;intro z;rw[z] at this;apply absurd this (by decide)
 .have:=adR.mp a3 y hy;rw[hl] at this;have this:=this;cases q:sc.names.lookup y.1 with
  |none=>rw[q] at this;apply absurd this (by decide)
  |some k=>rw[q] at this;ext k<;>first|rfl|exact absurd this (by decide)
 .rw[h1];apply a4
 .have:=adR.mp a5 x hx;rw[h3];dsimp only;cases q:uM.names.lookup x with
  |none=>rw[q] at this;apply absurd this (by decide)
  |some k=>rw[q] at this;ext k<;>first|exact .inl rfl|exact .inr rfl|exact absurd this (by decide)
def dh.back(g:dh z H1 t fp)(s:aJ H H1):dh z H t fp:=by
 cases t with
 |sh o=>apply g
 |own=>apply#[g.1,λa m=>s.free (g.2 a m)]
 |lk=>apply#[g.1,λa m=>s.free (g.2 a m)]
def yb(fa fb:EF):EF:=λY=>match fa Y with
 |some (.bl true,_)=>fb Y
 |some (.bl false,_)=>some (.bl false,.own)
 |_=>none
def afY:D->Option D
 |.bl b=>some (.bl (!b))
 |_=>none
def tX{op}(h:FP X a fa):FP X (.BoolOp op [a] pos) fa:=let#[t,p,q]:=h;#[t,Uw p,q]
def ou{rest:List Expr}(ha:FP X a fa)(hb:FP X (.BoolOp .And (b::rest) pos) fb):FP X (.BoolOp .And (a::b::rest) pos) (yb fa fb):=by
 let#[t,p,q]:=ha;let#[t',p',q']:=hb;exists 21,X4 p p';unfold yb at e
 split at e
 .rename_i tt h;refine q ok h λH1 v fp s1 r1 _=>?_
  ext r1;refine#[true,rfl,?_];rw[if_pos rfl];apply q' (ok.same s1) e λH2 v fp s2 r2 g2=>k H2 v fp (s1.trans s2) r2 (g2.back s1)
 .rename_i tt h;ext e;refine q ok h λH1 v fp s1 r1 _=>?_
  ext r1;refine#[false,rfl,?_];rw[abm aa3];apply k H1 _ [] s1 (.bl _) .nil
 .cases e
def Z_(ha:FP X a fa):FP X (.UnaryOp .Not a pos) (e1 afY fa):=by
 let#[t,p,q]:=ha;exists 21,XM p;let#[d1,t1,h1,h2,rfl]:=oB e;refine q ok h1 λH1 v fp s1 r1 _=>?_
 ext r1<;>ext h2
 apply#[_,rfl,k H1 _ [] s1 (.bl _) .nil]
def gW:D->D->Option D
 |.lst ds,.lst es=>if(aK ds&&aK es&&decide (ds.length+es.length<=sizeLine))=true then some (.lst (ds++es)) else none
 |_,_=>none
def zx(ha:FP X a fa)(hb:FP X b fb):FP X (.BinOp a .Add b pos) (e2 gW fa fb):=by
 let#[ta,pa,sa]:=ha;let#[tb,pb,sb]:=hb;exists 20,NZ agu pa pb;let#[d1,t1,d2,t2,e1,iV,e3,rfl]:=pY e;refine sa ok e1 λH1 x f1 s1 r1 _=>?_
 refine sb (ok.same s1) iV λH2 y f2 s2 r2 _=>?_
 unfold gW at e3
 split at e3
 .rename_i ds es;let#[hc,e3]:=ci e3;ext e3;let#[c1,c3]:=(aaF _ _).mp hc;let#[c1,c2]:=(aaF _ _).mp c1;have r1:=r1.same s2;cases r1 with
  | @lst p xs _ f h rs=>
   cases r2 with
   | @lst p' ys _ f' h' Kv=>
    have n1:=rs.aB c1;have n2:=Kv.aB c2;subst n1 n2;refine#[p,p',xs,ys,rfl,rfl,h,h',by rw[<- rs.length,<- Kv.length];apply aaY c3,λl hl=>?_];have s3:aJ H2 (upd H2 l (.lst (xs++ys))):=λb o e=>by rw[aM (cO e hl)];apply e
    have rr:=aC.append rs Kv;refine q _ _ [l] ((s1.trans s2).trans s3) (.lst bI (rr.same s3)) #[ab3.mpr #[(λm=>by ext m),acv],λa m=>?_];cases aaK.mp m;apply(s1.trans s2).free hl
 .cases e3
def KQ:D->Option String
 |.int _=>some "int"
 |.bl _=>some "bool"
 |.str _=>some "str"
 |.aI=>some "NoneType"
 |.lst _=>some "list"
 |.bZ _=>some "dict"
 |_=>none
def Px(T:String)(d:D):Option D:=match KQ d with
 |some t=>some (.bl (t==T||(t == "bool"&&T == "int")))
 |none=>none
def Dy(T:String):Prop:=∀(K) (t),t∈["int","bool","str","NoneType","list","dict"]->PySem.W.kitOne K (.type t) (.type T)=some (t==T||(t == "bool"&&T == "int"))
def Ht:Dy "int":=by
 intro K t m;simp only[aat,acO,afH] at m;rcases m with rfl|rfl|rfl|rfl|rfl|rfl<;>rfl
def FL:Dy "bool":=by
 intro K t m;simp only[aat,acO,afH] at m;rcases m with rfl|rfl|rfl|rfl|rfl|rfl<;>rfl
def acE(T:String):gO X (.builtin "isinstance") (λxs H Q=>∃x t b,xs=[x,V.ty T]/\jZ X.K H x t/\PySem.W.kitOne X.K t (.type T)=some b/\Q (.bl b) H):=by
 intro af s U H xs us Q I r h;let#[x,t,bb,rfl,ty,e,q]:=h;let#[u,w',rfl,ru,fu]:=vals2 r;ext fu;apply aiD I ru ty e λtk=>#[.bl bb,H,I.tok tk,rfl,q]
def Rep.ty{K:Fr}(r:Rep K H d v fp)(e:KQ d=some t):jZ K H v (.type t)/\t∈["int","bool","str","NoneType","list","dict"]:=by
 cases r with
 |aI=>ext e;apply#[.aI,by decide]
 |bl b=>ext e;apply#[.bl b,by decide]
 |int i=>ext e;apply#[.int i,by decide]
 |str x=>ext e;apply#[.str x,by decide]
 |lst h _=>ext e;apply#[.lst h,by decide]
 |bZ h _ _=>ext e;apply#[.dK h,by decide]
 |tup _ _=>ext e
 |xT _ _=>ext e
 |eV _ _ _=>ext e
 |ins _ _ _ _=>ext e
 |exc _ _ _=>ext e
def qu{T:String}(hT:Dy T)(hm:X.mg "isinstance"=none)(Wt:X.mg x=none)(ha:FP X a fa)(F5:bootBuiltins x=some (.type T):=by decide +kernel)(hg:Gl X "isinstance":=by rfl)(Zo:Gl X x:=by rfl)(hn:x≠"__name__":=by decide)(fE:(x==("__debug__":Str))=false:=by decide)
  (hs:starEach [a,.Name x p2] X.env=[(false,eval a X.env),(false,eval (.Name x p2) X.env)]:=by rfl) (hpl:(backTo pos (starEach [.Name x p2] X.env)).any (·.1)=false:=by rfl):FP X (.Call (.Name "isinstance" p) [a,.Name x p2] [] pos) (e1 (Px T) fa):=by
 let#[ta,pa,sa]:=ha;have bS:starEach [.Name x p2] X.env=[(false,eval (.Name x p2) X.env)]:=rfl;exists 21,sA (acE T) hg hm (show bootBuiltins "isinstance"=some (.builtin "isinstance") by decide +kernel) (eO pa (eO (P6 (v:=.ty T) Zo Wt F5 rfl hn fE) f7) (by rw[hs,bS])) (he:=by rw[hs,bS]);let#[d1,t1,h1,h2,rfl]:=oB e;refine sa ok h1 λH1 v fp s1 r1 _=>?_
 unfold Px at h2;exists ht,KQ d1,t,h2;ext h2;let#[ty,mem]:=r1.ty ht;apply#[v,_,_,rfl,ty,hT X.K t mem,k H1 _ [] s1 (.bl _) .nil]
end L2.Ev
namespace L2.Ev
open PySem
def k3(op:D->D->D->Option D):Option (D×Tag)->Option (D×Tag)->Option (D×Tag)->Option (D×Tag)
 |some (d1,_),some (d2,_),some (d3,_)=>(op d1 d2 d3).map λd=>(d,.own)
 |_,_,_=>none
def ZL:e3 op3 fa fb fc Y=k3 op3 (fa Y) (fb Y) (fc Y):=by unfold e3 k3;cases fa Y<;>cases fb Y<;>cases fc Y<;>rfl
def Pa(fb:EF)(Y:aR):Option (D×Tag)->Option (D×Tag)
 |some (.bl true,_)=>fb Y
 |some (.bl false,_)=>some (.bl false,.own)
 |_=>none
def acd:yb fa fb Y=Pa fb Y (fa Y):=by
 unfold yb Pa;cases fa Y with
 |none=>rfl
 |some w=>let#[d,t]:=w;ext d<;>first|rfl|(rename_i b;ext b<;>rfl)
def Xn:jf d .aI=some (.bl (oz d)):=rfl
theorem P5(P:Nat->aR->Prop):∀{ds} {Y} {n},P n Y->(∀j Y d,ds[j]? = some d->P (n+j) Y->∃aP aQ,g d t Y=some aP/\(f aP=some (.nx aQ)\/f aP=some (.ct aQ))/\P (n+j+1) aQ)->
  ∃Y',cY g t f ds Y=some (.nx Y')/\P (n+ds.length) Y'
 |[],Y,n,h,_=>#[Y,rfl,h]
 |d::ds,Y,n,h,hs=>by
  let#[aP,aQ,h1,h2,h3]:=hs 0 Y d rfl h;let#[Y',h4,h5]:=P5 P h3 λj Y d hd hp=>by
   have:=hs (j+1) Y d hd (by rw[show n+(j+1)=n+1+j by lia];apply hp);rw[show n+(j+1)+1=n+1+j+1 by lia] at this;apply this
  refine#[Y',?_,by rw[acK,show n+(ds.length+1)=n+1+ds.length by lia];apply h5];unfold cY;rw[h1];rcases h2 with h2|h2<;>(dsimp only;rw[h2];apply h4)
theorem Oz(P:Nat->aR->Prop)(R:Nat->D->Prop):∀{ds} {Y} {n},P n Y->(∀j Y d,ds[j]? = some d->P (n+j) Y->∃aP,g d t Y=some aP/\((∃aQ,(f aP=some (.nx aQ)\/f aP=some (.ct aQ))/\P (n+j+1) aQ)\/∃r,f aP=some (.rt r)/\R (n+j) r))->
  (∃Y',cY g t f ds Y=some (.nx Y')/\P (n+ds.length) Y')\/∃j r,cY g t f ds Y=some (.rt r)/\R (n+j) r/\j<ds.length
 |[],Y,n,h,_=>.inl #[Y,rfl,h]
 |d::ds,Y,n,h,hs=>by
  obtain⟨aP,h1,⟨aQ,h2,h3⟩|⟨r,h2,h3⟩⟩:=hs 0 Y d rfl h
  .have e:cY g t f (d::ds) Y=cY g t f ds aQ:=by
    rw[cY,h1];rcases h2 with h2|h2<;>(dsimp only;rw[h2])
   rw[e];rcases Oz P R h3 (λj Y d hd hp=>by
    have:=hs (j+1) Y d hd (by rw[show n+(j+1)=n+1+j by omega];apply hp);rw[show n+(j+1)+1=n+1+j+1 by omega,show n+(j+1)=n+1+j by omega] at this;apply this) with⟨Y',h4,h5⟩|⟨j,r,h4,h5,h6⟩
   .exact .inl #[Y',h4,by rw[acK,show n+(ds.length+1)=n+1+ds.length by omega];apply h5]
   .exact .inr #[j+1,r,h4,by rw[show n+(j+1)=n+1+j by omega];apply h5,by rw[acK];omega]
  .refine .inr #[0,r,?_,h3,by rw[acK];omega];rw[cY,h1];dsimp only;rw[h2]
def uZ(hi:it Y=some (ds,t))(h:cY g (k7 t) f ds (pC (nO (mP t) Y) Y)=some (.nx Y')):jc it g f Y=some (.nx (ug (nO (mP t) Y) Y')):=by unfold jc;rw[hi];dsimp only;rw[h]
def Bb(hi:it Y=some (ds,t))(h:cY g (k7 t) f ds (pC (nO (mP t) Y) Y)=some (.rt r)):jc it g f Y=some (.rt r):=by unfold jc;rw[hi];dsimp only;rw[h]
def xw(hi:it Y=some (ds,.own))(h:cY g (.sh []) f ds Y=some (.nx Y')):jc it g f Y=some (.nx Y'):=uZ hi h
def Mj(hi:it Y=some (ds,.own))(h:cY g (.sh []) f ds Y=some (.rt r)):jc it g f Y=some (.rt r):=Bb hi h
def We(h:e Y=some (.int n,t))(hs:small n=true):yW e Y=some ((List.range n.toNat).map λi:Nat=>D.int (0+(i:Int)),.own):=by unfold yW;rw[h];dsimp only;rw[if_pos hs]
def kr(h:e Y=some (.lst ds,t)):iu e Y=some (ds,t):=by unfold iu;rw[h]
def jE(hi:it Y=some (ds,t))(hl:ds.length<sizeLine)(h:∀d∈ds,jF g tt te (jw js Y) d=some (k d)):
  iW js it g tt te Y=some (.lst (ds.filterMap k),.own):=by unfold iW;rw[hi];dsimp only;rw[if_pos hl,QB h];rfl
def D3(h1:g d (.sh []) Y=some aP)(h2:tt aP=some false):jF g tt te Y d=some none:=by unfold jF;rw[h1];dsimp only;rw[h2]
def uo(h1:g d (.sh []) Y=some aP)(h2:tt aP=some true)(h3:te aP=some (e,.own)):jF g tt te Y d=some (some e):=by unfold jF;rw[h1];dsimp only;rw[h2];dsimp only;rw[h3];rfl
def n9(h1:g d (.sh []) Y=some aP)(h2:tt aP=some true)(h3:te aP=some (e,tg))(hi:aB e=true):jF g tt te Y d=some (some e):=by
 unfold jF;rw[h1];dsimp only;rw[h2];dsimp only;rw[h3];dsimp only
 by_cases ho:jy tg=true
 .rw[if_pos ho]
 .rw[abm ho,if_pos hi]
def kI(p:Int×Int):Key×D:=(Sum.inl p.1,.int p.2)
def cU(es:List (Int×Int)):D:=.bZ (es.map kI)
def cu(es:List (Int×Int))(k:Int):Option Int:=(es.find? λp=>decide (p.1=k)).map (·.2)
def gK(es:List (Int×Int))(k v:Int):List (Int×Int):=if(es.any λp=>decide (p.1=k))=true then es.map (λp=>if p.1=k then(p.1,v) else p) else es++[(k,v)]
def uC:((Sum.inl a:Key)=Sum.inl k)↔a=k:=#[λh=>ajz h,λh=>by rw[h]]
def Tn(es:List (Int×Int))(k:Int):bC (es.map kI) (Sum.inl k:Key)=(cu es k).map D.int:=by
 unfold bC cu
 induction es with
 |nil=>rfl
 |cons p r ih=>
  rw[aas,adE,adE]
  by_cases h:p.1=k
  .rw[aa1 (show(kI p).1=Sum.inl k from uC.mpr h),aa1 h];rfl
  .rw[abS (show ¬(kI p).1=Sum.inl k from λe=>h (uC.mp e)),abS h];apply ih
def Qx(es:List (Int×Int))(k v:Int):putD (es.map kI) (Sum.inl k:Key) (.int v)=(gK es k v).map kI:=by
 unfold putD gK;have e:((es.map kI).any λkv=>decide (kv.1=(Sum.inl k:Key)))=es.any λp=>decide (p.1=k):=by
  rw[aiX]
  congr 1
  funext p
  apply ajl.mpr uC
 rw[e]
 by_cases h:(es.any λp=>decide (p.1=k))=true
 .rw[if_pos h,if_pos h,adw,adw]
  congr 1
  funext p
  show(if(kI p).1=Sum.inl k then((kI p).1,D.int v) else kI p)=kI (if p.1=k then(p.1,v) else p)
  by_cases hp:p.1=k
  .rw[if_pos hp,if_pos (show(kI p).1=Sum.inl k from uC.mpr hp)];rfl
  .rw[abm hp,abm (show ¬(kI p).1=Sum.inl k from λe=>hp (uC.mp e))]
 .rw[abm h,abm h,adK];rfl
def af3:u0 (cU es) (.int k) (.int z)=some (.int ((cu es k).getD z)):=by
 show(match bC (es.map kI) (Sum.inl k:Key) with|some d=>if aB d=true then some d else none|none=>if aB (.int z)=true then some (.int z) else none)=_;rw[Tn];cases cu es k<;>rfl
def afJ(h:cu es k=some v):kH (cU es) (.int k)=some (.int v):=by
 show((bC (es.map kI) (Sum.inl k:Key)).bind λd=>if aB d=true then some d else none)=_;rw[Tn,h];rfl
theorem S7:∀es:List (Int×Int),i_ (es.map kI)=some (es.map (·.1))
 |[]=>rfl
 |p::r=>by rw[aas];show(i_ (r.map kI)).map (p.1::·)=_;rw[S7 r];rfl
def afQ(h:es.length<64):mV (cU es)=some (.lst ((dY (es.map (·.1))).map D.int)):=by
 show(match i_ (es.map kI) with|some ns=>if ns.length<64 then some (D.lst ((dY ns).map D.int)) else none|none=>none)=_;rw[S7];dsimp only;rw[if_pos (by rw[List.length_map];apply h)]
theorem Qz:∀es:List (Int×Int),aK ((es.map kI).map (·.2))=true
 |[]=>rfl
 |p::r=>by rw[aas,aas];unfold aK;rw[Qz r];rfl
def N7(h1:fv Y=some (.int v,t1))(h2:Y[i]? = some (some (cU es,.own)))(h3:fk Y=some (.int k,t2))(hl:es.length<sizeLine):
  nu i fk fv Y=some (.nx (cJ Y i (cU (gK es k v)))):=by
 unfold nu;rw[h1,h2,h3];unfold cU;dsimp only[iJ];rw[if_pos (by rw[Qz,List.length_map,aa1 hl];rfl),Qx]
def B8(es:List (Int×Int))(k v j:Int):cu (gK es k v) j=if j=k then some v else cu es j:=by
 unfold gK
 by_cases h:(es.any λp=>decide (p.1=k))=true
 .rw[if_pos h];unfold cu
  induction es with
  |nil=>ext h
  |cons p r ih=>
   rw[aas,adE,adE]
   by_cases hp:p.1=k
   .rw[if_pos hp];dsimp only
    by_cases hj:j=k
    .rw[aa1 (hp.trans hj.symm),if_pos hj];rfl
    .have kK:¬p.1=j:=λe=>hj (e.symm.trans hp)
     rw[abS kK,abm hj];dsimp only
     by_cases hr:(r.any λp=>decide (p.1=k))=true
     .rw[ih hr,abm hj]
     .congr 1
      have:r.map (λp=>if p.1=k then(p.1,v) else p)=r:=by
       conv=>rhs;rw[<- List.map_id r]
       refine agL λq m=>?_
       rw[abm λe=>hr (adY.mpr #[q,m,aa1 e])];rfl
      rw[this]
   .rw[abm hp];have hr:(r.any λp=>decide (p.1=k))=true:=by
     rw[aiY,abS hp] at h;apply h
    by_cases hj:p.1=j
    .rw[aa1 hj,abm λe=>hp (hj.trans e)]
    .rw[abS hj];apply ih hr
 .rw[abm h];unfold cu;rw[List.find?_append]
  by_cases hj:j=k
  .have:(es.find? λp=>decide (p.1=j))=none:=ahp.mpr λq m hq=>h (adY.mpr #[q,m,by rw[<- hj];apply hq])
   rw[this,if_pos hj,hj];simp
  .rw[abm hj];have:([(k,v)].find? λp=>decide (p.1=j))=none:=ahp.mpr λq m hq=>hj (by cases aaK.mp m;apply(aaY hq).symm)
   rw[this,Option.or_none]
def TV(es:List (Int×Int))(k v:Int):(gK es k v).map (·.1)=if k∈es.map (·.1) then es.map (·.1) else es.map (·.1)++[k]:=by
 unfold gK
 by_cases h:(es.any λp=>decide (p.1=k))=true
 .have hm:k∈es.map (·.1):=by
   let#[p,m,hp]:=adY.mp h;apply abG.mpr #[p,m,aaY hp]
  rw[if_pos h,if_pos hm,adw];refine agL λp m=>?_
  show(if p.1=k then(p.1,v) else p).1=p.1
  split<;>rfl
 .have hm:k∉es.map (·.1):=λm=>by
   let#[p,m,hp]:=abG.mp m;apply h (adY.mpr #[p,m,aa1 hp])
  rw[abm h,abm hm,adK];rfl
def Mr(h:(es.map (·.1)).Nodup):((gK es k v).map (·.1)).Nodup:=by
 rw[TV]
 by_cases hm:k∈es.map (·.1)
 .rw[if_pos hm];apply h
 .rw[abm hm];apply ac7.mpr #[h,ab3.mpr #[(λm=>by ext m),acv],λa ha b hb e=>hm (by cases aaK.mp hb;apply e ▸ ha)]
def ab6:(gK es k v).length<=es.length+1:=by
 have:=congrArg List.length (TV es k v);rw[List.length_map] at this;rw[this]
 split
 .rw[List.length_map];lia
 .rw[abE,List.length_map];apply aa9 _
def tW:(∃v,cu es k=some v)↔k∈es.map (·.1):=by
 unfold cu;constructor
 .rintro⟨v,h⟩
  cases e:es.find? λp=>decide (p.1=k) with
  |none=>rw[e] at h;ext h
  |some p=>apply abG.mpr #[p,ag3 e,aaY (ajv e :)]
 .intro h;let#[p,m,hp]:=abG.mp h;cases e:es.find? λp=>decide (p.1=k) with
  |none=>apply absurd (aa1 hp) (ahp.mp e p m)
  |some q=>apply#[q.2,rfl]
def jS(ps:List (Int×Int)):List (Int×Int):=ps.foldl (λm p=>gK m p.1 p.2) []
theorem foldI:∀(ps m:List (Int×Int)),(ps.map kI).foldl (λm p=>putD m p.1 p.2) (m.map kI)=(ps.foldl (λm p=>gK m p.1 p.2) m).map kI
 |[],_=>rfl
 |p::r,m=>by rw[aas,afa,afa];show(r.map kI).foldl _ (putD (m.map kI) (Sum.inl p.1) (.int p.2))=_;rw[Qx];apply foldI r _
def dP(p:Int×Int):D:=.tup [.int p.1,.int p.2]
theorem Ss:∀ps:List (Int×Int),jN (ps.map dP)=some (ps.map kI)
 |[]=>rfl
 |p::r=>by
  rw[aas];show(match iJ (.int p.1),jN (r.map dP) with|some k,some ps=>if aB (.int p.2)=true then some ((k,D.int p.2)::ps) else none|_,_=>none)=_;rw[Ss r];rfl
def M_:DU (.lst (ps.map dP))=some (cU (jS ps)):=by
 show(jN (ps.map dP)).map _=_;rw[Ss];show some (D.bZ ((ps.map kI).foldl (λm p=>putD m p.1 p.2) []))=_;rw[show([]:List (Key×D))=([]:List (Int×Int)).map kI from rfl,foldI];rfl
def R_(hn:(ps.map (·.1)).Nodup)(k:Int):cu (jS ps) k=cu ps k:=by
 have go:∀(ps m),(ps.map (·.1)).Nodup->cu (ps.foldl (λm p=>gK m p.1 p.2) m) k=(cu ps k).or (cu m k):=by
  intro ps
  induction ps with
  |nil=>intro m _;rfl
  |cons p r ih=>
   intro m h;rw[aas] at h;let#[h1,h2]:=ab3.mp h;rw[afa,ih _ h2,B8]
   by_cases hk:k=p.1
   .have hr:cu r k=none:=by
     cases e:cu r k with
     |none=>rfl
     |some v=>apply absurd (tW.mp #[v,e]) (hk ▸ h1)
    rw[hr,if_pos hk];unfold cu;rw[adE,aa1 hk.symm];rfl
   .rw[abm hk];have:cu (p::r) k=cu r k:=by unfold cu;rw[adE,abS λe=>hk e.symm]
    rw[this]
 unfold jS;rw[go ps [] hn];cases cu ps k<;>rfl
open PySem PySem.Spec PyProof.Rows
mutual
def py:D->PyData
 |.bl b=>.bool b
 |.int i=>.int i
 |.str x=>.str x
 |.tup ds=>.tuple (eZ ds)
 |.lst ds=>.list (eZ ds)
 |.bX ds=>.list (eZ ds)
 |_=>.none
def eZ:List D->List PyData
 |[]=>[]
 |d::ds=>py d::eZ ds
end
mutual
def fN:D->Bool
 |.aI|.bl _|.int _|.str _=>true
 |.tup ds|.lst ds|.bX ds=>lO ds
 |_=>false
def lO:List D->Bool
 |[]=>true
 |d::ds=>fN d&&lO ds
end
mutual
theorem oJ(I:Inv X af U H s):∀{d} {v} {f} {u},Rep X.K H d v f->RelV v u->fN d=true->∃as,Reads s.heap u (py d) as
 |.aI,_,_,_,r,q,_=>by ext r;ext q;apply#[_,by unfold py;apply .none]
 |.bl b,_,_,_,r,q,_=>by ext r;ext q;apply#[_,by unfold py;apply .bool b]
 |.int i,_,_,_,r,q,_=>by ext r;let#[t,rfl]:=q;apply#[_,by unfold py;apply .int i t]
 |.str x,_,_,_,r,q,_=>by ext r;let#[t,rfl]:=q;apply#[_,by unfold py;apply .str x t]
 |.tup ds,_,_,_,r,q,e=>by
  let#[a,xs,rfl,hq,rs]:=r.gY;ext q;let#[us,v1,#[o,h1,h2,n,h3],_]:=I.tuple hq;let#[as,ra]:=CV I rs v1 (by unfold fN at e;apply e);apply#[_,by unfold py;apply .tuple h1 h2 h3 (by simpa using ra)]
 |.lst ds,_,_,_,r,q,e=>by
  let#[a,xs,f,rfl,hq,rs,_]:=r.dM;ext q;let#[us,v1,#[o,n,h1,h2,_,h3],_]:=I.list hq;let#[as,ra]:=CV I rs v1 (by unfold fN at e;apply e);apply#[_,by unfold py;apply .list h1 h2 h3 (by simpa using ra)]
 |.bX ds,_,_,_,r,q,e=>by
  let#[a,xs,rfl,hq,rs]:=r.nU;ext q;let#[us,v1,#[o,n,h1,h2,_,h3],_]:=I.list hq;let#[as,ra]:=CV I rs v1 (by unfold fN at e;apply e);apply#[_,by unfold py;apply .list h1 h2 h3 (by simpa using ra)]
 |.bZ _,_,_,_,_,_,e=>by unfold fN at e;ext e
 |.eV _,_,_,_,_,_,e=>by unfold fN at e;ext e
 |.ins _ _,_,_,_,_,_,e=>by unfold fN at e;ext e
 |.exc _,_,_,_,_,_,e=>by unfold fN at e;ext e
theorem CV(I:Inv X af U H s):∀{ds} {xs} {f} {us},aC X.K H ds xs f->aT xs us->lO ds=true->∃as,ReadsAll s.heap us (eZ ds) as
 |[],_,_,_,r,q,_=>by ext r;ext q;apply#[_,by unfold eZ;apply .nil]
 |d::ds,_,_,_,r,q,e=>by
  cases r with
  |cons r1 r2=>
   cases q with
   |cons q1 q2=>
    unfold lO at e;let#[e1,e2]:=(aaF _ _).mp e;let#[as,h1]:=oJ I r1 q1 e1;let#[bs,h2]:=CV I r2 q2 e2;apply#[_,by unfold eZ;apply .cons h1 h2]
end
def uI(r:List Int):D:=.tup (r.map D.int)
def cT(rs:List (List Int)):List D:=rs.map uI
theorem zC:∀r:List Int,eZ (r.map D.int)=r.map PyData.int
 |[]=>rfl
 |i::r=>by rw[aas,aas];unfold eZ;rw[zC r];unfold py;rfl
theorem D5:∀r:List Int,lO (r.map D.int)=true
 |[]=>rfl
 |i::r=>by rw[aas];unfold lO;rw[D5 r];rfl
theorem depthAll_ints:∀r:List Int,PyData.depthAll (r.map PyData.int)=0
 |[]=>rfl
 |i::r=>by rw[aas];simp only[PyData.depthAll,PyData.depth,depthAll_ints r];rfl
def jR(r:List Int):PyData:=.tuple (r.map PyData.int)
def aaw(r:List Int):py (uI r)=jR r:=by unfold uI jR;unfold py;rw[zC]
theorem JC:∀rs:List (List Int),eZ (cT rs)=rs.map jR
 |[]=>rfl
 |r::rs=>by
  show eZ (uI r::cT rs)=jR r::rs.map jR;unfold eZ;rw[aaw,JC rs]
theorem N3:∀rs:List (List Int),lO (cT rs)=true
 |[]=>rfl
 |r::rs=>by
  show lO (uI r::cT rs)=true;unfold lO;rw[N3 rs,Bool.and_true];unfold uI fN;apply D5 r
def cX(d:D):Bool:=fN d&&(py d).canLay0&&decide ((py d).depth<=40)
def w6(d1 d2:D):Option D:=if(cX d1&&cX d2)=true then some (.bl (PyData.eqv (py d1) (py d2))) else none
def kc(d1 d2:D):Option D:=if(cX d1&&cX d2)=true then some (.bl (!PyData.eqv (py d1) (py d2))) else none
def DF(K:Fr)(neg:Bool):R2:=λx y H Q=>∃d1 d2 f1 f2,Rep K H d1 x f1/\Rep K H d2 y f2/\cX d1=true/\cX d2=true/\Q (.bl (if neg=true then !PyData.eqv (py d1) (py d2) else PyData.eqv (py d1) (py d2))) H
def lay_of(h:cX d=true):fN d=true/\(py d).canLay0=true/\(py d).depth<=40:=by
 unfold cX at h;let#[h,h3]:=(aaF _ _).mp h;let#[h1,h2]:=(aaF _ _).mp h;apply#[h1,h2,aaY h3]
def Q9(hu:X.A.units+64<cLine):dH X (compareOp .NotEq) (DF X.K true):=by
 intro af s U H x y v u Q I rx ry h;let#[d1,d2,f1,f2,r1,r2,l1,l2,q]:=h;let#[a1,a2,a3]:=lay_of l1;let#[b1,b2,b3]:=lay_of l2;let#[as,ra]:=oJ I r1 rx a1;let#[bs,rb]:=oJ I r2 ry b1;apply SeqAt.compareNe_reads ra rb a2 b2 (by omega) #[.bl _,H,I,rfl,q]
def aaO(hu:X.A.units+64<cLine):dH X (compareOp .Eq) (DF X.K false):=by
 intro af s U H x y v u Q I rx ry h;let#[d1,d2,f1,f2,r1,r2,l1,l2,q]:=h;let#[a1,a2,a3]:=lay_of l1;let#[b1,b2,b3]:=lay_of l2;let#[as,ra]:=oJ I r1 rx a1;let#[bs,rb]:=oJ I r2 ry b1;apply SeqAt.compareEq_reads ra rb a2 b2 (by omega) #[.bl _,H,I,rfl,q]
def NW{K:Fr}:gx K (DF K true) kc:=by
 intro H x y d1 d2 f1 f2 d Q r1 r2 e k;unfold kc at e
 by_cases hc:(cX d1&&cX d2)=true
 .rw[if_pos hc] at e;ext e;let#[c1,c2]:=(aaF _ _).mp hc;apply#[d1,d2,f1,f2,r1,r2,c1,c2,k H _ (aJ.refl H) (.bl _)]
 .rw[abm hc] at e;ext e
def aby{K:Fr}:gx K (DF K false) w6:=by
 intro H x y d1 d2 f1 f2 d Q r1 r2 e k;unfold w6 at e;let#[hc,e]:=ci e;ext e;let#[c1,c2]:=(aaF _ _).mp hc;apply#[d1,d2,f1,f2,r1,r2,c1,c2,k H _ (aJ.refl H) (.bl _)]
def Ac(hu:X.A.units+64<cLine)(ha:FP X a fa)(hb:FP X b fb):FT X (.Compare a [.NotEq] [b] pos) (tV (e2 kc fa fb)):=jn (Q9 hu) NW ha hb (jk _)
def abz(hu:X.A.units+64<cLine)(ha:FP X a fa)(hb:FP X b fb):FT X (.Compare a [.Eq] [b] pos) (tV (e2 w6 fa fb)):=jn (aaO hu) aby ha hb (jk _)
def Wi(hu:X.A.units+64<cLine)(ha:FP X a fa)(hb:FP X b fb):FP X (.Compare a [.NotEq] [b] pos) (e2 kc fa fb):=sU (Q9 hu) NW ha hb (jk _)
def KN{d:D}(h:cX d=true):kc d d=some (.bl false):=by unfold kc;rw[h,agD,if_pos rfl,SeqAt.eqv_refl _ (lay_of h).2.1];rfl
theorem AB:∀r:List Int,PyData.canLayAll0 (r.map PyData.int)=true
 |[]=>rfl
 |i::r=>by rw[aas];simp only[PyData.canLayAll0,PyData.canLay0,AB r,agD]
theorem Ut:∀rs:List (List Int),PyData.canLayAll0 (rs.map jR)=true/\PyData.depthAll (rs.map jR)<=1
 |[]=>#[rfl,by simp[PyData.depthAll]]
 |r::rs=>by
  let#[h1,h2]:=Ut rs;rw[aas];refine#[by simp only[PyData.canLayAll0,jR,PyData.canLay0,h1,Bool.and_true];apply AB r,?_];simp only[PyData.depthAll,jR,PyData.depth,depthAll_ints r];omega
def adP(rs:List (List Int)):cX (.lst (cT rs))=true:=by
 let#[h1,h2]:=Ut rs;have e:py (.lst (cT rs))=.list (rs.map jR):=by unfold py;rw[JC]
 unfold cX;rw[e];have a1:fN (.lst (cT rs))=true:=by unfold fN;apply N3 rs
 have a2:(PyData.list (rs.map jR)).canLay0=true:=by simp only[PyData.canLay0];apply h1
 have a3:(PyData.list (rs.map jR)).depth<=40:=by simp only[PyData.depth];omega
 rw[a1,a2,aa1 a3];rfl
end L2.Ev
namespace L2.Ev
open PySem PySem.Spec PyProof.Rows
def MP:Dy "str":=by
 intro K t m;simp only[aat,acO,afH] at m;rcases m with rfl|rfl|rfl|rfl|rfl|rfl<;>rfl
def oS(t:TF)(fa fb:EF):EF:=λY=>match t Y with
 |some true=>fa Y
 |some false=>fb Y
 |none=>none
def NO(hc:FT X c tc)(ha:FP X a fa)(hb:FP X b fb):FP X (.IfExp c a b pos) (oS tc fa fb):=by
 let#[t,p,q]:=hc;let#[t1,p1,q1]:=ha;let#[t2,p2,q2]:=hb;exists 21,Yn p p1 p2;unfold oS at e;cases h:tc Y with
 |none=>rw[h] at e;ext e
 |some y=>
  rw[h] at e;refine q ok h λH1 s1=>?_
  cases y with
  |true=>rw[if_pos rfl];apply q1 (ok.same s1) e λH2 v fp s2 r2 g2=>k H2 v fp (s1.trans s2) r2 (g2.back s1)
  |false=>rw[abm aa3];apply q2 (ok.same s1) e λH2 v fp s2 r2 g2=>k H2 v fp (s1.trans s2) r2 (g2.back s1)
def Mm(h:tc Y=some true):oS tc fa fb Y=fa Y:=by unfold oS;rw[h]
def N5(h:tc Y=some false):oS tc fa fb Y=fb Y:=by unfold oS;rw[h]
def D_(_ j:Int):Bool:=decide (0<j)&&decide (j<1073741824)
def cPw(i j:Int):Bool:=decide (0<=j)&&decide (j<=1000000)&&decide (i.natAbs<2 ^ 64)
def oDiv:=vP D_ λi j=>i / j
def FO:=vP cPw λi j=>i ^ j.toNat
def Qs(ha:FP X a fa)(hb:FP X b fb):FP X (.BinOp a .FloorDiv b pos) (e2 oDiv fa fb):=uQ ahx (Cm λi j h=>by
 let#[h1,h2]:=(aaF _ _).mp h;apply#[aaY h1,aaY h2]) ha hb
def zD(ha:FP X a fa)(hb:FP X b fb):FP X (.BinOp a .Pow b pos) (e2 FO fa fb):=uQ aiz (Cm λi j h=>by
 let#[h,h3]:=(aaF _ _).mp h;let#[h1,h2]:=(aaF _ _).mp h;apply#[aaY h1,aaY h2,aaY h3]) ha hb
def NV(h:0<n)(h2:n<1073741824):oDiv (.int m) (.int n)=some (.int (m / n)):=by
 show(if D_ m n=true then some (D.int (m / n)) else none)=_;rw[if_pos (by unfold D_;rw[aa1 h,aa1 h2];rfl)]
def jl(neg:Bool):D->D->Option D
 |.int i,.lst ds=>(eU ds).map λns=>.bl (if neg=true then !(ns.any (· == i)) else ns.any (· == i))
 |_,_=>none
def ah1(i:Int)(ns:List Int):vV (.int i) (ns.map V.int)=ns.any (· == i):=by
 unfold vV;rw[aiX];rfl
def aae(ns:List Int):(ns.map V.int).all nF=true:=by
 rw[ajq];apply adR.mpr λ_ _=>rfl
def HE{K:Fr}:gx K (Dv K neg) (jl neg):=by
 intro H x y d1 d2 f1 f2 d Q r1 r2 e k;cases d1 with
 |int i=>
  cases d2 with
  |lst ds=>
   have e:((eU ds).map λns=>D.bl (if neg=true then !(ns.any (· == i)) else ns.any (· == i)))=some d:=e;exists h,eU ds,ns,e;ext e;let#[p,xs,f,rfl,hq,rs,_]:=r2.dM;ext r1;have ex:=uq rs h;subst ex;refine#[p,_,rfl,.inl hq,rfl,aae ns,?_];rw[ah1];apply k H _ (aJ.refl H) (.bl _)
  |_=>ext e
 |_=>ext e
def Iu(ha:FP X a fa)(hb:FP X b fb)(hm:behindInMarks .In b=false:=by rfl):FT X (.Compare a [.In] [b] pos) (tV (e2 (jl false) fa fb)):=jn Oj HE ha hb hm
def aeS(ha:FP X a fa)(hb:FP X b fb)(hm:behindInMarks .NotIn b=false:=by rfl):FT X (.Compare a [.NotIn] [b] pos) (tV (e2 (jl true) fa fb)):=jn Hs HE ha hb hm
def QG(ha:FP X a fa)(hb:FP X b fb)(hm:behindInMarks .NotIn b=false:=by rfl):FP X (.Compare a [.NotIn] [b] pos) (e2 (jl true) fa fb):=sU Hs HE ha hb hm
def Ae{ns:List Int}:jl neg (.int i) (.lst (ns.map D.int))=some (.bl (if neg=true then !(ns.any (· == i)) else ns.any (· == i))):=by
 show((eU (ns.map D.int)).map _)=_;rw[uH];rfl
def lH(i:Nat)(fv:EF):SF:=λY=>match fv Y,Y[i]? with
 |some (d,_),some (some (.lst ds,.own))=>if(aB d&&aK ds&&decide (ds.length<sizeLine))=true then some (.nx (cJ Y i (.lst (ds++[d])))) else none
 |_,_=>none
def Fv(i:Nat)(hv:FP X a fv)(va:VA X i x:=by walk_at "va")(hs:starEach [a] X.env=[(false,eval a X.env)]:=by rfl)
  (mG:attributeBase (.Name x p1) "append" X.env (eval (.Name x p1) X.env)=eval (.Name x p1) X.env:=by rfl)
  (lK:((backTo p3 (starEach [a] X.env)).all (λx=>!x.1)&&(backToKw p3 (keywordEach [] X.env)).all (λx=>x.1.isSome)&&decide ([a].length+([]:List Keyword).length+(if([]:List Keyword).isEmpty then 0 else 1)<30))=true:=by rfl)
  (mD:(p2.endLine==p3.line)=true:=by rfl) (kh:swapsWith (.Call (.Attribute (.Name x p1) "append" p2) [a] [] p3) none pos.line X.env=pure false:=by rfl) :
  fj X (.Expr (.Call (.Attribute (.Name x p1) "append" p2) [a] [] p3) pos) (lH i fv):=by
 let#[tv,pB,sv]:=hv;exists 25,Dm (zM PySem.F.plainAttrs_list PySem.F.slot_list_append PySem.F.type_list_append JH va.pe (eO pB f7 hs) mG lK mD hs rfl) kh;unfold lH at e
 split at e
 .rename_i d td ds g1 g2;let#[hc,e]:=ci e;ext e;let#[c1,c3]:=(aaF _ _).mp hc;let#[c1,c2]:=(aaF _ _).mp c1;let#[xv,fp,dG,r,zz]:=ok.sl i _ _ g2;refine#[xv,dG,?_];let#[l,xs,f,rfl,hq,_,_]:=r.dM;refine#[.inl #[rfl,_,hq],?_];refine sv ok g1 λH1 v fv' s1 rv _=>?_
  have r':=r.same s1;have cM:=ok.same s1;generalize hw:(V.ref l)=w at r' dG;cases r' with
  | @lst a' ys _ f' h rs=>
   ext hw;have hn:=rs.aB c2;subst hn;have Ec:=rv.aB c1;subst Ec;refine#[_,ys,v,rfl,rfl,h,by rw[<- rs.length];apply aaY c3,?_];have im:bu H1 (upd H1 l (.lst (ys++[v]))):=bu.upd h rfl;refine q z U _ (Ok.Gg cM g2 dG zz aap h rfl (.lst bI ?_)) (.refl _ _);apply aC.append (rs.frame (λa m=>nomatch m) im) (aC.cons (rv.frame (λa m=>nomatch m) im) .nil)
 .cases e
def Js(h1:fv Y=some (.int n,t1))(h2:Y[i]? = some (some (.lst (ns.map D.int),.own)))(hl:ns.length<sizeLine):
  lH i fv Y=some (.nx (cJ Y i (.lst ((ns++[n]).map D.int)))):=by
 unfold lH;rw[h1,h2];dsimp only;have YM:∀ns:List Int,aK (ns.map D.int)=true:=λns=>by
  induction ns with
  |nil=>rfl
  |cons n r ih=>rw[aas];unfold aK;rw[ih];rfl
 rw[if_pos (by rw[YM,List.length_map,aa1 hl];rfl),adK];rfl
def cutD(ds:List D)(lo hi:Option Int):List D:=(ds.drop (HT.bB ds.length 0 lo)).take (HT.bB ds.length ds.length hi-HT.bB ds.length 0 lo)
def sL(lo hi:Option Int):D->Option D
 |.lst ds=>if aK ds=true then some (.lst (cutD ds lo hi)) else none
 |.bX ds=>if aK ds=true then some (.lst (cutD ds lo hi)) else none
 |_=>none
def aC.wj{K:Fr}:∀{ds} {xs} (n),aC K H ds xs []->aC K H (ds.drop n) (xs.drop n) []
 |ds,xs,0,r=>r
 |[],_,n+1,r=>by ext r;apply .nil
 |d::ds,xs,n+1,r=>by
  generalize hf:([]:List Addr)=fp at r;cases r with
  | @cons _ _ _ _ f1 f2 r1 r2=>
   let#[z1,z2]:=agI.mp hf.symm;subst z1 z2;apply aC.wj n r2
def aC.vS{K:Fr}:∀{ds} {xs} (n),aC K H ds xs []->aC K H (ds.take n) (xs.take n) []
 |ds,xs,0,r=>.nil
 |[],_,n+1,r=>by ext r;apply .nil
 |d::ds,xs,n+1,r=>by
  generalize hf:([]:List Addr)=fp at r;cases r with
  | @cons _ _ _ _ f1 f2 r1 r2=>
   let#[z1,z2]:=agI.mp hf.symm;subst z1 z2;apply aC.cons r1 (aC.vS n r2)
def vo(X:Cx)(e:Option Expr)(v:Option Int):Prop:=∃t,PO X e t/\∀U H Q,Q v H->t U H Q
def Eh:vo X none none:=#[_,IZ,λ_ _ _ q=>q]
def Kz{j p}:vo X (some (.Constant (.int i) j p)) (some i):=#[_,IX Fj,λ_ _ _ q=>#[i,rfl,q]]
def aaQ{lo hi:Option Expr}(hl:vo X lo l)(hh:vo X hi h)(ha:FP X a fa):FP X (.Subscript a (.Slice lo hi none p2) pos) (e1 (sL l h) fa):=by
 let#[t,p,q]:=ha;let#[tl,pl,ql]:=hl;let#[th,ph,qh]:=hh;exists 21,Bo DJ p pl ph;let#[d1,t1,g1,g2,rfl]:=oB e;refine q ok g1 λH1 x f1 s1 r1 _=>?_
 refine ql U H1 _ (qh U H1 _ ?_);have fin:∀{ds} {xs} {f} {w},aC X.K H1 ds xs f->ck X.K H1 w xs->(if aK ds=true then some (D.lst (cutD ds l h)) else none)=some d->JZ X.K (.ref w) l h H1 Q:=λ{ds xs f w} rs hq e=>by
  let#[hi,e]:=ci e;ext e;have hn:=rs.aB hi;subst hn;refine#[w,xs,rfl,hq,λp hp=>?_];have s2:aJ H1 (upd H1 p (.lst (gk xs l h))):=λb o e=>by rw[aM (cO e hp)];apply e
  have rr:aC X.K H1 (cutD ds l h) (gk xs l h) []:=by
   unfold cutD gk;rw[rs.length];apply aC.vS _ (aC.wj _ rs)
  refine k _ _ [p] (s1.trans s2) (.lst bI (rr.same s2)) #[ab3.mpr #[(λm=>by ext m),acv],λa m=>?_];cases aaK.mp m;apply s1.free hp
 cases d1 with
 |lst ds=>
  let#[w,xs,f,rfl,hq,rs,_]:=r1.dM;apply fin rs hq g2
 |bX ds=>
  let#[w,xs,rfl,hq,rs]:=r1.nU;apply fin rs hq g2
 |_=>ext g2
end L2.Ev
namespace L2
open PySem PySem.Spec PyProof.Rows
def Inv.Sz{ch:List Addr}{o:HO}(I:Inv X af U H s)(hf:∀b∈ch,iw X af H b)(k:∀b o,b∉ch->s.heap.get? b=some o->h'.get? b=some o)
  (hT:s.heap.objs.size<=T) (new:dz X.prog X.w (upd H T o) h' T o):Inv X af U (upd H T o) { s with heap:=h',toks:=t' }:=by
 have nT:=I.aH.fresh hT;have mw:∀b u,H b=some u->b∉ch:=λb u e m=>by rw[(hf b m).1] at e;ext e
 refine I.step (λb m=>#[(hf b m).2.2.2.1,(hf b m).2.1,(hf b m).2.2.2.2.1,(hf b m).2.2.2.2.2]) (λb o _ _ m e _=>k b o m e) (λb o _ _ m e _=>#[o.slots,k b o m e])
  (λb o _ e n=>by rw[aM (acy (acV (aa5 e) hT))];apply n) (λb o m e=>#[o,k b o m e]) (λb xs e=>by rw[aM (cO e nT)];apply e) (λb o u e=>by rw[aM (cO e nT)];apply e)
  (λb ps e=>#[([].toArray),by rw[aM (cO e nT),e];simp]) (λm hm=>?_) (λb u e=>?_) I.bare
 .let#[o,es,ep,ho,r]:=hm;apply#[o,es,ep,k _ o (λm=>(hf _ m).2.1 rfl) ho,r]
 .by_cases hb:b=T
  .subst hb;rw[bI] at e;ext e;apply new
  .rw[aM hb] at e;refine(I.aH b u e).fS (λc v hc q=>k c v ?_ q) (λc q=>by rw[aM (cO q nT)];apply q) λc xs q=>by rw[aM (cO q nT)];apply q
   rcases hc with z|z
   .rw[z];apply mw b u e
   .exact mw c _ z
def Inv.GC{ch:List Addr}(I:Inv X af U H s)(hf:∀b∈ch,iw X af H b)(k:∀b o,b∉ch->s.heap.get? b=some o->h'.get? b=some o):Inv X af U H { s with heap:=h',toks:=t' }:=by
 have mw:∀b u,H b=some u->b∉ch:=λb u e m=>by rw[(hf b m).1] at e;ext e
 refine I.step (λb m=>#[(hf b m).2.2.2.1,(hf b m).2.1,(hf b m).2.2.2.2.1,(hf b m).2.2.2.2.2]) (λb o _ _ m e _=>k b o m e) (λb o _ _ m e _=>#[o.slots,k b o m e])
  (λb o _ e n=>n) (λb o m e=>#[o,k b o m e]) (λb xs e=>e) (λb o u e=>e) (λb ps e=>#[([].toArray),by rw[e];simp]) (λm hm=>?_) (λb u e=>?_) I.bare
 .let#[o,es,ep,ho,r]:=hm;apply#[o,es,ep,k _ o (λm=>(hf _ m).2.1 rfl) ho,r]
 .refine(I.aH b u e).fS (λc v hc q=>k c v ?_ q) (λc q=>q) λc xs q=>q
  rcases hc with z|z
  .rw[z];apply mw b u e
  .exact mw c _ z
def y_(K:Fr)(l1 l2:Addr):It:=
  #[λi H=>∃xs ys x y,ck K H l1 xs/\ck K H l2 ys/\xs[i]? = some x/\ys[i]? = some y,
   λi H v H'=>∃T a b,H T=none/\v=.ref T/\H'=upd H T (.tup [a,b])/\(∀xs,ck K H l1 xs->xs[i]? = some a)/\∀ys,ck K H l2 ys->ys[i]? = some b,
   λi H=>∃xs ys,ck K H l1 xs/\ck K H l2 ys/\(xs.length<=i\/ys.length<=i),false]
def adX(z TI TO i1 i2 l1 l2:Addr)(i:Nat)(h:Heap):Prop:=IsZip h z TI TO .none/\IsPair h TI (.ref i1) (.ref i2)/\(∃a b,IsPair h TO a b)/\h.IsListIter i1 l1 i/\h.IsListIter i2 l2 i
def Uy{K:Fr}{x1}{z TI TO i1 i2 l1 l2:Addr}(D:ZipApart z TI TO i1 i2 l1 l2):
  Turn P w K (.Tuple elts x1 pos) (y_ K l1 l2) [z,TI,TO,i1,i2] z (adX z TI TO i1 i2 l1 l2) where
 mem:=by simp
 obj:=λi h st b hb=>by
  let#[s1,s2,#[a,b',s3],#[o4,e4,c4,d4],#[o5,e5,c5,d5]]:=st;simp only[aat,acO,afH] at hb;rcases hb with rfl|rfl|rfl|rfl|rfl
  .exact#[_,s1,λv q=>by ext q]
  .exact#[_,s2,λv q=>by ext q]
  .exact#[_,s3,λv q=>by ext q]
  .exact#[o4,e4,λv q=>by rw[d4] at q;ext q]
  .exact#[o5,e5,λv q=>by rw[d5] at q;ext q]
 keep:=λi h h' st k=>by
  let#[s1,s2,#[a,b',s3],s4,s5]:=st;apply#[k _ (by simp) _ s1,k _ (by simp) _ s2,#[a,b',k _ (by simp) _ s3],s4.at λo e=>k _ (by simp) o e,s5.at λo e=>k _ (by simp) o e]
 item:=by
  intro X hP hw hK hc i af s U H E I hf st hg;subst hP hw hK;let#[s1,s2,#[a,b',s3],s4,s5]:=st;let#[xs,ys,x,y,q1,q2,e1,e2]:=hg;let#[us,v1,p1,z1]:=I.list q1;let#[ws,v2,p2,z2]:=I.list q2;let#[u,hu,ru]:=v1.get e1;let#[t,ht,rt]:=v2.get e2;refine wpAny_pyNext_zip_item D s1 s2 s3 s4 s5 p1.isList p2.isList (by simpa using hu) (by simpa using ht) λh' a1 a2 a3 a4 a5 a6 a7=>#[_,rfl,?_]
  refine wpAny_letOwnedTupleGo_zip a1 λmY b1 b2=>?_
  have lz:=aa5 s1;have nz:=agF lz;have T2:=b2.extBut _ _ nz a5;have nT:=I.aH.fresh (aa9 _);have I1:Inv X af U (upd H s.heap.objs.size (.tup [x,y])) { s with heap:=mY }:=I.Sz (ch:=[z,TO,i1,i2]) (λb m=>hf b (by
    simp only[aat,acO,afH] at m ⊢;rcases m with rfl|rfl|rfl|rfl<;>simp)) (λb o m e=>by
    simp only[aat,acO,afH,not_or] at m;apply b2.extBut _ _ m.1 (a7 b o m.1 m.2.1 m.2.2.1 m.2.2.2 e)) (aa9 _) (show dz X.prog X.w _ mY _ (.tup [x,y]) from#[show 2<=sizeLine by unfold sizeLine;lia,[u,t],.cons ru (.cons rt .nil),#[_,T2,rfl,rfl,_,rfl]])
  refine#[.ref s.heap.objs.size,_,I1,rfl,#[_,x,y,nT,rfl,rfl,λOQ h=>by rw[I.Li h q1];apply e1,λys' h=>by rw[I.Li h q2];apply e2],?_,λb m=>?_]
  .have up:∀c o,c≠z->h'.get? c=some o->mY.get? c=some o:=λc o n e=>b2.extBut _ _ n e
   apply#[b1,up _ _ D.TIz (a7 TI _ D.TIz D.TITO D.TIi1 D.TIi2 s2),#[u,t,up _ _ D.TOz a2],a3.at λo e=>up _ o D.i1z e,a4.at λo e=>up _ o D.i2z e]
  .rw[aM]
   .exact(hf b m).1
   .rintro rfl
    let#[o4,e4,_]:=id s4;let#[o5,e5,_]:=id s5;simp only[aat,acO,afH] at m;rcases m with m|m|m|m|m
    .exact nz m
    .exact absurd (aa5 s2) (by rw[<- m];apply aeM _)
    .exact absurd (aa5 s3) (by rw[<- m];apply aeM _)
    .exact absurd (aa5 e4) (by rw[<- m];apply aeM _)
    .exact absurd (aa5 e5) (by rw[<- m];apply aeM _)
 done:=by
  intro X hP hw hK hc i af s U H E I hf st hg;subst hP hw hK;let#[s1,s2,#[a,b',s3],s4,s5]:=st;let#[xs,ys,q1,q2,e]:=hg;let#[us,v1,p1,z1]:=I.list q1;let#[ws,v2,p2,z2]:=I.list q2;have l1:=v1.length;have l2:=v2.length;refine wpAny_pyNext_zip_end (I.ok.hd (hc.resolve_right λz=>aa3 z)) D s1 s2 s3 s4 s5 p1.isList p2.isList (e.imp (λe=>by simp;lia) λe=>by simp;lia) λh' k=>#[rfl,I.GC (ch:=[z,TO,i1,i2]) (λb m=>hf b (by
    simp only[aat,acO,afH] at m ⊢;rcases m with rfl|rfl|rfl|rfl<;>simp)) λb o m e=>?_]
  simp only[aat,acO,afH,not_or] at m;apply k b o m.1 m.2.1 m.2.2.1 m.2.2.2 e
 self:=λ_ _ _ _ _ st h=>ajn st.1 h
def agh(K:Fr)(ta:TA):TI:=λU H R=>ta U H λvs H1=>∃l1 l2 xs ys,vs=[.ref l1,.ref l2]/\ck K H1 l1 xs/\ck K H1 l2 ys/\R (y_ K l1 l2) H1
def P8{x1}(hg:Gl X "zip")(hm:X.mg "zip"=none)(ha:PA X [a,b] ta)(hs:starEach [a,b] X.env=[(false,eval a X.env),(false,eval b X.env)]:=by rfl)(bS:starEach [b] X.env=[(false,eval b X.env)]:=by rfl):
  PI X (.Tuple elts x1 tp) (.Call (.Name "zip" p) [a,b] [] pos) (agh X.K ta):=by
 intro af s U H R I h;refine afo (nZ I hg hm boot_zip (afr (ha.n I h λus s1 vs H1 I1 r1 q1=>?_) (by rw[hs,bS]) (by rw[bS];rfl)));let#[l1,l2,xs,ys,rfl,h1,h2,q]:=q1;let#[u,v,rfl,ru,rv]:=vals2 r1;ext ru;ext rv;let#[us,v1,p1,z1]:=I1.list h1;let#[ws,v2,p2,z2]:=I1.list h2;have b1:l1<s1.heap.objs.size:=let#[o,n,e,_]:=p1;aa5 e
 have b2:=let#[o,n,e,_]:=p2;aa5 e
 refine call_zip_2 p1.isList p2.isList λh' g1 g2 g3 g4 g5 g6 k=>?_
 refine ajn g1 ?_;refine#[_,_,_,_,H1,rfl,I1.kept k,Uy (zipApart_new b1 b2),#[g1,g2,#[_,_,g3],g4,g5],λc hc=>?_,q];have up:∀j,iw X af H1 (s1.heap.objs.size+j):=λj=>I1.pN (Nat.le_add_right _ _) (I1.aH.fresh (Nat.le_add_right _ _))
 simp only[aat,acO,afH] at hc;rcases hc with rfl|rfl|rfl|rfl|rfl
 .exact up 4
 .exact up 2
 .exact up 3
 .exact up 0
 .exact up 1
end L2
namespace L2.Ev
open PySem PySem.Spec PyProof.Rows
def v7(fa fb:EF):IF:=λY=>match fa Y,fb Y with
 |some (.lst ds,t1),some (.lst es,t2)=>if(aK ds&&aK es)=true then some ((ds.zip es).map λp=>.tup [p.1,p.2],iU [(.lst ds,t1),(.lst es,t2)]) else none
 |_,_=>none
def aC.uz{K:Fr}{i:Nat}(r:aC K H ds vs [])(e:ds[i]? = some d):∃v,vs[i]? = some v/\Rep K H d v []:=by
 let#[v,f,e1,r1,s]:=r.get e;have:f=[]:=List.eq_nil_iff_forall_not_mem.mpr λa m=>by have:=s a m;ext this
 subst this;apply#[v,e1,r1]
def TR{K:Fr}{f1 f2:List Addr}(c1:aK ds=true)(c2:aK es=true):
  n6 K (y_ K l1 l2) ((ds.zip es).map λp=>.tup [p.1,p.2]) [#[.lst ds,.ref l1,f1],#[.lst es,.ref l2,f2]]:=by
 intro H i hh;let#[p1,xs,g1,e1,q1,r1,_]:=(hh _ aap).dM;let#[p2,ys,g2,e2,q2,r2,_]:=(hh _ (aao _ aap)).dM;ext e1;ext e2;have n1:=r1.aB c1;have n2:=r2.aB c2;subst n1 n2;refine#[λd hd=>?_,λhl=>?_]
 .rw[acB] at hd;cases hz:(ds.zip es)[i]? with
  |none=>rw[hz] at hd;ext hd
  |some pr=>
   rw[hz] at hd;ext hd;let#[k1,k2]:=aiP.mp hz;let#[x,hx,rx]:=r1.uz k1;let#[y,hy,ry]:=r2.uz k2;refine#[#[xs,ys,x,y,q1,q2,hx,hy],λv H1 hv=>?_];let#[T,a,b,hT,rfl,rfl,ha,hb]:=hv;have ea:=ha xs q1;have eb:=hb ys q2;rw[hx] at ea;rw[hy] at eb;ext ea;ext eb;have s2:aJ H (upd H T (.tup [x,y])):=λb o e=>by rw[aM (cO e hT)];apply e
   apply#[s2,[],.tup (bK.of bI) (aC.cons (rx.same s2) (aC.cons (ry.same s2) .nil)),λa m=>nomatch m]
 .rw[List.length_map,ajw,r1.length,r2.length] at hl;apply#[xs,ys,q1,q2,by lia]
def ah4{x1}(hm:X.mg "zip"=none)(ha:FP X a fa)(hb:FP X b fb)(hg:Gl X "zip":=by rfl)(hs:starEach [a,b] X.env=[(false,eval a X.env),(false,eval b X.env)]:=by rfl)(bS:starEach [b] X.env=[(false,eval b X.env)]:=by rfl):
  FI X (.Tuple elts x1 tp) (.Call (.Name "zip" p) [a,b] [] pos) (v7 fa fb):=by
 let#[t,pa,hlen,q]:=ai ha (ai hb ay bS) (by rw[hs,bS]);exists 24,P8 hg hm pa hs bS;unfold v7 at e
 split at e
 .rename_i d1 t1 d2 t2 h1 h2;let#[hc,e]:=ci e;ext e;let#[c1,c2]:=(aaF _ _).mp hc;refine q ok (by unfold au aD;rw[h1,h2]) λH1 vs fp s1 r g=>?_
  cases r with
  | @cons _ v1 _ _ f1 _ r1 r=>
   cases r with
   | @cons _ v2 _ _ f2 _ r2 r=>
    ext r;let#[l1,xs,g1,rfl,q1,_,_]:=r1.dM;let#[l2,ys,g2,rfl,q2,_,_]:=r2.dM;refine#[l1,l2,xs,ys,rfl,q1,q2,k H1 _ [#[.lst d1,.ref l1,f1],#[.lst d2,.ref l2,f2]] s1 (λh m=>?_) (TR c1 c2)];have go:=g.over ok;rcases aat.mp m with rfl|m
    .exact#[r1,λa ma=>go a (aaZ _ ma)]
    .cases aaK.mp m;apply#[r2,λa ma=>go a (aaM _ (aaZ _ ma))]
 .cases e
end L2.Ev
namespace L2
open PySem PySem.Spec PyProof.Rows
theorem Tu:∀{bs:List Bool} {us},aT (bs.map V.bl) us->us=bs.map Value.bool
 |[],_,r=>by rw[ajE] at r;ext r;rfl
 |b::bs,_,r=>by
  rw[aas] at r;cases r with
  |cons r1 r2=>ext r1;rw[Tu r2];rfl
def range_all(bs:List Bool):(List.range bs.length).all (λj=>bs.getD j true)=bs.all id:=by
 induction bs with
 |nil=>rfl
 |cons b r ih=>
  rw[acK,List.range_succ_eq_map,ajt,ajq,ajt,<- ih];rfl
def Yx(hc:X.calm=true):gO X (.builtin "all") (λxs H Q=>∃(p:Addr) (bs:List Bool),xs=[V.ref p]/\ck X.K H p (bs.map V.bl)/\Q (.bl (bs.all id)) H):=by
 intro af s U H xs us Q I r h;let#[p,bs,rfl,hq,q]:=h;let#[u,rfl,ru]:=vals1 r;ext ru;let#[aA,v1,pl,hz]:=I.list hq;have ei:=Tu v1;subst ei;have lp:=let#[o,n,e,_]:=pl;aa5 e
 have hh:X.A.in1.handled=none:=I.ok.hd hc;refine call_all_walk (wpAny_pyIter_list pl.isList ?_);refine#[s.heap.objs.size,_,_,_,_,_,λj=>bs.getD j true,rfl,Walks.list hh s.heap.objs.size p (acy lp) (bs.map Value.bool).toArray,#[#[_,abx _ rfl,rfl,rfl],pl.isList.at λo e=>aak _ e],?_,λh' tk hk=>?_]
 .intro i v s' Q' E' hv hQ;rw[List.getElem?_toArray,acB] at hv;exists e,bs[i]?,b,hv;ext hv;dsimp only at hQ;rw[adv,e] at hQ;apply afC hQ
 .have f:=I.pN (aa9 s.heap.objs.size) (I.aH.fresh (aa9 _));have I1:Inv X af U H { s with heap:=s.heap.push { cls:=.type "list_iterator",data:=.fields ([.ref p,.int 0 0].toArray) } }:=I.kept λb o e=>aak _ e
  rw[ab0,List.length_map,range_all];apply#[.bl _,H,I1.GC (λb m=>by rw[aaK.mp m];apply f) λb o m e=>hk b o m e,rfl,q]
end L2
namespace L2.Ev
open PySem PySem.Spec PyProof.Rows
def ng:List D->Option (List Bool)
 |[]=>some []
 |.bl b::r=>(ng r).map (b::·)
 |_=>none
theorem SY{K:Fr}:∀{ds} {xs} {fp} {bs},aC K H ds xs fp->ng ds=some bs->xs=bs.map V.bl
 |[],_,_,bs,r,e=>by ext r;ext e;rfl
 |d::ds,_,_,bs,r,e=>by
  cases r with
  |cons h t=>
   ext d<;>try (ext e;done)
   ext h;unfold ng at e;exists q,ng ds,r,e;ext e;rw[SY t q];rfl
def zE:D->Option D
 |.lst ds=>(ng ds).map λbs=>.bl (bs.all id)
 |_=>none
def aci{K:Fr}:qY K (λxs H Q=>∃(p:Addr) (bs:List Bool),xs=[V.ref p]/\ck K H p (bs.map V.bl)/\Q (.bl (bs.all id)) H) zE:=by
 intro H x d1 f1 d Q r e k;cases d1 with
 |lst ds=>
  let#[p,xs,f,rfl,hq,rs,_]:=r.dM;have e:(ng ds).map (λbs=>D.bl (bs.all id))=some d:=e;exists h,ng ds,bs,e;ext e;have ex:=SY rs h;subst ex;apply#[p,bs,rfl,hq,k H _ [] (aJ.refl H) (.bl _) acv λa m=>nomatch m]
 |_=>ext e
def IY(hc:X.calm=true)(hm:X.mg "all"=none)(ha:FP X a fa)(hg:Gl X "all":=by rfl)(hs:starEach [a] X.env=[(false,eval a X.env)]:=by rfl):FP X (.Call (.Name "all" p) [a] [] pos) (e1 zE fa):=
 fp_1 aci ha λta pa=>sA (Yx hc) hg hm boot_all (eO pa f7 hs) (he:=hs)
abbrev XF:=aR->Option (D×aR)
def ab8(ha:FP X a fa)(hb:FP X b fb):FP X (.Compare a [.Lt] [b] pos) (e2 oLt fa fb):=sU Ol s_ ha hb (jk _)
def YG(ha:FP X a fa)(hb:FP X b fb):FP X (.Compare a [.LtE] [b] pos) (e2 oLe fa fb):=sU Ib s_ ha hb (jk _)
def EU(ha:FP X a fa)(hb:FP X b fb):FP X (.Compare a [.Is] [b] pos) (e2 jf fa fb):=sU R9 LR ha hb (jk _)
end L2.Ev
namespace L2.Ev
open PySem
theorem c_:∀ns:List Int,aK (ns.map D.int)=true
 |[]=>rfl
 |n::r=>by rw[aas];unfold aK;rw[c_ r];rfl
def CQ{as bs:List Int}(h:as.length+bs.length<=PySem.sizeLine):gW (.lst (as.map D.int)) (.lst (bs.map D.int))=some (.lst ((as++bs).map D.int)):=by
 show(if(aK (as.map D.int)&&aK (bs.map D.int)&&decide ((as.map D.int).length+(bs.map D.int).length<=PySem.sizeLine))=true then some (D.lst (as.map D.int++bs.map D.int)) else none)=_;rw[c_,c_,List.length_map,List.length_map,aa1 h,adK];rfl
def aee(h:ns.length<64):mV (.lst (ns.map D.int))=some (.lst ((dY ns).map D.int)):=by
 show(match eU (ns.map D.int) with|some ns=>if ns.length<64 then some (D.lst ((dY ns).map D.int)) else none|none=>none)=_;rw[uH];dsimp only;rw[if_pos h]
def vj{ns:List Int}:lY (.lst (ns.map D.int))=some (.lst (ns.map D.int)):=by show(if aK (ns.map D.int)=true then some (D.lst (ns.map D.int)) else none)=_;rw[if_pos (c_ ns)]
def Pg{ns:List Int}:lY (.tup (ns.map D.int))=some (.lst (ns.map D.int)):=by show(if aK (ns.map D.int)=true then some (D.lst (ns.map D.int)) else none)=_;rw[if_pos (c_ ns)]
def Jf{ns:List Int}:yD (.lst (ns.map D.int))=some (.tup (ns.map D.int)):=by show(if aK (ns.map D.int)=true then some (D.tup (ns.map D.int)) else none)=_;rw[if_pos (c_ ns)]
open PySem PySem.Spec PyProof.Rows
def aC.look{K:Fr}:∀{es:List (Str×D)}{fs:List (Str×V)} {fp} {f} {d},es.map (·.1)=fs.map (·.1)->aC K H (es.map (·.2)) (fs.map (·.2)) fp->es.lookup f=some d->∃v g,fs.lookup f=some v/\Rep K H d v g/\∀a∈g,a∈fp
 |[],[],_,_,_,_,_,e=>by ext e
 |[],_::_,_,_,_,k,_,_=>by simp at k
 |_::_,[],_,_,_,k,_,_=>by simp at k
 |(x,d0)::es,(y,v0)::fs,fp,f,d,k,r,e=>by
  simp only[aas,agA] at k;let#[rfl,k]:=k;cases r with
  |cons r1 r2=>
   by_cases hx:(f==x)=true
   .simp only[List.lookup,hx] at e ⊢;ext e;apply#[v0,_,rfl,r1,λa m=>aaZ _ m]
   .have hx:(f==x)=false:=by simpa using hx
    simp only[List.lookup,hx] at e ⊢;let#[v,g,h1,h2,h3]:=aC.look k r2 e;apply#[v,g,h1,h2,λa m=>aaM _ (h3 a m)]
theorem tL:∀{es:List (Str×D)}{fs:List (Str×V)} {f},es.map (·.1)=fs.map (·.1)->es.lookup f=none->fs.lookup f=none
 |[],[],_,_,_=>rfl
 |[],_::_,_,k,_=>by simp at k
 |_::_,[],_,k,_=>by simp at k
 |(x,d0)::es,(y,v0)::fs,f,k,e=>by
  simp only[aas,agA] at k;let#[rfl,k]:=k
  by_cases hx:(f==x)=true
  .simp only[List.lookup,hx] at e;ext e
  .have hx:(f==x)=false:=by simpa using hx
   simp only[List.lookup,hx] at e ⊢;apply tL k e
structure ClsAt(K:Fr)(cn:Str)(C:Addr):Prop where
 ns:PySem.W.nsIn K mainGlobals cn=some (some (.ref C))
 cl:jO K C
def Rep.kQ{K:Fr}(r:Rep K H (.ins cn es) v fp)(hn:PySem.W.nsIn K mainGlobals cn=some (some (.ref C))):
  ∃a dx fs g,v=.ref a/\fp=a::dx::g/\H a=some (.ins C dx fs)/\H dx=some (.own a)/\es.map (·.1)=fs.map (·.1)/\aC K H (es.map (·.2)) (fs.map (·.2)) g:=by
 cases r with
 | @ins _ a C' dx fs _ g h0 h1 h2 h3 h4=>
  rw[hn] at h0;ext h0;apply#[a,dx,fs,g,rfl,rfl,h1,h2,h3,h4]
def bA(cn f:Str)(fa:EF):EF:=λY=>match fa Y with
 |some (.ins c es,t)=>if c=cn then(es.lookup f).map λd=>(d,k7 t) else none
 |_=>none
def dh.sub(hz:∀a j,z a=some j->∃o,H a=some o)(h:dh z H t f)(s:∀a∈g,a∈f):dh z H (k7 t) g:=by
 cases t with
 |sh o=>apply λa m j q=>h a (s a m) j q
 |own=>apply λa m j q=>by let#[o,w]:=hz a j q;rw[h.2 a (s a m)] at w;ext w
 |lk=>apply λa m j q=>by let#[o,w]:=hz a j q;rw[h.2 a (s a m)] at w;ext w
def bx{cn f:Str}{C:Addr}(hC:ClsAt X.K cn C)(na:iR X.K C f)(ha:FP X a fa)(hb:attributeBase a f X.env (eval a X.env)=eval a X.env:=by rfl):FP X (.Attribute a f pos) (bA cn f fa):=by
 let#[t,p,q]:=ha;exists 21,qR p hb;unfold bA at e;exists h,fa Y,w,e,0;let#[d0,t0]:=w;rw[h] at e;ext d0<;>try (ext e;done)
 rename_i c es;dsimp only at e
 by_cases hc:c=cn
 .subst hc;rw[if_pos rfl] at e;exists hl,es.lookup f,d1,e;ext e;refine q ok h λH1 v fp s1 r1 g1=>?_
  let#[b,dx,fs,g,rfl,rfl,h1,h2,h3,h4]:=r1.kQ hC.ns;let#[u,gf,h5,h6,h7]:=aC.look h3 h4 hl;apply#[b,C,dx,fs,u,rfl,h1,hC.cl,na,h5,k H1 u gf s1 h6 (dh.sub (λa j e=>(ok.zd a j e).1) g1 λa m=>aao _ (aao _ (h7 a m)))]
 .rw[abm hc] at e;ext e
def cR(cn m:Str)(F:List D->Option D)(fo:EF)(g:AF):EF:=λY=>match fo Y with
 |some (.ins c es,_)=>if c=cn/\es.lookup m=none then(g Y).bind λps=>(F (.ins c es::ps.map (·.1))).map λd=>(d,.own) else none
 |_=>none
section
variable{X:Cx}
def Uj(hC:ClsAt X.K cn C)(q:∀{H0} {S} {z} {aq} {Y} {U} {H} {Q} {d} {tg},Ok X.K H0 S z aq Y U H->fo Y=some (d,tg)->(∀H' v fp,aJ H H'->Rep X.K H' d v fp->dh z H tg fp->Q v H')->t U H Q)
  (qa:∀{H0} {S} {z} {aq} {Y} {U} {H} {Q} {ps},Ok X.K H0 S z aq Y U H->g Y=some ps->(∀H' vs fp,aJ H H'->aC X.K H' (ps.map (·.1)) vs fp->dh z H (iU ps) fp->Q vs H')->ta U H Q)
  (ok:Ok X.K H0 S z aq Y U H) (e0:cR cn m F fo g Y=some (d,tg)) (kk:∀H' v fp,aJ H H'->Rep X.K H' d v fp->dh z H tg fp->Q v H') :
  Cd C m (a_ X.K F) [] E0 t ta U H Q:=by
 unfold cR at e0;cases h:fo Y with
 |none=>rw[h] at e0;ext e0
 |some w=>
  let#[d0,t0]:=w;rw[h] at e0;ext d0<;>try (ext e0;done)
  rename_i c su;dsimp only at e0
  by_cases hc:c=cn/\su.lookup m=none
  .rw[if_pos hc] at e0;let#[rfl,hm]:=hc;cases h2:g Y with
   |none=>rw[h2] at e0;ext e0
   |some qs=>
    rw[h2,ac1] at e0;cases h3:F (.ins c su::qs.map (·.1)) with
    |none=>rw[h3] at e0;ext e0
    |some d1=>
     rw[h3] at e0;ext e0;refine q ok h λH1 v fp s1 r1 g1=>?_
     let#[b,dx,fs,gf,rfl,rfl,h4,h5,h6,h7]:=r1.kQ hC.ns;refine#[b,dx,fs,rfl,h4,tL h6 hm,?_];refine qa (ok.same s1) h2 λH2 vs i8 s2 r2 _=>?_
     rw[acU];apply#[_,_,d,.cons (r1.same s2) r2,h3,λH3 u gC s3 r3 nd fr=>kk H3 u gC ((s1.trans s2).trans s3) r3 #[nd,λa m=>s1.free (s2.free (fr a m))]]
  .rw[abm hc] at e0;ext e0
def fC(hC:ClsAt X.K cn C)(hm:kD X.K C m f)(G:bQ X.prog X.w X.K X.mg X.base dQ k f fd ps (a_ X.K F))(hr:bz k X.A)(hb:Binds X.K fd ps [])(ho:FP X o fo)(ha:FA X (e::es) g)
  (dJ:SE X e es pos:=by apply#[rfl,rfl])
  (ht:wo X o m apos (e::es) pos pl:=by apply rfl):FP X (.Call (.Attribute o m apos) (e::es) [] pos) (cR cn m F fo g):=by
 let#[t,p,q]:=ho;let#[ta,pa,_,qa]:=ha;apply#[_,A_ p hC.cl hm G hr hb .nil m_ pa dJ.1 dJ.2 ht,@λH0 S z aq Y U H Q d tg ok e0 kk=>Uj hC q qa ok e0 kk]
def eT(hC:ClsAt X.K cn C)(hm:kD X.K C m f)(G:bQ X.prog X.w X.K X.mg X.base dQ k f fd ps (a_ X.K F))(hr:bz k X.A)(hb:Binds X.K fd ps [])(ho:FP X o fo)
  (ht:wo X o m apos [] pos pl:=by apply rfl):FP X (.Call (.Attribute o m apos) [] [] pos) (cR cn m F fo aD):=by
 let#[t,p,q]:=ho;let#[ta,pa,_,qa]:=ay (X:=X);refine#[_,Ui p hC.cl hm G hr hb .nil m_ ht,@λH0 S z aq Y U H Q d tg ok e0 kk=>Uj hC q (@λ_ _ _ _ _ _ H _ _ _ e q=>by ext e;apply q H _ _ (aJ.refl H) .nil .nil) ok e0 kk]
end
abbrev MF:=D->List D->Option (D×D)
def dW(K:Fr)(G:MF):Sp:=λvs H Q _=>∃a ws d0 aO ds cP r d1,vs=V.ref a::ws/\Rep K H d0 (.ref a) aO/\aO.Nodup/\aC K H ds ws cP/\(∀b∈cP,b∉aO)/\G d0 ds=some (r,d1)/\
 ∀H' v aY,bu H H'->(∀b o,b∉aO->H b=some o->H' b=some o)->Rep K H' d1 (.ref a) aY->aY.Nodup->(∀b∈aY,b∈aO\/H b=none)->Rep K H' r v []->Q v H'
def apart(i:Nat)(ps:List (D×Tag)):Bool:=match iU ps with
 |.sh o=>!o.contains i
 |_=>true
def yy{K:Fr}(ok:Ok K H0 S z aq Y U H)(h:apart i ps=true)(g:dh z H (iU ps) fp)(zz:vm z i .own aO):∀b∈fp,b∉aO:=by
 intro b m n;unfold apart at h;have zb:=zz.2 b n;cases ht:iU ps with
 |sh o=>
  rw[ht] at h g;have:=g b m i zb;simp at h;apply h this
 |own=>
  rw[ht] at g;let#[#[o,w],_]:=ok.zd b i zb;rw[g.2 b m] at w;ext w
 |lk=>
  rw[ht] at g;let#[#[o,w],_]:=ok.zd b i zb;rw[g.2 b m] at w;ext w
def xO(i:Nat)(cn m:Str)(G:MF)(g:AF):XF:=λY=>match Y[i]?,g Y with
 |some (some (.ins c es,.own)),some ps=>if c=cn/\es.lookup m=none/\apart i ps=true then(G (.ins c es) (ps.map (·.1))).map λw=>(w.1,cJ Y i w.2) else none
 |_,_=>none
def N9(e:xO i cn m G g Y=some (r,Y')):∃es ps d1,Y[i]? = some (some (.ins cn es,.own))/\g Y=some ps/\es.lookup m=none/\apart i ps=true/\G (.ins cn es) (ps.map (·.1))=some (r,d1)/\Y'=cJ Y i d1:=by
 unfold xO at e
 split at e
 .rename_i c es ps h1 h2
  by_cases hc:c=cn/\es.lookup m=none/\apart i ps=true
  .rw[if_pos hc] at e;let#[rfl,hm,ha]:=hc;exists h3,G (.ins c es) (ps.map (·.1)),w,e;ext e;apply#[es,ps,w.2,h1,h2,hm,ha,h3,rfl]
  .rw[abm hc] at e;ext e
 .cases e
def FZ(X:Cx)(e:Expr)(f:XF):Prop:=∃t,PE X e t/\∀{H0} {S} {z} {aq} {Y} {U} {H} {Q} {d} {Y'},
 Ok X.K H0 S z aq Y U H->f Y=some (d,Y')->(∀z' H' v,Ok X.K H0 S z' aq Y' U H'->Rep X.K H' d v []->Q v H')->t U H Q
section
variable{X:Cx}
def ZH(hC:ClsAt X.K cn C)(hN:X.N[i]? = some x)
  (qa:∀{H0:Hp} {S} {z} {aq} {Y} {U} {H} {Q} {ps},Ok X.K H0 S z aq Y U H->g Y=some ps->(∀H' vs fp,aJ H H'->aC X.K H' (ps.map (·.1)) vs fp->dh z H (iU ps) fp->Q vs H')->ta U H Q)
  (ok:Ok X.K H0 S z aq Y U H) (e0:xO i cn m G g Y=some (d,Y')) (kk:∀z' H' v,Ok X.K H0 S z' aq Y' U H'->Rep X.K H' d v []->Q v H') :
  Cd C m (dW X.K G) [] E0 (oG i) ta U H Q:=by
 let#[su,qs,d1,h1,h2,hm,j_,hG,rfl]:=N9 e0;let#[v,aO,hs,r0,zz]:=ok.sl i _ _ h1;refine#[v,hs,?_];let#[b,dx,fs,gf,rfl,Ly,h4,h5,h6,h7]:=r0.kQ hC.ns;refine#[b,dx,fs,rfl,h4,tL h6 hm,?_];refine qa ok h2 λH2 vs i8 s2 r2 g2=>?_
 rw[acU];have nY:=ok.same s2;refine#[b,vs,_,aO,_,i8,d,d1,rfl,r0.same s2,zz.1,r2,yy ok j_ g2 zz,hG,λH3 u aY im kp r1 nd fr rr=>?_];let#[z',gR]:=nY.put h1 hs zz im kp r1 nd fr;apply kk z' H3 u gR rr
def j4(i:Nat)(hC:ClsAt X.K cn C)(hm:kD X.K C m f)(GG:bQ X.prog X.w X.K X.mg X.base dQ k f fd ps (dW X.K G))(hr:bz k X.A)(hb:Binds X.K fd ps [])(va:VA X i x:=by walk_at "va")
  (ht:wo X (.Name x p1) m apos [] pos pl:=by apply rfl):FZ X (.Call (.Attribute (.Name x p1) m apos) [] [] pos) (xO i cn m G aD):=
 #[_,Ui va.pe hC.cl hm GG hr hb .nil m_ ht,@λH0 S z aq Y U H Q d Y' ok e0 kk=>ZH hC va.N (@λ_ _ _ _ _ _ H _ _ _ e q=>by ext e;apply q H _ _ (aJ.refl H) .nil .nil) ok e0 kk]
def sZ(f:XF):SF:=λY=>(f Y).map λw=>.nx w.2
def rA(he:FZ X e fx)(kh:swapsWith e none pos.line X.env=pure false:=by rfl):fj X (.Expr e pos) (sZ fx):=by
 let#[t,p,q]:=he;exists 23,Dm p kh;unfold sZ at e;exists h,fx Y,w,e,0;let#[d,aP]:=w;rw[h] at e;ext e;apply q ok h λz' H1 v cM r1=>k z' U H1 cM (.refl _ _)
def Al(i:Nat)(f:XF):SF:=λY=>match f Y with
 |some (d,Y')=>some (.nx (iI Y' i d .own))
 |none=>none
def K3(i:Nat)(he:FZ X e fx)(hN:X.N.Nodup)(hi:X.N[i]? = some x:=by rfl)(hx:Loc X.env.scope x:=by first|exact Or.inl rfl|exact Or.inr rfl)
  (hs:swapsWith e (some (.Name x pos')) pos.line X.env=pure false:=by rfl) (hf:X.fn x=true\/X.env.scope.names.lookup x=some .local:=by first|exact .inl rfl|exact .inr rfl) (lu:j7 X x=false:=by rfl):fj X (.Assign [.Name x pos'] e pos) (Al i fx):=by
 let#[t,p,q]:=he;exists 23,B0 hN hi hx p hs hf;unfold Al at e;cases h:fx Y with
 |none=>rw[h] at e;ext e
 |some w=>
  let#[d,aP]:=w;rw[h] at e;ext e;refine q ok h λz1 H1 v cM r1=>?_
  apply cM.stored (aJ.refl H1) r1 .nil λz' bg=>k z' _ H1 bg (.set hi lu)
end
def lN(cn:Str)(G:MF)(g:AF):EF:=λY=>(g Y).bind λps=>match G (.ins cn []) (ps.map (·.1)) with
 |some (.aI,d)=>some (d,.own)
 |_=>none
section
variable{X:Cx}
def make_core{Q:VK}(hn:PySem.W.nsIn X.K mainGlobals cn=some (some (.ref C)))(r1:aC X.K H1 ds vs fp)(h3:G (.ins cn []) ds=some (.aI,d))(kk:∀H' v fp,aJ H1 H'->Rep X.K H' d v fp->fp.Nodup->(∀a∈fp,H1 a=none)->Q v H'):
  ∀x dx,H1 x=none->H1 dx=none->dx≠x->dW X.K G (.ref x::(vs++[])) (upd (upd H1 dx (.own x)) x (.ins C dx [])) (λv H2=>v=.aI/\Q (.ref x) H2) E0:=by
 intro b dx nb Bq ne;rw[acU];have s2:aJ H1 (upd (upd H1 dx (.own b)) b (.ins C dx [])):=λc o e=>by rw[aM (cO e nb),aM (cO e Bq)];apply e
 refine#[b,vs,.ins cn [],[b,dx],_,fp,.aI,d,rfl,.ins hn bI (by rw[aM ne];apply bI) rfl .nil,?_,r1.same s2,λc m n=>?_,h3,λH3 u aY im kp r3 nd fr rr=>?_]
 .exact ab3.mpr #[λm=>ne (aaK.mp m).symm,ab3.mpr #[(λm=>nomatch m),acv]]
 .let#[o,w,_]:=r1.eB c m;rcases aat.mp n with e|n
  .rw[e,nb] at w;ext w
  .rw[aaK.mp n,Bq] at w;ext w
 .cases rr;refine#[rfl,kk H3 _ aY (λc o e=>?_) r3 nd λc m=>?_]
  .refine kp c o (λn=>?_) (s2 c o e);rcases aat.mp n with q|n
   .rw[q,nb] at e;ext e
   .rw[aaK.mp n,Bq] at e;ext e
  .rcases fr c m with q|q
   .rcases aat.mp q with q|q
    .rw[q];apply nb
    .rw[aaK.mp q];apply Bq
   .exact s2.free q
def Sh(hn:PySem.W.nsIn X.K mainGlobals cn=some (some (.ref C)))
  (qa:∀{H0} {S} {z} {aq} {Y} {U} {H} {Q} {ps},Ok X.K H0 S z aq Y U H->g Y=some ps->(∀H' vs fp,aJ H H'->aC X.K H' (ps.map (·.1)) vs fp->dh z H (iU ps) fp->Q vs H')->ta U H Q)
  (ok:Ok X.K H0 S z aq Y U H) (e0:lN cn G g Y=some (d,tg)) (kk:∀H' v fp,aJ H H'->Rep X.K H' d v fp->dh z H tg fp->Q v H') :
  K6 C (dW X.K G) [] E0 ta U H Q:=by
 unfold lN at e0;exists h2,g Y,qs,e0,0;rw[h2,ac1] at e0;exists h3,G (.ins cn []) (qs.map (·.1)),w,e0,0;let#[r,d1]:=w;rw[h3] at e0;ext r<;>try (ext e0;done)
 ext e0;refine qa ok h2 λH1 vs fp s1 r1 _=>?_
 apply make_core hn r1 h3 λH' v fp s2 r3 nd fr=>kk H' v fp (s1.trans s2) r3 #[nd,λa m=>s1.free (fr a m)]
def ZT(hn:PySem.W.nsIn X.K mainGlobals cn=some (some (.ref C)))(M:Mk X.K C f)(GG:bQ X.prog X.w X.K X.mg X.base dQ k f fd ps (dW X.K G))(hr:bz (k+1) X.A)(hm:X.mg x=some (.ref C))(hb:Binds X.K fd ps [])(hg:GD X x:=by apply#[rfl,by decide]):
  FP X (.Call (.Name x p) [] [] pos) (lN cn G aD):=
 #[_,aeA M GG hr hg.1 hm hb .nil m_ hg.2,@λH0 S z aq Y U H Q d tg ok e0 kk=>Sh hn (@λ_ _ _ _ _ _ H _ _ _ e q=>by ext e;apply q H _ _ (aJ.refl H) .nil .nil) ok e0 kk]
def BW(hn:PySem.W.nsIn X.K mainGlobals cn=some (some (.ref C)))(M:Mk X.K C f)(GG:bQ X.prog X.w X.K X.mg X.base dQ k f fd ps (dW X.K G))(hr:bz (k+1) X.A)(hm:X.mg x=some (.ref C))(hb:Binds X.K fd ps [])(ha:FA X (e::es) g)(hg:GD X x:=by apply#[rfl,by decide])
  (he:SE X e es pos:=by apply#[rfl,rfl]):FP X (.Call (.Name x p) (e::es) [] pos) (lN cn G g):=by
 let#[ta,pa,_,qa]:=ha;apply#[_,ah8 M GG hr hg.1 hm hb .nil m_ pa hg.2 he.1 he.2,@λH0 S z aq Y U H Q d tg ok e0 kk=>Sh hn qa ok e0 kk]
end
end L2.Ev
namespace L2
open PySem PySem.Spec PyProof.Rows
abbrev Cx.m7(X:Cx)(xs:List Str):Cx:={ X with fn:=λy=>!(xs.contains y) }
def g_.m7{st:List Stmt}(hX:X.fn=λ_=>true)(h:g_ (X.m7 xs) st t):g_ X st t:=λaf s U H W I hw=>by
 have I':Inv (X.m7 xs) af U H s:=#[#[I.ok.mod,I.ok.kind,I.ok.glob,I.ok.blt,I.ok.above,I.ok.inj,I.ok.has,λx c _ e=>I.ok.n_ x c (by rw[hX]) e,I.ok.hd,I.ok.frames,I.ok.qQ,I.ok.uu,I.ok.bs,I.ok.jd,I.ok.pH,I.ok.oU,I.ok.jh,I.ok.mQ],I.os,I.bare,I.base,I.loc,I.cell,I.free,I.gj,I.pin,I.aH,I.len,I.hq]
 have back:∀{aE} {H'} {s'},Inv (X.m7 xs) af aE H' s'->Inv X af aE H' s':=λJ=>#[I.ok,J.os,J.bare,J.base,J.loc,J.cell,J.free,J.gj,J.pin,J.aH,J.len,J.hq]
 refine ad1 (h af s U H W I' hw) (λf s' q=>?_) λ_ _ z=>z
 cases f with
 |next=>let#[a,b,J,q]:=q;apply#[a,b,back J,q]
 |brk=>let#[a,b,J,q]:=q;apply#[a,b,back J,q]
 |cont=>let#[a,b,J,q]:=q;apply#[a,b,back J,q]
 |ret u=>let#[v,a,b,J,r,q]:=q;apply#[v,a,b,back J,r,q]
end L2
namespace L2.Ev
open PySem PySem.Spec PyProof.Rows
def rT:List Nat->aR->Option (List D)
 |[],_=>some []
 |i::J,Y=>match Y[i]? with
  |some (some (d,Tag.own))=>(rT J Y).map (d::·)
  |_=>none
def yK(J:List Nat)(im:Bool)(X:Cx)(H0:Hp)(S:List Addr)(aq:List qJ)(o7:St)(E:Ends):Out->Prop
 |.rt p=>∃r es,p=.tup (r::es)/\∀z Y U H v eX,Ok X.K H0 S z aq Y U H->rT J Y=some es->Kp X o7 U->Rep X.K H r v eX->eX.Nodup->(∀b∈eX,(H0 b=none\/b∈S)/\∀i∈J,z b≠some i)->(im=true->eX=[])->E.rt v H
 |o=>m6 X H0 S aq o7 E o
def FJ(J:List Nat)(im:Bool)(X:Cx)(st:List Stmt)(f:SF):Prop:=∃t,g_ X st t/\∀{H0} {S} {z} {aq} {Y} {U} {H} {E} {o},
 Ok X.K H0 S z aq Y U H->f Y=some o->yK J im X H0 S aq U E o->t E U H
def qW(J:List Nat)(im:Bool)(X:Cx)(st:Stmt)(f:SF):Prop:=∃t,PS X st t/\∀{H0} {S} {z} {aq} {Y} {U} {H} {E} {o},
 Ok X.K H0 S z aq Y U H->f Y=some o->yK J im X H0 S aq U E o->t E U H
abbrev Au:=FJ [0]
abbrev FM:=FJ [0] true
def yK.of(k:yK J im X H0 S aq U E o)(a:Kp X U aE):yK J im X H0 S aq aE E o:=by
 cases o with
 |nx Y=>apply m6.of (o:=.nx Y) k a
 |bk Y=>apply m6.of (o:=.bk Y) k a
 |ct Y=>apply m6.of (o:=.ct Y) k a
 |er raw cn Y=>apply uO.of k a
 |rt d=>let#[r,d0,e,k]:=k;apply#[r,d0,e,λz Y s H v eX ok h b=>k z Y s H v eX ok h (a.trans b)]
def jL(f:SF):SF:=λY=>match f Y with
 |some (.nx Y')=>some (.nx Y')
 |some (.bk Y')=>some (.bk Y')
 |some (.ct Y')=>some (.ct Y')
 |some (.er raw cn Y')=>some (.er raw cn Y')
 |_=>none
section
variable{st:Stmt}{rest:List Stmt}
def b_(h:fj X st f):qW J im X st (jL f):=by
 let#[t,p,q]:=h;refine#[t,p,@λH0 S z aq Y U H E o ok e k=>?_];unfold jL at e;cases h:f Y with
 |none=>rw[h] at e;ext e
 |some w=>
  rw[h] at e;refine q ok h ?_;ext w<;>first|(ext e;done)|(ext e;apply k)
def fY:FJ J im X [] fB:=#[_,SV,@λ_ _ z _ _ U H _ _ ok e k=>by ext e;apply k z U H ok (.refl _ _)]
def cN(h:qW J im X st f):FJ J im X [st] f:=let#[t,p,q]:=h;#[t,Uh p,q]
def bG(h1:qW J im X st f)(h2:FJ J im X rest g):FJ J im X (st::rest) (bY f g):=by
 let#[t,p,q]:=h1;let#[t',p',q']:=h2;exists 23,xG p p';unfold bY at e;cases h:f Y with
 |none=>rw[h] at e;ext e
 |some w=>
  refine q ok h ?_;rw[h] at e;cases w with
  |nx Y'=>apply λz' aE H' bg a=>q' bg e (k.of a)
  |rt d=>ext e;apply k
  |bk Y'=>ext e;apply k
  |ct Y'=>ext e;apply k
  |er _ _ _=>ext e;apply k
def eW(hc:FT X c tc)(ha:FJ J im X a f)(hb:FJ J im X b g):qW J im X (.If c a b pos) (dZ tc f g):=by
 let#[t,p,q]:=hc;let#[t1,p1,q1]:=ha;let#[t2,p2,q2]:=hb;exists 23,N4 p p1 p2;unfold dZ at e;cases h:tc Y with
 |none=>rw[h] at e;ext e
 |some y=>
  rw[h] at e;refine q ok h λH1 s1=>?_
  cases y with
  |true=>rw[if_pos rfl];apply q1 (ok.same s1) e k
  |false=>rw[abm aa3];apply q2 (ok.same s1) e k
def m8:qW J im X st Hj:=#[_,QU,@λ_ _ _ _ _ _ _ _ _ _ e _=>by ext e]
def uL(f:EF)(J:List Nat:=[0]):SF:=λY=>match f Y,rT J Y with
 |some (r,_),some es=>if aB r=true then some (.rt (.tup (r::es))) else none
 |_,_=>none
def rB(he:FP X e f):qW J im X (.Return (some e) pos) (uL f J):=by
 let#[t,p,q]:=he;exists 23,zW p;unfold uL at e
 split at e
 .rename_i r tg es h1 h2
  by_cases hi:aB r=true
  .rw[if_pos hi] at e;ext e;let#[r',uX,ee,k]:=k;ext ee;refine q ok h1 λH1 v fp s1 r1 _=>?_
   have hn:=r1.aB hi;subst hn;apply k z Y U H1 v [] (ok.same s1) h2 (.refl _ _) r1 acv (λb m=>nomatch m) λ_=>rfl
  .rw[abm hi] at e;ext e
 .cases e
def vY(f:XF)(J:List Nat:=[0]):SF:=λY=>match f Y with
 |some (r,Y')=>(rT J Y').map λes=>.rt (.tup (r::es))
 |none=>none
def lU(he:FZ X e f):qW J im X (.Return (some e) pos) (vY f J):=by
 let#[t,p,q]:=he;exists 23,zW p;unfold vY at e;cases h1:f Y with
 |none=>rw[h1] at e;ext e
 |some w=>
  rw[h1] at e;let#[es,h2,rfl]:=ac3.mp e;let#[r',uX,ee,k]:=k;ext ee;apply q ok h1 λz' H1 v cM r1=>k z' w.2 U H1 v [] cM h2 (.refl _ _) r1 acv (λb m=>nomatch m) λ_=>rfl
def Ml(i:Nat)(J:List Nat:=[0]):SF:=λY=>match Y[i]?,rT J Y with
 |some (some (r,Tag.own)),some es=>if J.contains i=true then none else some (.rt (.tup (r::es)))
 |_,_=>none
def VF(i:Nat)(va:VA X i x:=by walk_at "va"):qW J false X (.Return (some (.Name x p1)) pos) (Ml i J):=by
 exists 23,zW va.pe;unfold Ml at e
 split at e
 .rename_i r es h1 h0
  by_cases hj:J.contains i=true
  .rw[if_pos hj] at e;ext e
  .rw[abm hj] at e;ext e;let#[r',uX,ee,k]:=k;ext ee;let#[v,fp,hs,rr,zz]:=ok.sl i _ _ h1;refine#[v,hs,k z Y U H v fp ok h0 (.refl _ _) rr zz.1 (λb m=>#[(ok.zd b i (zz.2 b m)).2,λj mj q=>?_]) λq=>nomatch q];rw[zz.2 b m] at q;ext q;apply hj (aet.mpr mj)
 .cases e
end
def uS(n:Nat)(d0:D)(ds:List D):aR:=some (d0,.own)::(ds.map (λd=>some (d,.sh []))++List.replicate (n-(ds.length+1)) none)
def runM(n N:Nat)(b:SF):MF:=λd0 ds=>if ds.length + 1=n then(match b (uS N d0 ds) with
 |some (.rt (.tup [r,d1]))=>some (r,d1)
 |some (.nx Y)=>match Y[0]? with
  |some (some (d1,Tag.own))=>some (.aI,d1)
  |_=>none
 |_=>none) else none
def ZZ(h:rT [0] Y=some [d]):Y[0]? = some (some (d,.own)):=by
 unfold rT at h
 split at h
 .rename_i d' e;ext h;apply e
 .cases h
def AW(im:Bool)(K:Fr)(G:MF):Sp:=λvs H Q _=>∃v0 ws d0 aO ds cP r d1,vs=v0::ws/\Rep K H d0 v0 aO/\aO.Nodup/\aC K H ds ws cP/\(∀b∈cP,b∉aO)/\G d0 ds=some (r,d1)/\
 ∀H' v aY eX,bu H H'->(∀b o,b∉aO->H b=some o->H' b=some o)->Rep K H' d1 v0 aY->aY.Nodup->(∀b∈aY,b∈aO\/H b=none)->Rep K H' r v eX->eX.Nodup->(∀b∈eX,(b∈aO\/H b=none)/\b∉aY)->(im=true->eX=[])->Q v H'
def kY(K:Fr)(G:MF):Sp:=λvs H Q _=>∃v0 ws d0 aO ds cP r d1,vs=v0::ws/\Rep K H d0 v0 aO/\aO.Nodup/\aC K H ds ws cP/\(∀b∈cP,b∉aO)/\G d0 ds=some (r,d1)/\
 ∀H' v aY eX,bu H H'->(∀b o,b∉aO->H b=some o->H' b=some o)->Rep K H' d1 v0 aY->aY.Nodup->(∀b∈aY,b∈aO\/H b=none)->Rep K H' r v eX->eX.Nodup->(∀b∈eX,(b∈aO\/H b=none)/\b∉aY)->Q v H'
section
variable{K:Fr}
def Zc:∀vs H Q E,dW K G vs H Q E->AW true K G vs H Q E:=by
 rintro _ _ _ _ ⟨a,ws,d0,aO,ds,cP,r,d1,h1,h2,h3,h4,h5,h6,q⟩
 apply#[.ref a,ws,d0,aO,ds,cP,r,d1,h1,h2,h3,h4,h5,h6,λH' v aY eX a1 a2 a3 a4 a5 a6 _ _ e=>q H' v aY a1 a2 a3 a4 a5 (by rw[<- e rfl];apply a6)]
def acp:∀vs H Q E,kY K G vs H Q E->AW false K G vs H Q E:=by
 rintro _ _ _ _ ⟨v0,ws,d0,aO,ds,cP,r,d1,h1,h2,h3,h4,h5,h6,q⟩
 apply#[v0,ws,d0,aO,ds,cP,r,d1,h1,h2,h3,h4,h5,h6,λH' v aY eX a1 a2 a3 a4 a5 a6 a7 a8 _=>q H' v aY eX a1 a2 a3 a4 a5 a6 a7 a8]
def ah0{st:Stmt}(F:jD K x qual st f fd)(S:rG N ps (c9 st))(h0:N[0]? = some x0)
  (hb:∀(aU) (A) (outer) (s) (H) (E),bz k (A.deeper (envOfC qual (c9 st) s.heap.objs.size f aU))->Au im ((gb dQ P w K mg base N qual (c9 st) f aU A outer s H E).f_.m7 [x0]) (gS st) b) :
  bQ P w K mg base dQ (k+1) f fd ps (AW im K (runM ps.length N.length b)):=by
 have sW:∀{d0} {ds} {r},runM ps.length N.length b d0 ds=some r->ds.length+1=ps.length:=λ{d0 ds r} e=>by
  unfold runM at e
  split at e
  .assumption
  .cases e
 refine F.ok S (λvs H Q E h=>?_) λaU A outer s H vs Q E hr h=>?_<;>let#[v0,ws,d0,aO,ds,cP,r,d1,e0,r0,nd0,rs,dj,e,q]:=h
 .rw[e0,acK,<- rs.length,sW e]
 .let#[t,pt,sd]:=hb aU A outer s H E hr;refine#[t,pt.m7 rfl,?_];have r0':aC K H [d0] [v0] aO:=by have:=aC.cons r0 .nil;rwa [acU] at this
  let#[z,ok]:=Ok.lW r0' nd0 rs dj;rw[e0];have fin:∀{z} {Y} {U} {H'} {v} {eX},Ok K H aO z [] Y U H'->Y[0]? = some (some (d1,.own))->Kp ((gb dQ P w K mg base N qual (c9 st) f aU A outer s H E).f_.m7 [x0]) (start N (v0::ws)) U->Rep K H' r v eX->eX.Nodup->(∀b∈eX,(H b=none\/b∈aO)/\z b≠some 0)->(im=true->eX=[])->Q v H':=by
   intro z Y U H' v eX bg h1 kp rr RV J8 hi;let#[u,aY,hs,r1,zz]:=bg.sl 0 d1 .own h1;have hk:=kp 0 _ h0 (by
    show(x0==("self":Str)||(!([x0].contains ("self":Str))&&!(!([x0].contains x0))))=true
    by_cases h:x0=("self":Str)
    .rw[h];rfl
    .simp[afW h])
   rw[hk] at hs;ext hs;have st:∀{c} {o},H c=some o->mF o=false->H' c=some o:=λ{c o} e' mo=>bg.en c _ e' λm=>by
    let#[o',w,Mn]:=r0.eB c m;rw[e'] at w;ext w;rw[mo] at Mn;ext Mn
   apply q H' v aY eX #[λc xs e'=>st e' rfl,λc o u e'=>st e' rfl,λc φ e'=>st e' rfl] (λc o n e'=>bg.en c o e' n) r1 zz.1 (λc m=>((bg.zd c 0 (zz.2 c m)).2).symm.imp id id) rr RV (λc m=>#[(J8 c m).1.symm.imp id id,λm'=>(J8 c m).2 (zz.2 c m')]) hi
  have hl:=sW e;unfold runM at e;rw[if_pos hl] at e;cases ho:b (uS N.length d0 ds) with
  |none=>rw[ho] at e;ext e
  |some o=>
   rw[ho] at e;refine sd ok ho ?_;cases o with
   |rt p=>
    have hp:p=.tup [r,d1]:=by
     split at e<;>rename_i hh
     .cases e;ext hh;rfl
     .cases hh
     .cases e
    apply#[r,[d1],hp,λz Y U H' v eX bg h1 kp rr nd fr=>fin bg (ZZ h1) kp rr nd λb m=>#[(fr b m).1,(fr b m).2 0 aap]]
   |nx Y'=>
    dsimp only at e
    split at e
    .rename_i dd h1;ext e;apply λz U H' bg kp=>fin bg h1 kp .aI acv (λb m=>nomatch m) λ_=>rfl
    .cases e
   |bk _=>ext e
   |ct _=>ext e
   |er _ _ _=>ext e
end
def eF(f:Str)(d:D):List (Str×D)->List (Str×D)
 |[]=>[(f,d)]
 |(g,x)::r=>if g=f then(g,d)::r else(g,x)::eF f d r
theorem OP:∀{es} {fs},es.map (·.1)=fs.map (·.1)->(eF f d es).map (·.1)=(fq f v fs).map (·.1)
 |[],[],_=>rfl
 |[],_::_,k=>by simp at k
 |_::_,[],k=>by simp at k
 |(x,d0)::es,(y,v0)::fs,k=>by
  simp only[aas,agA] at k;let#[rfl,k]:=k;unfold eF fq
  by_cases hx:x=f
  .rw[if_pos hx,if_pos hx,aas,aas,k]
  .rw[abm hx,abm hx,aas,aas,OP k]
theorem TZ:∀{es},es.lookup f=some d0->(eF f d es).map (·.1)=es.map (·.1)
 |[],e=>by ext e
 |(x,d1)::es,e=>by
  unfold eF
  by_cases hx:x=f
  .rw[if_pos hx];rfl
  .have hb:=aei.mpr λq=>hx q.symm
   simp only[List.lookup,hb] at e;rw[abm hx,aas,TZ e];rfl
section
variable{K:Fr}
def aC.fq(rd:Rep K H d v fd):∀{es} {fs} {g},es.map (·.1)=fs.map (·.1)->aC K H (es.map (·.2)) (fs.map (·.2)) g->
  ∃g',aC K H ((eF f d es).map (·.2)) ((L2.fq f v fs).map (·.2)) g'/\(∀a∈g',a∈g\/a∈fd)/\(g.Nodup->fd.Nodup->(∀a∈fd,a∉g)->g'.Nodup)
 |[],[],_,_,r=>by
  ext r;apply#[fd++[],.cons rd .nil,λa m=>.inr (by simpa using m),λ_ n _=>by simpa using n]
 |[],_::_,_,k,_=>by simp at k
 |_::_,[],_,k,_=>by simp at k
 |(x,d0)::es,(y,v0)::fs,_,k,r=>by
  simp only[aas,agA] at k;let#[rfl,k]:=k;cases r with
  | @cons _ _ _ _ f1 f2 r1 r2=>
   unfold eF L2.fq
   by_cases hx:x=f
   .rw[if_pos hx,if_pos hx];refine#[fd++f2,.cons rd r2,λa m=>(abB.mp m).elim .inr λm=>.inl (aaM _ m),λn1 n2 n3=>?_];apply ac7.mpr #[n2,(ac7.mp n1).2.1,λa ma b mb e=>n3 a ma (aaM _ (e ▸ mb))]
   .rw[abm hx,abm hx];let#[g',h1,h2,h3]:=aC.fq rd k r2;refine#[f1++g',.cons r1 h1,λa m=>?_,λn1 n2 n3=>?_]
    .rcases abB.mp m with m|m
     .exact .inl (aaZ _ m)
     .exact(h2 a m).imp (aaM _) id
    .let#[a1,a2,a3]:=ac7.mp n1;refine ac7.mpr #[a1,h3 a2 n2 (λa m q=>n3 a m (aaM _ q)),λa ma b mb e=>?_];rcases h2 b mb with q|q
     .exact a3 a ma b q e
     .exact n3 b q (aaZ _ (e ▸ ma))
def aC.place:∀{es}{fs:List (Str×V)} {g},es.map (·.1)=fs.map (·.1)->aC K H (es.map (·.2)) (fs.map (·.2)) g->g.Nodup->es.lookup f=some d0->
  ∃v gf,fs.lookup f=some v/\Rep K H d0 v gf/\gf.Nodup/\(∀a∈gf,a∈g)/\∀(H') (d1) (g1),bu H H'->(∀b o,b∉gf->H b=some o->H' b=some o)->Rep K H' d1 v g1->g1.Nodup->(∀b∈g1,b∈gf\/H b=none)->
   ∃g',aC K H' ((eF f d1 es).map (·.2)) (fs.map (·.2)) g'/\g'.Nodup/\∀b∈g',b∈g\/H b=none
 |[],_,_,_,_,_,e=>by ext e
 |_::_,[],_,k,_,_,_=>by simp at k
 |(x,d)::es,(y,v0)::fs,_,k,r,nd,e=>by
  simp only[aas,agA] at k;let#[rfl,k]:=k;cases r with
  | @cons _ _ _ _ f1 f2 r1 r2=>
   let#[a1,a2,a3]:=ac7.mp nd
   by_cases hx:x=f
   .subst hx;have hb:=aij x;simp only[List.lookup,hb] at e ⊢;ext e;refine#[v0,f1,rfl,r1,a1,λa m=>aaZ _ m,λH' d1 g1 im kp rr n1 fr=>?_];refine#[g1++f2,?_,ac7.mpr #[n1,a2,λa ma b mb e=>?_],λb m=>?_]
    .unfold eF;rw[if_pos rfl];refine .cons rr (r2.frame (λa m=>?_) im);let#[o,w,_]:=r2.eB a m;rw[kp a o (λq=>a3 a q a m rfl) w,w]
    .subst e;let#[o,w,_]:=r2.eB a mb;rcases fr a ma with q|q
     .exact a3 a q a mb rfl
     .rw[q] at w;ext w
    .rcases abB.mp m with m|m
     .exact(fr b m).imp (aaZ _) id
     .exact .inl (aaM _ m)
   .have hb:=aei.mpr λq=>hx q.symm
    simp only[List.lookup,hb] at e ⊢;let#[v,gf,h1,h2,h3,h4,h5]:=aC.place k r2 a2 e;refine#[v,gf,h1,h2,h3,λa m=>aaM _ (h4 a m),λH' d1 g1 im kp rr n1 fr=>?_];let#[g',c1,c2,c3]:=h5 H' d1 g1 im kp rr n1 fr;refine#[f1++g',?_,ac7.mpr #[a1,c2,λa ma b mb e=>?_],λb m=>?_]
    .unfold eF;rw[abm hx];refine .cons (r1.frame (λa m=>?_) im) c1;let#[o,w,_]:=r1.eB a m;rw[kp a o (λq=>a3 a m a (h4 a q) rfl) w,w]
    .subst e;let#[o,w,_]:=r1.eB a ma;rcases c3 a mb with q|q
     .exact a3 a ma a q rfl
     .rw[q] at w;ext w
    .rcases abB.mp m with m|m
     .exact .inl (aaZ _ m)
     .exact(c3 b m).imp (aaM _) id
def Rep.Oh(r:Rep K H (.ins cn es) v fp)(hn:PySem.W.nsIn K mainGlobals cn=some (some (.ref C)))(nd:fp.Nodup)(e:es.lookup f=some d0):
  ∃a dx fs u gf,(a∉gf/\dx∉gf)/\v=.ref a/\H a=some (.ins C dx fs)/\fs.lookup f=some u/\Rep K H d0 u gf/\gf.Nodup/\(∀b∈gf,b∈fp)/\∀(H':Hp) (d1) (g1),bu H H'->(∀b o,b∉gf->H b=some o->H' b=some o)->Rep K H' d1 u g1->g1.Nodup->(∀b∈g1,b∈gf\/H b=none)->
   ∃aY,Rep K H' (.ins cn (eF f d1 es)) v aY/\aY.Nodup/\∀b∈aY,b∈fp\/H b=none:=by
 let#[a,dx,fs,g,rfl,rfl,h1,h2,h3,h4]:=r.kQ hn;let#[n1,n2]:=ab3.mp nd;let#[n3,n4]:=ab3.mp n2;let#[u,gf,c1,c2,c3,c4,c5]:=aC.place h3 h4 n4 e;refine#[a,dx,fs,u,gf,#[λm=>n1 (aao _ (c4 _ m)),λm=>n3 (c4 _ m)],rfl,h1,c1,c2,c3,λb m=>aao _ (aao _ (c4 b m)),λH' d1 g1 im kp rr m1 fr=>?_];let#[g',e1,e2,e3]:=c5 H' d1 g1 im kp rr m1 fr;have ka:=kp a _ (λq=>n1 (aao _ (c4 a q))) h1;have kd:=kp dx _ (λq=>n3 (c4 dx q)) h2;refine#[a::dx::g',.ins hn ka kd (by rw[TZ e];apply h3) e1,?_,λb m=>?_]
 .refine ab3.mpr #[λm=>?_,ab3.mpr #[λm=>?_,e2]]
  .rcases aat.mp m with q|m
   .exact n1 (by rw[q];apply aap)
   .rcases e3 a m with q|q
    .exact n1 (aao _ q)
    .rw[h1] at q;ext q
  .rcases e3 dx m with q|q
   .exact n3 q
   .rw[h2] at q;ext q
 .rcases aat.mp m with q|m
  .exact .inl (by rw[q];apply aap)
  .rcases aat.mp m with q|m
   .exact .inl (by rw[q];apply aao _ aap)
   .exact(e3 b m).imp (λq=>aao _ (aao _ q)) id
def Rep.place(r:Rep K H (.ins cn es) v fp)(hn:PySem.W.nsIn K mainGlobals cn=some (some (.ref C)))(nd:fp.Nodup)(e:es.lookup f=some d0):
  ∃a dx fs u gf,v=.ref a/\H a=some (.ins C dx fs)/\fs.lookup f=some u/\Rep K H d0 u gf/\gf.Nodup/\(∀b∈gf,b∈fp)/\∀(H') (d1) (g1),bu H H'->(∀b o,b∉gf->H b=some o->H' b=some o)->Rep K H' d1 u g1->g1.Nodup->(∀b∈g1,b∈gf\/H b=none)->
   ∃aY,Rep K H' (.ins cn (eF f d1 es)) v aY/\aY.Nodup/\∀b∈aY,b∈fp\/H b=none:=
 let#[a,dx,fs,u,gf,_,h]:=r.Oh hn nd e;#[a,dx,fs,u,gf,h]
end
def Ok.fld{K:Fr}(hC:ClsAt K cn C)(ok:Ok K H0 S z aq Y U H)(h:Y[i]? = some (some (.ins cn es,.own)))
  (hs:U[i]? = some (some (.ref b))) (hb:H b=some (.ins C dx fs)) (s1:aJ H H1) (r1:Rep K H1 d y fd) (nd:fd.Nodup) (fr:∀c∈fd,H c=none):∃z',Ok K H0 S z' aq (cJ Y i (.ins cn (eF f d es))) U (upd H1 b (.ins C dx (L2.fq f y fs))):=by
 let#[v,aO,dG,r0,zz]:=ok.sl i _ _ h;rw[hs] at dG;ext dG;let#[b',xM,uy,g,e,rfl,h3,h4,h5,h6]:=(r0.same s1).kQ hC.ns;ext e;rw[s1 _ _ hb] at h3;ext h3;have h3:=s1 _ _ hb;have DX:∀c∈fd,c∉b::dx::g:=λc m n=>by
  let#[#[o,w],_]:=ok.zd c i (zz.2 c n);rw[fr c m] at w;ext w
 have me:b∈b::dx::g:=aap;have md:dx∈b::dx::g:=aao _ aap;have mg:∀{c},c∈g->c∈b::dx::g:=λm=>aao _ (aao _ m)
 let#[n1,n2]:=ab3.mp zz.1;let#[n3,n4]:=ab3.mp n2;have ne:∀{c},c∈g->c≠b:=λm q=>n1 (q ▸ aao _ m)
 have im:bu H1 (upd H1 b (.ins C dx (L2.fq f y fs))):=bu.upd h3 rfl;let#[g',c1,c2,c3]:=aC.fq (r1.frame (λc m=>aM λq:c=b=>DX c m (q ▸ me)) im) h5 (h6.frame (λc m=>aM (ne m)) im);have out:∀{c},c∈g'->c∈g\/c∈fd:=λ{c} m=>c2 c m
 refine ok.put h hs zz ((bu.of s1).trans im) (λc o n e=>by rw[aM λq:c=b=>n (q ▸ me)];apply s1 c o e) (.ins hC.ns bI (by rw[aM λq:dx=b=>n1 (q ▸ aap)];apply h4) (OP h5) c1) ?_ λc m=>?_
 .refine ab3.mpr #[λm=>?_,ab3.mpr #[λm=>(out m).elim n3 λq=>DX dx q md,c3 n4 nd λc m n=>DX c m (mg n)]];rcases aat.mp m with q|m
  .exact n1 (q ▸ aap)
  .exact(out m).elim (λq=>n1 (aao _ q)) λq=>DX b q me
 .rcases aat.mp m with q|m
  .exact .inl (q ▸ me)
  .rcases aat.mp m with q|m
   .exact .inl (q ▸ md)
   .exact(out m).imp mg (fr c)
def xP(i:Nat)(cn f:Str)(fv:EF):SF:=λY=>match fv Y,Y[i]? with
 |some (d,t),some (some (.ins c es,.own))=>if c=cn/\es.length<1000/\(jy t||aB d)=true then some (.nx (cJ Y i (.ins c (eF f d es)))) else none
 |_,_=>none
def fL(i:Nat)(hC:ClsAt X.K cn C)(na:iR X.K C f)(hv:FP X a fv)(va:VA X i x:=by walk_at "va")(hs:swapsWith a (some (.Attribute (.Name x p1) f pos')) pos.line X.env=pure false:=by rfl):fj X (.Assign [.Attribute (.Name x p1) f pos'] a pos) (xP i cn f fv):=by
 let#[t,p,q]:=hv;exists 23,Yt va.pe p hs;unfold xP at e
 split at e
 .rename_i d tg c es h1 h2
  by_cases hc:c=cn/\es.length<1000/\(jy tg||aB d)=true
  .rw[if_pos hc] at e;ext e;let#[rfl,hl,ho]:=hc;let#[v,aO,dG,r0,zz]:=ok.sl i _ _ h2;refine q ok h1 λH1 y fd s1 r1 g1=>#[v,dG,?_]
   let#[b,dx,fs,g,rfl,rfl,h3,h4,h5,h6]:=r0.kQ hC.ns;have lf:fs.length<1000:=by have:=congrArg List.length h5;rw[List.length_map,List.length_map] at this;lia
   refine#[b,C,dx,fs,rfl,s1 _ _ h3,hC.cl,na,lf,?_];have g:fd.Nodup/\∀a∈fd,H a=none:=by
    rcases(ajc _ _).mp ho with h|h
    .cases tg<;>first|exact g1|ext h
    .rw[r1.aB h];apply#[acv,λc m=>nomatch m]
   let#[z',bg]:=ok.fld hC h2 dG h3 s1 r1 g.1 g.2;apply k z' U _ bg (.refl _ _)
  .rw[abm hc] at e;ext e
 .cases e
def K5:D->D->Option D
 |.int i,.int j=>some (.int (if j > i then j else i))
 |_,_=>none
def abt(hc:X.calm=true)(hm:X.mg "max"=none)(ha:FP X a fa)(hb:FP X b fb)(hg:Gl X "max":=by rfl)(hs:starEach [a,b] X.env=[(false,eval a X.env),(false,eval b X.env)]:=by rfl)(bS:starEach [b] X.env=[(false,eval b X.env)]:=by rfl)(hpl:(backTo pos (starEach [b] X.env)).any (·.1)=false:=by rfl):
  FP X (.Call (.Name "max" p) [a,b] [] pos) (e2 K5 fa fb):=by
 let#[ta,pa,sa]:=ha;let#[tb,pb,sb]:=hb;exists 21,sA (agi hc) hg hm boot_max (eO pa (eO pb f7 bS) (by rw[hs,bS])) (he:=by rw[hs,bS]) (hpl:=hpl);let#[d1,t1,d2,t2,g1,g2,g3,rfl]:=pY e;refine sa ok g1 λH1 x f1 s1 r1 _=>?_
 refine sb (ok.same s1) g2 λH2 y f2 s2 r2 _=>?_
 unfold K5 at g3
 split at g3
 .cases g3;apply#[_,_,by rw[r1.iG.1,r2.iG.1],k H2 _ [] (s1.trans s2) (.int _) .nil]
 .cases g3
def Ar:D->Option D
 |.int i=>some (.int (-i))
 |_=>none
def afv(ha:FP X a fa):FP X (.UnaryOp .USub a pos) (e1 Ar fa):=by
 let#[t,pa,q]:=ha;exists 21,aib XD pa;let#[d1,t1,g1,g2,rfl]:=oB e;refine q ok g1 λH1 x f1 s1 r1 _=>?_
 ext r1<;>ext g2
 apply#[_,rfl,k H1 _ [] s1 (.int _) .nil]
def Wh(hm:X.mg x=some (.int n tk))(hg:GD X x:=by apply#[rfl,by decide]):FP X (.Name x pos) (eC (.int n)):=
 #[_,Nf hg.1 hm (v:=.int n) #[_,rfl] hg.2,@λ_ _ _ _ _ _ H _ _ _ _ e q=>by ext e;apply q H _ _ (aJ.refl H) (.int n) .nil]
def K7(o o':D->D->Option D)(fa fb fc:EF):EF:=λY=>match fa Y,fb Y with
 |some (d1,_),some (d2,_)=>match o d1 d2 with
  |some (.bl true)=>match fc Y with
   |some (d3,_)=>(o' d2 d3).map λd=>(d,.own)
   |none=>none
  |some (.bl false)=>some (.bl false,.own)
  |_=>none
 |_,_=>none
def X6(ho:dH X (compareOp op) r)(mK:dH X (compareOp wY) r')(dd:gx X.K r o)(qe:gx X.K r' o')(ha:FP X a fa)(hb:FP X b fb)(hc:FP X c fc)(hm:lastMarks [op,wY] [b,c]=false:=by with_unfolding_all rfl):
  FP X (.Compare a [op,wY] [b,c] pos) (K7 o o' fa fb fc):=by
 let#[ta,pa,sa]:=ha;let#[tb,pb,sb]:=hb;let#[tc,pc,sc]:=hc;exists 21,Wd ho mK pa pb pc hm;unfold K7 at e
 split at e
 .rename_i d1 t1 d2 t2 e1 e2;refine sa ok e1 λH1 x f1 s1 r1 _=>?_
  refine sb (ok.same s1) e2 λH2 y f2 s2 r2 _=>?_
  exists h,o d1 d2,w,e,0;refine dd H2 x y d1 d2 f1 f2 w _ (r1.same s2) r2 h λH3 u s3 r3=>?_
  rw[h] at e;ext w<;>try (ext e;done)
  rename_i b';ext r3;refine#[b',rfl,?_];cases b' with
  |false=>
   ext e;rw[abm aa3];apply k H3 _ [] ((s1.trans s2).trans s3) (.bl false) .nil
  |true=>
   rw[if_pos rfl];dsimp only at e;exists h3,fc Y,w3,e,0;let#[d3,t3]:=w3;rw[h3] at e;dsimp only at e;cases h4:o' d2 d3 with
   |none=>rw[h4] at e;ext e
   |some d4=>
    rw[h4] at e;ext e;refine sc (((ok.same s1).same s2).same s3) h3 λH4 w' f4 s4 r4 _=>?_
    apply qe H4 y w' d2 d3 f2 f4 d Q ((r2.same s3).same s4) r4 h4 λH5 v5 s5 r5=>k H5 v5 [] ((((s1.trans s2).trans s3).trans s4).trans s5) r5 .nil
 .cases e
def aau(ha:FP X a fa)(hb:FP X b fb)(hc:FP X c fc)(hm:lastMarks [.LtE,.LtE] [b,c]=false:=by with_unfolding_all rfl):FP X (.Compare a [.LtE,.LtE] [b,c] pos) (K7 oLe oLe fa fb fc):=X6 Ib Ib s_ s_ ha hb hc hm
def pZ(neg:Bool):D->D->Option D:=λkd dd=>match dd with
 |.bZ es=>(iJ kd).map λk=>.bl (if neg=true then !(bC es k).isSome else(bC es k).isSome)
 |_=>none
def QE(neg:Bool):R2:=λy x H Q=>∃a o,x=.ref a/\jj H a y o/\Q (.bl (if neg=true then !o.isSome else o.isSome)) H
def Fi{K:Fr}:gx K (QE neg) (pZ neg):=by
 intro H y x d1 d2 f1 f2 d Q r1 r2 e k;cases r2 with
 | @bZ a ak es fp h hk rs=>
  have e:((iJ d1).map λk=>D.bl (if neg=true then !(bC es k).isSome else(bC es k).isSome))=some d:=e;exists xH,iJ d1,key,e;ext e;have ek:=r1.key xH;subst ek;have ev:(eK ak key).isSome=(bC es key).isSome:=by
   let#[h1,h2]:=qp hk rs;cases hv:bC es key with
   |none=>rw[h2 hv];rfl
   |some dv=>let#[v,f,mU,_]:=h1 dv hv;rw[mU];rfl
  refine#[a,eK ak key,rfl,jj.k h,?_];rw[ev];apply k H _ (aJ.refl H) (.bl _)
 |_=>ext e
def aaf(hu:X.A.units+1<cLine)(ha:FP X a fa)(hb:FP X b fb)(hm:behindInMarks .In b=false:=by rfl):FP X (.Compare a [.In] [b] pos) (e2 (pZ false) fa fb):=
 fp_2 Fi ha hb λta tb pa pb=>PL (NI hu pa pb) hm
def JO(hu:X.A.units+1<cLine)(ha:FP X a fa)(hb:FP X b fb)(hm:behindInMarks .In b=false:=by rfl):FT X (.Compare a [.In] [b] pos) (tV (e2 (pZ false) fa fb)):=by
 let#[ta,pa,sa]:=ha;let#[tb,pb,sb]:=hb;exists 22,aih (t:=rm (QE false) ta tb) (NI hu pa pb) hm;let#[tg,e0]:=Ig e;let#[d1,t1,d2,t2,e1,iV,e3,rfl]:=pY e0;refine sa ok e1 λH1 x f1 s1 r1 _=>?_
 refine sb (ok.same s1) iV λH2 y f2 s2 r2 _=>?_
 refine Fi H2 x y d1 d2 f1 f2 _ _ (r1.same s2) r2 e3 λH3 v s3 r3=>?_
 ext r3;apply#[c,rfl,k H3 ((s1.trans s2).trans s3)]
def A4(i:Nat)(cn f:Str)(fv:EF):SF:=λY=>match fv Y,Y[i]? with
 | some (d,_),some (some (.ins c es,.own))=>if c=cn then(match es.lookup f with
  |some (.lst ds)=>if(aB d&&aK ds&&decide (ds.length<sizeLine))=true then some (.nx (cJ Y i (.ins c (eF f (.lst (ds++[d])) es)))) else none
  |_=>none) else none
 |_,_=>none
def CT(i:Nat)(hC:ClsAt X.K cn C)(na:iR X.K C f)(hv:FP X a fv)(va:VA X i x:=by walk_at "va")(hs:starEach [a] X.env=[(false,eval a X.env)]:=by rfl)
  (hb:attributeBase (.Name x p) f X.env (eval (.Name x p) X.env)=eval (.Name x p) X.env:=by rfl)
  (mG:attributeBase (.Attribute (.Name x p) f p1) "append" X.env (eval (.Attribute (.Name x p) f p1) X.env)=eval (.Attribute (.Name x p) f p1) X.env:=by rfl)
  (lK:((backTo p3 (starEach [a] X.env)).all (λx=>!x.1)&&(backToKw p3 (keywordEach [] X.env)).all (λx=>x.1.isSome)&&decide ([a].length+([]:List Keyword).length+(if([]:List Keyword).isEmpty then 0 else 1)<30))=true:=by rfl)
  (mD:(p2.endLine==p3.line)=true:=by rfl) (kh:swapsWith (.Call (.Attribute (.Attribute (.Name x p) f p1) "append" p2) [a] [] p3) none pos.line X.env=pure false:=by rfl) :
  fj X (.Expr (.Call (.Attribute (.Attribute (.Name x p) f p1) "append" p2) [a] [] p3) pos) (A4 i cn f fv):=by
 let#[tv,pB,sv]:=hv;exists 25,Dm (zM PySem.F.plainAttrs_list PySem.F.slot_list_append PySem.F.type_list_append JH (qR va.pe hb) (eO pB f7 hs) mG lK mD hs rfl) kh;unfold A4 at e
 split at e
 .rename_i d td c es g1 g2
  by_cases hc:c=cn
  .subst hc;rw[if_pos rfl] at e
   split at e
   .rename_i ds hl;let#[hc,e]:=ci e;ext e;let#[c1,c3]:=(aaF _ _).mp hc;let#[c1,c2]:=(aaF _ _).mp c1;let#[xv,fp,dG,r,zz]:=ok.sl i _ _ g2;refine#[xv,dG,?_];let#[b0,dx,fs,u,gf,rfl,h1,h2,h3,h4,h5,h6]:=r.place hC.ns zz.1 hl;refine#[b0,C,dx,fs,u,rfl,h1,hC.cl,na,h2,?_];let#[l,xs,f0,rfl,hq,_,_]:=h3.dM;refine#[.inl #[rfl,_,hq],?_];refine sv ok g1 λH1 v fd s1 rv gv=>?_
    have hn:=rv.aB c1;subst hn;generalize hw:(V.ref l)=w at h3 h6;cases h3 with
    | @lst a' ys _ f' h rs=>
     ext hw;have hn:=rs.aB c2;subst hn;have z_:=s1 _ _ h;refine#[_,ys,v,rfl,rfl,z_,by rw[<- rs.length];apply aaY c3,?_];have im:bu H1 (upd H1 l (.lst (ys++[v]))):=bu.upd z_ rfl;let#[aY,k1,k2,k3]:=h6 (upd H1 l (.lst (ys++[v]))) (.lst (ds++[d])) [l] ((bu.of s1).trans im) (λc o n e=>by rw[aM λq=>n (by rw[q];apply aap)];apply s1 c o e)
      (.lst bI (aC.append ((rs.same s1).frame (λa m=>nomatch m) im) (aC.cons (rv.frame (λa m=>nomatch m) im) .nil))) h4 (λc m=>.inl m)
     let#[z',bg]:=ok.put g2 dG zz ((bu.of s1).trans im) (λc o n e=>by rw[aM λq=>n (by rw[q];apply h5 l aap)];apply s1 c o e) k1 k2 k3;apply q z' U _ bg (.refl _ _)
   .cases e
  .rw[abm hc] at e;ext e
 .cases e
end L2.Ev
namespace L2
open PySem PySem.Spec PyProof.Rows
def YK:V->List V->Hp->VK->Prop:=λx vs H Q=>∃(l:Addr) (ns:List Int) (n:Int),x=.ref l/\vs=[.int n]/\H l=some (.lst (ns.map V.int))/\n∈ns/\Q .aI (upd H l (.lst ((ns.erase n).map V.int)))
def isI(n:Int):Value->Bool
 |.int a _=>a==n
 |_=>false
def F8{ns:List Int}(r:aT (ns.map V.int) us)(h:m<us.length)(h2:m<ns.length):∃t,us[m]=.int ns[m] t:=by
 let#[u,hu,ru]:=r.get (by rw[acB,abe h2];rfl);rw[abe h] at hu;let#[t,rt]:=ru;apply#[t,by rw[<- rt];apply acq hu]
theorem Pr:∀{ns:List Int} {n} {m} (h:m<ns.idxOf n) (h2),ns[m]≠n
 |[],_,_,_,h2=>absurd h2 (Nat.not_lt_zero _)
 |a::ns,n,m,h,h2=>by
  rw[List.idxOf_cons] at h
  by_cases ha:(a==n)=true
  .rw[ha] at h;apply absurd h (Nat.not_lt_zero _)
  .have ha:(a==n)=false:=by simpa using ha
   rw[ha] at h;cases m with
   |zero=>apply aei.mp ha
   |succ m=>apply Pr (Nat.lt_of_succ_lt_succ h) (Nat.lt_of_succ_lt_succ h2)
def ZX{l:List α}:(l.map f).eraseIdx k=(l.eraseIdx k).map f:=by
 rw[List.eraseIdx_eq_take_drop_succ,List.eraseIdx_eq_take_drop_succ,adK,List.map_take,List.map_drop]
def abQ:S5 X "list.remove" YK:=by
 intro af s U H x vs v us Q I rx rv h;let#[l,ns,n,rfl,rfl,hH,hn,q]:=h;ext rx;let#[u,rfl,ru]:=rv.one;let#[t,rfl]:=ru;let#[z,aA,nn,r,hl,e]:=I.Ds hH;have hi:ns.idxOf n<ns.length:=List.idxOf_lt_length_of_mem hn;rw[List.length_map] at hl z;have hj:ns.idxOf n<aA.toArray.size:=by rw[ab0];lia
 refine call_meets F.slot_list_remove #[_,e,rfl] F.entry_list_remove (F.args_list_remove_2 _ _)
  (MeetsSeq.list_remove l aA.toArray nn (.int n t) (isI n) (λy my=>?_) (ns.idxOf n) hj ?_ (λm hm h2=>?_) (by rw[ab0];lia)) #[e,?_]
 .let#[m,hm,em]:=Array.mem_iff_getElem.mp my;rw[ab0] at hm;rw[List.getElem_toArray] at em;let#[t',et]:=F8 r hm (by lia);rw[<- em,et];apply MeetsSeq.EqGives.int _ _ _ _
 .rw[List.getElem_toArray];let#[t',et]:=F8 r (by lia) hi;rw[et];rw[List.getElem_idxOf hi];apply aij n
 .rw[List.getElem_toArray];rw[ab0] at hm;let#[t',et]:=F8 r hm (by lia);rw[et];apply aei.mpr (Pr h2 (by lia))
 .refine#[.aI,_,I.RX (its':=aA.eraseIdx (ns.idxOf n)) hH e ?_ ?_ ?_,rfl,q]
  .show aA.toArray.eraseIdxIfInBounds _=(aA.eraseIdx _).toArray;rw[List.eraseIdxIfInBounds_toArray]
  .rw[List.erase_eq_eraseIdx_of_idxOf rfl,<- ZX];apply r.eraseIdx _
  .rw[List.length_map];have:=List.length_erase_le (a:=n) (l:=ns)
   lia
end L2
namespace L2.Ev
open PySem PySem.Spec PyProof.Rows
def Ct(env:Env):Str×NameKind->Str×NameKind:=λ(n,k)=>if(k==NameKind.free&&env.scope.kind == .function&&env.kindOf n==some .cell) then(n,NameKind.cell) else(n,k)
theorem Qm:∀{names:List (Str×NameKind)} {x},(names.lookup x=some .cell\/names.lookup x=some .free)->(names.map (Ct env)).lookup x=some .cell\/(names.map (Ct env)).lookup x=some .free
 |[],_,h=>by simp at h
 |(n,k)::r,x,h=>by
  rw[aas];have e:Ct env (n,k)=(n,.cell)\/Ct env (n,k)=(n,k):=by
   show(if(k==NameKind.free&&env.scope.kind == .function&&env.kindOf n==some .cell)=true then(n,NameKind.cell) else(n,k))=_\/(if(k==NameKind.free&&env.scope.kind == .function&&env.kindOf n==some .cell)=true then(n,NameKind.cell) else(n,k))=_
   split
   .exact .inl rfl
   .exact .inr rfl
  cases hx:x==n with
  |true=>
   simp only[aeU,hx] at h;rcases e with e|e<;>rw[e]<;>simp only[aeU,hx]
   .exact .inl trivial
   .exact h
  |false=>
   simp only[aeU,hx] at h;have ih:=Qm (env:=env) h;rcases e with e|e<;>rw[e]<;>simp only[aeU,hx]<;>apply ih
def ad7(h:ym M0 P1 sc M js=true):mh (eE X M0 P1 s3 H3 fp) M js sc:=by
 unfold ym at h;let#[h,a6]:=(aaF _ _).mp h;let#[h,a5]:=(aaF _ _).mp h;let#[h,a4]:=(aaF _ _).mp h;let#[h,a3]:=(aaF _ _).mp h;let#[a1,a2]:=(aaF _ _).mp h;refine#[?_,λy hy=>?_,λy hy hl=>?_,a4,λx hx=>?_,aaY a6]
 .cases hk:sc.kind<;>rw[hk] at a1<;>first|rfl|exact absurd a1 (by decide)
 .have:=adR.mp a2 y hy;intro z;rw[z] at this;apply absurd this (by decide)
 .have:=adR.mp a3 y hy;rw[hl] at this;have this:=this;cases q:sc.names.lookup y.1 with
  |none=>rw[q] at this;apply absurd this (by decide)
  |some k=>rw[q] at this;ext k<;>first|rfl|exact absurd this (by decide)
 .have:=adR.mp a5 x hx;refine Qm ?_;cases q:P1.names.lookup x with
  |none=>rw[q] at this;apply absurd this (by decide)
  |some k=>rw[q] at this;ext k<;>first|exact .inl rfl|exact .inr rfl|exact absurd this (by decide)
def zU(i:Nat)(fv:EF):SF:=λY=>match fv Y,Y[i]? with
 |some (.int n,_),some (some (.lst ds,.own))=>match eU ds with
  |some ns=>if n∈ns then some (.nx (cJ Y i (.lst ((ns.erase n).map D.int)))) else none
  |none=>none
 |_,_=>none
theorem P_:∀{ds} {ns},eU ds=some ns->ds=ns.map D.int
 |[],_,e=>by ext e;rfl
 |d::ds,ns,e=>by
  ext d<;>try (ext e;done)
  rename_i i;unfold eU at e;exists h,eU ds,r,e;ext e;rw[P_ h];rfl
def UX(i:Nat)(hv:FP X a fv)(va:VA X i x:=by walk_at "va")(hs:starEach [a] X.env=[(false,eval a X.env)]:=by rfl)
  (mG:attributeBase (.Name x p1) "remove" X.env (eval (.Name x p1) X.env)=eval (.Name x p1) X.env:=by rfl)
  (lK:((backTo p3 (starEach [a] X.env)).all (λx=>!x.1)&&(backToKw p3 (keywordEach [] X.env)).all (λx=>x.1.isSome)&&decide ([a].length+([]:List Keyword).length+(if([]:List Keyword).isEmpty then 0 else 1)<30))=true:=by rfl)
  (mD:(p2.endLine==p3.line)=true:=by rfl) (kh:swapsWith (.Call (.Attribute (.Name x p1) "remove" p2) [a] [] p3) none pos.line X.env=pure false:=by rfl) :
  fj X (.Expr (.Call (.Attribute (.Name x p1) "remove" p2) [a] [] p3) pos) (zU i fv):=by
 let#[tv,pB,sv]:=hv;exists 25,Dm (zM PySem.F.plainAttrs_list PySem.F.slot_list_remove PySem.F.type_list_remove abQ va.pe (eO pB f7 hs) mG lK mD hs rfl) kh;unfold zU at e
 split at e
 .rename_i n td ds g1 g2;exists hI,eU ds,ns,e;dsimp only at e;let#[hc,e]:=ci e;ext e;have:=P_ hI;subst this;let#[xv,fp,dG,r,zz]:=ok.sl i _ _ g2;refine#[xv,dG,?_];let#[l,xs,f,rfl,hq,_,_]:=r.dM;refine#[.inl #[rfl,_,hq],?_];refine sv ok g1 λH1 v fd s1 rv gv=>?_
  ext rv;have r':=r.same s1;have cM:=ok.same s1;generalize hw:(V.ref l)=w at r' dG;cases r' with
  | @lst a' ys _ f' h rs=>
   ext hw;have ey:=uq rs hI;subst ey;have hn:=rs.aB (c_ ns);subst hn;refine#[_,ns,n,rfl,rfl,h,hc,?_];have im:bu H1 (upd H1 l (.lst ((ns.erase n).map V.int))):=bu.upd h rfl;apply q z U _ (Ok.Gg cM g2 dG zz aap h rfl (.lst bI (yV _))) (.refl _ _)
 .cases e
def wC(fa fh:EF):EF:=λY=>match fa Y,fh Y with
 |some (.lst ds,_),some (.int i,_)=>if aK ds=true then some (.lst (cutD ds none (some i)),.own) else none
 |_,_=>none
def Qh(ha:FP X a fa)(hh:FP X b fh):FP X (.Subscript a (.Slice none (some b) none p2) pos) (wC fa fh):=by
 let#[t,p,q]:=ha;let#[th,ph,qh]:=hh;exists 21,Bo DJ p IZ (IX ph);unfold wC at e
 split at e
 .rename_i ds t1 i t2 e1 e2;let#[hi,e]:=ci e;ext e;refine q ok e1 λH1 x f1 s1 r1 _=>?_
  refine qh (ok.same s1) e2 λH2 y f2 s2 r2 _=>?_
  ext r2;refine#[i,rfl,?_];let#[w,xs,f,rfl,hq,rs,_]:=(r1.same s2).dM;have hn:=rs.aB hi;subst hn;refine#[w,xs,rfl,hq,λp hp=>?_];have s3:aJ H2 (upd H2 p (.lst (gk xs none (some i)))):=λb o e=>by rw[aM (cO e hp)];apply e
  have rr:aC X.K H2 (cutD ds none (some i)) (gk xs none (some i)) []:=by
   unfold cutD gk;rw[rs.length];apply aC.vS _ (aC.wj _ rs)
  refine k _ _ [p] ((s1.trans s2).trans s3) (.lst bI (rr.same s3)) #[ab3.mpr #[(λm=>by ext m),acv],λa m=>?_];cases aaK.mp m;apply s1.free (s2.free hp)
 .cases e
def aJ.new{H:Hp}{l:Addr}{o:HO}(h:H l=none):aJ H (upd H l o):=λb o' e=>by rw[aM (cO e h)];apply e
end L2.Ev
namespace L2
open PySem PySem.Spec PyProof.Rows
def Wu(I:Inv X af U H s)(hN:X.N.Nodup)(hi:X.N[i]? = some n)(hk:X.env.scope.names.lookup n=some .local)
  (h:∀s',Inv X af (U.set i none) H s'->Q () s'):wpAny M A (do bindName X.env n .none;unbindBehindTheSuite X.env n pos) Q E s:=by
 let#[m,hn,hl]:=id I.loc;have yd:(X.env.scope.kind == .class||(X.env.scope.kind == .module&&X.env.locals != X.env.globals))=false:=by rw[I.ok.kind];rfl
 have jK:=I.jK;have lo:∀{b} {o},X.cZ.heap.get? b=some o->b≠X.env.locals:=λ{b o} e=>acy (acV (aa5 e) I.ok.above)
 refine wpAny_nameGoes_keeps hk hn yd λh' v Ew hs=>?_
 refine h _ #[I.ok,I.os,I.bare,#[λb o e n hb hx=>(hs.2 b (lo e)).trans (I.base.keep b o e n hb hx),λb o e n hb hx=>?_,I.base.free,λb o e hx=>?_,I.base.iM,I.base.iz,I.base.jG],#[_,Ew,λj y v' e1 e2 e3=>?_],λy c e=>?_,I.free,I.gj,λp hp=>?_,
  I.aH.tracked λb u o hb q=>(hs.2 b λz=>by rw[z,I.free] at hb;ext hb).trans q,by simpa using I.len,I.hq]
 .let#[sl,e1]:=I.base.slot b o e n hb hx;apply#[sl,(hs.2 b (lo e)).trans e1]
 .let#[o',e1]:=I.base.there b o e hx;apply#[o',(hs.2 b (lo e)).trans e1]
 .have hj:j≠i:=λz=>by
   subst z;have cI:j<U.length:=by rw[I.len];apply(acN.mp hi).1
   rw[ae0 cI] at e2;ext e2
  rw[ac6 (afW hj)] at e2;let#[u',r',q]:=hl j y v' e1 e2 e3;refine#[u',r',?_];rcases q with⟨k,e⟩|⟨k,c,e,z⟩
  .refine .inl #[k,?_];have:y≠n:=λe=>hj (Il hN e1 (e ▸ hi))
   apply(abm this).trans e
  .exact .inr #[k,c,e,z.sameBut hs (jK y c e)]
 .let#[w',z]:=I.cell y c e;apply#[w',z.sameBut hs (jK y c e)]
 .let#[e,n,ne,nf,d]:=I.pin p hp;apply#[(hs.2 p.1 ne).trans e,n,ne,nf,d]
def yJ(K:Fr)(C D:Addr):Prop:=∃N bm i N' tG i',sI K C N bm i/\sI K D N' tG i'/\tG.contains (.type "BaseException")=true/\(Value.ref C::bm).contains (.ref D)=true
def aeC(L:f6 X af U H a (.ref C) aS s)(cat:yJ X.K C D)(hg:Gl X x)(hm:X.mg x=some (.ref D))(k:R (.ok .brk) s)(fE:(x==("__debug__":Str))=false:=by decide):
  codeAny (model X.prog X.w) (X.A.mark (some (.ref a))) (.handlers (.ref a) [.ExceptHandler (some (.Name x px)) none [] pos] X.env) R s:=by
 let#[_,_,_,_,_,_,#[hC],#[hD],hb,hc]:=cat;have I:=L.known.choose_spec.2.nE a L.known.choose_spec.1.hq;have KI:=L.inv.dU;let#[oe,vs,a0,T,oT,ts,h1,h2,_]:=L.ob;refine codeAny_handlers_test (qI I hg hm ?_ fE);let#[hh,g,d,t,os]:=s;refine abf (KI _ _ hC) (KI _ _ hD) h1 h2 hb ?_;rw[hc];apply k
def agM(L:f6 X af U H a (.ref C) aS s)(hc:X.calm=true)(hx:X.ex=[])(dJ:X.stack=X.env::X.outer)(hf:X.env.frame=some X.env.locals)(cat:yJ X.K C D)(hg:Gl X x)(hm:X.mg x=some (.ref D))
  (hN:X.N.Nodup) (hi:X.N[i]? = some n) (hk:X.env.scope.names.lookup n=some .local)
  (h:∀s5 H5,sS H H5 a (.ref C) aS->Inv (X.nE a) af (U.set i (some (.ref a))) H5 s5->
   wpAny (model X.prog X.w) (X.A.mark (some (.ref a))) (execs (b0::Ff) X.env) (SP (X.nE a) af { nx:=λU H=>W.nx (U.set i none) H,rt:=W.rt,bk:=λU H=>W.bk (U.set i none) H,ct:=λU H=>W.ct (U.set i none) H }) (λ_ _=>False) s5)
  (fE:(x==("__debug__":Str))=false:=by decide) :
  wpAny (model X.prog X.w) X.A (noteFrame (.ref a) X.env) (λ_ s2=>wpAny (model X.prog X.w) X.A (setFlight (.ref a) none) (λ_ s3=>wpAny (model X.prog X.w) X.A (handleBy (.ref a) X.env [.ExceptHandler (some (.Name x px)) (some n) (b0::Ff) pos]) (SP X af W) X.xe s3) X.xe s2) X.xe s:=by
 refine L.afj hx dJ hf λs3 L3=>wpAny_handleBy_cons (aeC L3 cat hg hm ?_ fE) (λz=>nomatch z)
 refine codeAny_handlers_suite_as (L3.again hx λs4 L4=>?_);let#[H5,kn,I4]:=L4.known;have I4:=I4.nE a kn.hq;refine Cr (X:=X.nE a) I4 hN hi (.inl hk) (show RelV (V.ref a) (Value.ref a) from rfl) (λs5 I5=>?_) (.inr hk);refine ad1 (h s5 H5 kn I5) (λf s6 q=>?_) λ_ _ z=>False.elim z
 have fin:∀{i7} {H6}{Z:Shared->Prop},Inv (X.nE a) af i7 H6 s6->(∀s7,Inv X af (i7.set i none) H6 s7->Z s7)->wpAny (model X.prog X.w) X.A (do bindName X.env n .none;unbindBehindTheSuite X.env n pos) (λ_ s7=>Z s7) X.xe s6:=λ{i7 H6 Z} I6 k=>
  Wu (L4.inv.afU hc I6) hN hi hk k
 cases f with
 |next=>let#[i7,H6,I6,q6]:=q;apply fin I6 λs7 I7=>#[_,H6,I7,q6]
 |brk=>let#[i7,H6,I6,q6]:=q;apply fin I6 λs7 I7=>#[_,H6,I7,q6]
 |cont=>let#[i7,H6,I6,q6]:=q;apply fin I6 λs7 I7=>#[_,H6,I7,q6]
 |ret u=>let#[v,i7,H6,I6,r6,q6]:=q;apply fin I6 λs7 I7=>#[v,_,H6,I7,r6,q6]
open PySem PySem.Spec PySem.W PySem.Calls PyProof.Rows Builtin Builtin.ObjectAttr Builtin.Getset_descriptor
structure qd(K:Frag)(C:Addr):Prop where
 ga:findIn K (.ref C) "__getattribute__"=some (some (.builtin "BaseException.__getattribute__"))
 gh:findIn K (.ref C) "__getattr__"=some none
 at_:findIn K (.ref C) "__class__"=some (some (.builtin "object.__class__"))
 get:specialIn K (.builtin "object.__class__") "__get__"=some (some (.builtin "getset_descriptor.__get__"))
 tk:takesIn K (.builtin "object.__class__")=some true
 mo:mroIn K C (.type "object")=some true
 mb:mroIn K C (.type "BaseException")=some true
 cl:(clsIn K C).isSome=true
section
variable{s:Shared}{K:Frag}
def adt(X:K.In s.heap)(hx:s.heap.get? x=some ox)(hc:ox.cls=.ref C)(hm:mroIn K C (.type "object")=some true)
  (h:R (.ok (.ret (.ref C))) s):codeAny (model prog w) A (.call (.builtin "getset_descriptor.__get__") #[[.builtin "object.__class__",.ref x,tp],[]]) R s:=by
 let#[hh,g,dr,t,os]:=s;have L0:Looks (model prog w) hh (typeOf (.ref x)) (.ref C):=hc ▸ (Looks.ld hx).andThen .now;have L1:=looks_mroIn (M:=model prog w) X hm;refine codeAny_call_builtin KF.slot_gs.plain KF.entry_gs (KF.slot_gs.check _ _ _ _ _ _ _ _ KF.type_class (KF.args_gs _ _ _) ?_);unfold Builtin.«getset_descriptor.__get__» descrGet;rw[dga_obj];refine aal (abc ?_);unfold descrGetter descrCheckInstance descrNameAndClass isInstance;simp only[KF.owner_class]
 repeat lk
 refine#[Code.quiet_builtin _ (by decide +kernel),afR KF.entry_class ?_];unfold Builtin.«object.__class__» shownTypeOf
 repeat lk
 apply h
def Xe(X:K.In s.heap)(k:qd K C):Looks (model prog w) s.heap (find (.ref x) (.ref C) "__class__") (.bind (.builtin "getset_descriptor.__get__") (.builtin "object.__class__")):=by
 have L1:=looks_findIn (M:=model prog w) X k.at_;have L2:Looks (model prog w) s.heap (getOf (some (.builtin "object.__class__"))) (some (.builtin "getset_descriptor.__get__")):=looks_specialIn X k.get;have L3:=looks_takesIn (M:=model prog w) X k.tk;apply L1.andThen (L2.andThen ((show Looks (model prog w) s.heap (dataDescriptor? (some (.builtin "object.__class__")) (some (.builtin "getset_descriptor.__get__"))) (some (.builtin "getset_descriptor.__get__",.builtin "object.__class__")) from L3.andThen .now).andThen (Looks.tag .now)))
def acZ(X:K.In s.heap)(k:qd K C)(hx:s.heap.get? x=some ox)(hc:ox.cls=.ref C)(hq:Q () s):wpAny M A (checkBuiltinCall "BaseException.__getattribute__" #[[.ref x,afV],[]]) Q E s:=by
 let#[hh,g,dr,t,os]:=s;have hk:builtinKind "BaseException.__getattribute__"=some .slot:=by decide +kernel
 have aek:splitId "BaseException.__getattribute__"=some ("BaseException","__getattribute__"):=by decide +kernel
 have L0:Looks M hh (typeOf (.ref x)) (.ref C):=hc ▸ (Looks.ld hx).andThen .now;have L1:=looks_mroIn (M:=M) X k.mb;have LI:Looks M hh (isInstance (.ref x) (.type "BaseException")) true:=L0.andThen L1;have ha:=F.args_bexc_ga (.ref x) afV;simp only[checkBuiltinCall,hk,aek];refine aal (LI.at ?_)
 repeat (first|assumption|wp_step)
def ad0(X:K.In s.heap)(k:qd K C)(hx:s.heap.get? x=some ox)(hc:ox.cls=.ref C)(hq:Q (.done (.ret (.ref C))) s):
  wpAny (model prog w) A (Builtin.«object.__getattribute__» #[[.ref x,.str "__class__" tk],[]]) Q E s:=by
 let#[hh,g,dr,t,os]:=s;have L0:Looks (model prog w) hh (typeOf (.ref x)) (.ref C):=hc ▸ (Looks.ld hx).andThen .now;have L1:=Xe (prog:=prog) (w:=w) (x:=x) X k;refine aal (abc (aal (abc (aal (L0.at (aal (L1.at ?_)))))));apply aal (afy (wpAny_call (adt X hx hc k.mo (abc hq))))
def aik(X:K.In s.heap)(k:qd K C)(hx:s.heap.get? x=some ox)(hc:ox.cls=.ref C)(h:Q (some (.ref C)) { s with toks:=s.toks+1 }):wpAny (model prog w) A (getAttr? (.ref x) "__class__") Q E s:=by
 let#[hh,g,dr,t,os]:=s;have L0:Looks (model prog w) hh (typeOf (.ref x)) (.ref C):=hc ▸ (Looks.ld hx).andThen .now;have L1:=looks_findIn (M:=model prog w) X k.ga;have L2:=looks_findIn (M:=model prog w) X k.gh;have f3:=F.attr_ValueError.ga.bind (.ref x);have hx0:(false&&onTheHeap (Value.builtin "BaseException.__getattribute__"))=false:=rfl;have yX:(Value.builtin "BaseException.__getattribute__" == Value.builtin "object.__getattribute__")=false:=by decide +kernel
 have hx1:(onTheHeap (Value.ref C)&&Value.builtin "BaseException.__getattribute__" == Value.builtin "object.__getattribute__")=false:=by rw[yX];rfl
 unfold getAttr? getAttrBy? getAttrBy;refine aal (wpAny_mkText (aal (wpAny_attempt (afy (aal (L0.at (aal (L1.at ?_))))))));dsimp only;rw[abm (by rw[hx1];decide)];unfold getAttrByItsOwn hookBefore;refine aal ?_;rw[if_pos (show onTheHeap (Value.ref C)=true from rfl)];refine L2.at ?_;refine aal (wpAny_attempt (afy ?_));unfold callGetattribute;rw[abm (by rw[hx0];decide)];unfold boundAndCalled;rw[f3];refine aal (abc (wpAny_call ?_));refine codeAny_call_builtin F.attr_ValueError.ga.plain F.entry_bexc_ga (acZ X k hx hc (ad0 X k hx hc ?_));apply abc (abc h)
end
def abn{K:Frag}(k:qd K C):KitX K (.ref x) (.ref C) (λh=>∃o,h.get? x=some o/\o.cls=.ref C) where
 ty:=λ_ _ _ #[o,h1,h2]=>h2 ▸ (Looks.ld h1).andThen .now
 it:=λ_ _ X _=>by
  let#[cd,gI]:=ago.mp k.cl;unfold clsIn at gI
  split at gI
  .rename_i c' d' cd' rH ho;intro A' Q' E' s' k q;unfold isType loadHead;apply aal (wpAny_loadPart (k _ _ (X _ _ ho)) (abc q))
  .cases gI
 ne:=λh tp dd aA n sl X WS=>by
  let#[cd,gI]:=ago.mp k.cl;refine agN.mpr λq=>?_
  have e:=Value.ref.inj (ahd.mp q);subst e;unfold clsIn at gI
  split at gI
  .rename_i c' d' cd' rH ho;have z:=(X _ _ ho).symm.trans WS;ext z
  .cases gI
 ca:=λX #[o,h1,h2] q=>aik X k h1 h2 q
def X8:gO X (.builtin "isinstance") (λxs H Q=>∃a C c cv b de ob,xs=[V.ref a,c]/\(∀u,RelV c u->u=cv)/\H a=some (yh ob a (.ref C) de)/\qd X.K C/\kitOne X.K (.ref C) cv=some b/\Q (.bl b) H):=by
 intro af s U H xs us Q I r h;let#[a,C,c,cv,bb,de,ob,rfl,hc,ha,k,e,q]:=h;let#[u,w',rfl,ru,fu]:=vals2 r;obtain rfl:=hc w' fu;cases(show u=Value.ref a from ru);apply kia_one (abn k) I.dU (ahK I.aH ha) e (λz=>nomatch z) λtk=>#[.bl bb,H,I.tok tk,rfl,q]
def abC(hg:Gl X x)(hm:X.mg x=some (.ref C))(fE:(x==("__debug__":Str))=false:=by decide):PE X (.Name x pos) (λ_ H Q=>Q (.ref C) H):=λaf s U H Q I h=>qI I hg hm #[V.ref C,H,I,(rfl:Value.ref C=Value.ref C),h] fE
end L2
namespace L2.Ev
open PySem PySem.Spec PyProof.Rows
def wk(X:Cx)(st:Stmt):TS:=λW U H=>∀(af) (s),Inv X af U H s->wpAny (model X.prog X.w) X.A (exec st X.env) (SP X af W) X.xe s
def B5{st:Stmt}:PS X st (wk X st):=λaf s _ _ _ I h=>h af s I
def Cq(cn:Str)(g:AF):SF:=λY=>match g Y with
 |some _=>some (.er true (cn,none) Y)
 |none=>none
def vg(hc:X.calm=true)(cl:CP X.K C)(hn:PySem.W.nsIn X.K mainGlobals cn=some (some (.ref C)))(hm:X.mg x=some (.ref C))(ha:FA X (e::es) g)(hl:(e::es).length<=1000:=by decide)(hx:X.ex=[]:=by rfl)(hg:GD X x:=by apply#[rfl,by decide])
  (he:SE X e es fT:=by apply#[rfl,rfl]):fj X (.Raise (some (.Call (.Name x np) (e::es) [] fT)) none pos) (Cq cn g):=by
 let#[t,pa,hz,qa]:=ha;refine#[_,B5,@λH0 S z aq Y U H E o ok e0 k=>?_];unfold Cq at e0;cases h1:g Y with
 |none=>rw[h1] at e0;ext e0
 |some qs=>
  rw[h1] at e0;ext e0;let#[ES,th,kk]:=k;intro af s I;refine aio hc hx th cl hg.1 hm pa hg.2 he.1 he.2 af s U H E I ?_;refine qa ok h1 λH1 vs fp s1 r1 _=>#[?_,kk z U H1 C (ok.same s1) (.refl _ _) hn]
  rw[<- r1.length,List.length_map,hz Y qs h1];apply agc (Co hl)
inductive ER where
 |ok (d:D) (Y:aR)|er (cn:XN) (Y:aR)
def XI(X:Cx)(H0:Hp)(S:List Addr)(aq:List qJ)(U:St)(Q:VK)(E:XK):ER->Prop
 |.ok d Y=>∀z H1 H' v fp,Ok X.K H0 S z aq Y U H1->aJ H1 H'->Rep X.K H' d v fp->dh z H1 .own fp->Q v H'
 |.er cn Y=>∀z H' C,Ok X.K H0 S z aq Y U H'->PySem.W.nsIn X.K mainGlobals cn.1=some (some (.ref C))->E (.ref C) cn.2 H'
abbrev XR:=aR->Option ER
def FE(X:Cx)(e:Expr)(f:XR):Prop:=∃t,PX X e t/\∀{H0} {S} {z} {aq} {Y} {U} {H} {Q} {E} {r},
 Ok X.K H0 S z aq Y U H->f Y=some r->XI X H0 S aq U Q E r->t U H Q E
def Me:tu X (λ_ _ _ _=>False):=λ_ _ _ _ _ _ _ _ z=>z.elim
def Af(i:Nat)(f:XR):SF:=λY=>match f Y with
 |some (.ok d Y')=>some (.nx (iI Y' i d .own))
 |some (.er cn Y')=>some (.er false cn Y')
 |none=>none
def Bk(f:XR):SF:=λY=>match f Y with
 |some (.ok d Y')=>some (.rt d)
 |some (.er cn Y')=>some (.er false cn Y')
 |none=>none
def Dq(i:Nat)(he:FE X e f)(hN:X.N.Nodup)(hi:X.N[i]? = some x:=by rfl)(hx:Loc X.env.scope x:=by first|exact Or.inl rfl|exact Or.inr rfl)
  (hs:swapsWith e (some (.Name x pos')) pos.line X.env=pure false:=by rfl) (hf:X.fn x=true\/X.env.scope.names.lookup x=some .local:=by first|exact .inl rfl|exact .inr rfl) (lu:j7 X x=false:=by rfl):fj X (.Assign [.Name x pos'] e pos) (Af i f):=by
 let#[t,p,q]:=he;exists 23,B5;unfold Af at e;cases h:f Y with
 |none=>rw[h] at e;ext e
 |some r=>
  rw[h] at e;intro af s I;cases r with
  |ok d aP=>
   ext e;refine P9 Me hN hi hx p hs hf af s U H E I ?_;apply q ok h λz1 H1 H2 v fp cM s1 r1 g1=>cM.stored s1 r1 g1 λz' bg=>k z' _ H2 bg (.set hi lu)
  |er cn aP=>
   ext e;let#[ES,th,kk]:=k;refine P9 th hN hi hx p hs hf af s U H E I ?_;apply q ok h λz1 H1 C cM hC=>kk z1 U H1 C cM (.refl _ _) hC
def uK(he:FE X e f):fj X (.Return (some e) pos) (Bk f):=by
 let#[t,p,q]:=he;exists 23,B5;unfold Bk at e;cases h:f Y with
 |none=>rw[h] at e;ext e
 |some r=>
  rw[h] at e;intro af s I;cases r with
  |ok d aP=>
   ext e;refine RI Me p af s U H E I ?_;refine q ok h λz1 H1 H2 v fp cM s1 r1 g1=>k H2 v fp (λa o e n=>s1 _ _ (cM.en a o e n)) r1 g1.1 λa m=>?_
   cases h0:H0 a with
   |none=>apply .inl rfl
   |some o=>
    by_cases hs:a∈S
    .exact .inr hs
    .have w:=cM.en a o h0 hs;rw[g1.2 a m] at w;ext w
  |er cn aP=>
   ext e;let#[ES,th,kk]:=k;refine RI th p af s U H E I ?_;apply q ok h λz1 H1 C cM hC=>kk z1 U H1 C cM (.refl _ _) hC
def BH(i:Nat)(sub:Str->Bool)(f g:SF):SF:=λY=>match f Y with
 | some (.er false cn Y')=>if sub cn.1=true then(match g (Y'.set i (some (.exc cn,.own))) with
  |some (.nx aQ)=>some (.nx (aQ.set i none))
  |some (.bk aQ)=>some (.bk (aQ.set i none))
  |some (.ct aQ)=>some (.ct (aQ.set i none))
  |some (.rt d)=>some (.rt d)
  |_=>none) else none
 |some (.er true _ _)=>none
 |o=>o
def acw{K:Fr}(hC:PySem.W.nsIn K mainGlobals cn.1=some (some (.ref C)))(k:sS H H' a (.ref C) cn.2):Rep K H' (.exc cn) (.ref a) []:=by
 let#[c,aS]:=cn;let#[ob,vs,_,_,k]:=k;cases aS with
 |none=>ext k;apply .exc hC bI λ_ e=>by ext e
 |some n=>let#[dx,ne,_,rfl]:=k;apply .exc hC bI λm e=>by ext e;apply#[dx,rfl,by rw[aM ne,bI]]
def Ok.unset{K:Fr}(ok:Ok K H0 S z aq Y U H)(i:Nat):Ok K H0 S z aq (Y.set i none) (U.set i none) H:=by
 have at_:∀{j} {w},(Y.set i none)[j]? = some (some w)->j≠i/\Y[j]? = some (some w):=λ{j w} e=>by
  have hj:j≠i:=λq=>by
   subst q
   by_cases hl:j<Y.length
   .rw[ae0 hl] at e;ext e
   .rw[aiN (by rw[ahw];apply Nat.le_of_not_lt hl)] at e;ext e
  apply#[hj,by rw[ac6 (afW hj)] at e;apply e]
 refine#[λj d t e=>?_,λp m=>?_,ok.zd,ok.en,by rw[ahw,ahw];apply ok.ln]
 .let#[hj,e]:=at_ e;let#[v,fp,a,b,c]:=ok.sl j d t e;apply#[v,fp,by rw[ac6 (afW hj)];apply a,b,c]
 .let#[r,h]:=ok.hl p m;apply#[r,λa ha j q=>let#[h1,h2]:=h a ha j q;#[h1,λd e=>h2 d (at_ e).2]]
def acW(q:SP (X.kj af R) [] E fl s):SP X af E fl s:=by
 cases fl with
 |next=>let#[aE,H',I,q]:=q;apply#[aE,H',I.pM,q]
 |brk=>let#[aE,H',I,q]:=q;apply#[aE,H',I.pM,q]
 |cont=>let#[aE,H',I,q]:=q;apply#[aE,H',I.pM,q]
 |ret u=>let#[v,aE,H',I,r,q]:=q;apply#[v,aE,H',I.pM,r,q]
def Vw(hb:∀af R,FS (X.kj af R) body f)(I:Inv X af U H s)(ok:Ok X.K H0 S z aq Y U H)(hf:f Y=some o1)
  (k:match o1 with
   |.er true _ _=>False
   |.er false cn Y'=>∀z' aE H' C a s',Ok X.K H0 S z' aq Y' aE H'->Kp X U aE->PySem.W.nsIn X.K mainGlobals cn.1=some (some (.ref C))->f6 X af aE H' a (.ref C) cn.2 s'->
    wpAny (model X.prog X.w) X.A (noteFrame (.ref a) X.env) (λ_ s2=>wpAny (model X.prog X.w) X.A (setFlight (.ref a) none) (λ_ s3=>wpAny (model X.prog X.w) X.A (handleBy (.ref a) X.env [h0]) (SP X af E) X.xe s3) X.xe s2) X.xe s'
   |o=>m6 X H0 S aq U E o) :
  wpAny (model X.prog X.w) X.A (exec (.Try body [h0] [] [] pos) X.env) (SP X af E) X.xe s:=by
 refine wpAny_Try_except ?_;let#[tb,pb,sb]:=hb af (λcls aS aE H'=>∀a s',f6 X af aE H' a cls aS s'->
    wpAny (model X.prog X.w) X.A (noteFrame (.ref a) X.env) (λ_ s2=>wpAny (model X.prog X.w) X.A (setFlight (.ref a) none) (λ_ s3=>wpAny (model X.prog X.w) X.A (handleBy (.ref a) X.env [h0]) (SP X af E) X.xe s3) X.xe s2) X.xe s')
 have x6:tb E U H:=by
  refine sb ok hf ?_;cases o1 with
  |nx Y'=>apply k
  |rt d=>apply k
  |bk Y'=>apply k
  |ct Y'=>apply k
  |er raw cn Y'=>
   cases raw with
   |true=>apply False.elim k
   |false=>apply#[_,afw,λz' aE H' C bg kp hC a s' L=>k z' aE H' C a s' bg kp hC L]
 refine ad1 (pb [] s U H E I.kj x6) (λfl s1 q=>?_) (λev s1 q=>?_)
 .have q':=acW q;cases fl with
  |next=>apply ajr q'
  |brk=>apply q'
  |cont=>apply q'
  |ret u=>apply q'
 .let#[aE,H',a,cls,aS,rfl,L,r]:=q;apply r a s1 L
def af2(i:Nat)(hb:∀af R,FS (X.kj af R) body f)(hs:∀a,FS (X.nE a) (b0::Ff) g)(aiI:∀cn C,sub cn=true->PySem.W.nsIn X.K mainGlobals cn=some (some (.ref C))->yJ X.K C Dc)(hm:X.mg x=some (.ref Dc))(hN:X.N.Nodup)
  (hcm:X.calm=true:=by rfl) (hx:X.ex=[]:=by rfl) (dJ:X.stack=X.env::X.outer:=by rfl) (oW:X.env.frame=some X.env.locals:=by rfl) (hg:Gl X x:=by rfl) (hi:X.N[i]? = some n:=by rfl) (hk:X.env.scope.names.lookup n=some .local:=by rfl) (lu:j7 X n=false:=by rfl) (fE:(x==("__debug__":Str))=false:=by decide) :
  fj X (.Try body [.ExceptHandler (some (.Name x px)) (some n) (b0::Ff) ajm] [] [] pos) (BH i sub f g):=by
 exists 23,B5;intro af s I;unfold BH at e;cases hf:f Y with
 |none=>rw[hf] at e;ext e
 |some o1=>
  rw[hf] at e;refine Vw hb I ok hf ?_;cases o1 with
  |nx Y'=>ext e;apply k
  |rt d=>ext e;apply k
  |bk Y'=>ext e;apply k
  |ct Y'=>ext e;apply k
  |er raw cn Y'=>
   cases raw with
   |true=>ext e
   |false=>
    dsimp only at e ⊢
    by_cases yr:sub cn.1=true
    .rw[if_pos yr] at e;intro z' aE H' C a s' bg kp hC L;refine agM L hcm hx dJ oW (aiI cn.1 C yr hC) hg hm hN hi hk (λs5 H5 kn I5=>?_) fE;let#[ts,ps',ss]:=hs a;refine ps' af s5 _ _ _ I5 ?_;have sm:aJ H' H5:=λb o q=>kn.same L.fr q
     refine bg.stored (i:=i) (t:=.own) sm (acw hC kn) .nil λz5 zI=>?_
     have zI:=zI;have lA:∀{i7},Kp X (aE.set i (some (.ref a))) i7->Kp X U (i7.set i none):=λ{i7} b=>((kp.trans (.set hi lu)).trans b).trans (.set hi lu)
     cases sP:g (Y'.set i (some (.exc cn,.own))) with
     |none=>rw[sP] at e;ext e
     |some o2=>
      rw[sP] at e;refine ss zI sP ?_;cases o2 with
      |nx aQ=>ext e;apply λz6 i7 H6 xE b=>k z6 _ H6 (xE.unset i) (lA b)
      |bk aQ=>ext e;apply λz6 i7 H6 xE b=>k z6 _ H6 (xE.unset i) (lA b)
      |ct aQ=>ext e;apply λz6 i7 H6 xE b=>k z6 _ H6 (xE.unset i) (lA b)
      |rt d=>ext e;apply k
      |er _ _ _=>ext e
    .rw[abm yr] at e;ext e
inductive Rz where
 |ok (d:D)|er (cn:XN)
def iX(K:Fr)(F:List D->Option Rz):Sp:=λvs H Q E=>∃ds fp r,aC K H ds vs fp/\F ds=some r/\match r with
 |.ok d=>∀H' v gC,aJ H H'->Rep K H' d v gC->gC.Nodup->(∀a∈gC,H a=none)->Q v H'
 |.er cn=>∀H' C,aJ H H'->PySem.W.nsIn K mainGlobals cn.1=some (some (.ref C))->E (.ref C) cn.2 H'
def jb(n N:Nat)(b:SF):List D->Option Rz:=λds=>if ds.length=n then(match b (sy N ds) with
 |some (.rt d)=>some (.ok d)
 |some (.nx _)=>some (.ok .aI)
 |some (.er _ cn _)=>some (.er cn)
 |_=>none) else none
section
variable{K:Fr}
def ZI{x qual:Str}{st:Stmt}{f:Addr}{fd:FuncData}{N ps:List Str}{k:Nat}{b:SF}(F:jD K x qual st f fd)(S:rG N ps (c9 st))(sJ:ps.length<=N.length)
  (hb:∀(aU) (A) (outer) (s) (H) (E),bz k (A.deeper (envOfC qual (c9 st) s.heap.objs.size f aU))->FS (gb (fm P w) P w K mg base N qual (c9 st) f aU A outer s H E) (gS st) b) :
  bQ P w K mg base (fm P w) (k+1) f fd ps (iX K (jb ps.length N.length b)):=by
 have sW:∀{ds} {r},jb ps.length N.length b ds=some r->ds.length=ps.length:=λ{ds d} e=>by
  unfold jb at e
  by_cases h:ds.length=ps.length
  .exact h
  .rw[abm h] at e;ext e
 let#[oc,od,kV,doc,pm,an,aU,ct,qm,rfl,lk,gI]:=F.ex;refine Ob lk gI S (λvs H Q E #[ds,fp,r,rs,e,_]=>by rw[<- rs.length];apply sW e) λA outer s H vs Q E hr #[ds,fp,r,rs,e,q]=>?_
 let#[t,p,sd]:=hb aU A outer s H E hr;refine#[t,p,?_];have hl:=sW e;let#[z,ok]:=Ok.lW .nil .nil rs λ_ _ m=>nomatch m
 unfold jb at e;rw[if_pos hl] at e;cases ho:b (sy N.length ds) with
 |none=>rw[ho] at e;ext e
 |some o=>
  rw[ho] at e;refine sd ok ho ?_;cases o with
  |rt d'=>
   ext e;apply λH' v gC en r nd fr=>q H' v gC (λa o e=>en a o e (λm=>nomatch m)) r nd λa m=>(fr a m).resolve_right λm=>nomatch m
  |nx Y'=>
   ext e;apply λz' aE H' bg _=>q H' .aI [] (λa o e=>bg.en a o e (λm=>nomatch m)) .aI acv λa m=>nomatch m
  |bk _=>ext e
  |ct _=>ext e
  |er raw cn Y'=>
   ext e;cases raw with
   |true=>apply#[_,U4,λz' aE H' C bg _ hC=>q H' C (λa o e=>bg.en a o e (λm=>nomatch m)) hC]
   |false=>apply#[_,aie,λz' aE H' C bg _ hC=>q H' C (λa o e=>bg.en a o e (λm=>nomatch m)) hC]
end
inductive RM where
 |ok (r d:D)|er (cn:XN) (d:D)
abbrev MR:=D->List D->Option RM
def lJ(K:Fr)(G:MR):Sp:=λvs H Q E=>∃a ws d0 aO ds cP r,vs=V.ref a::ws/\Rep K H d0 (.ref a) aO/\aO.Nodup/\aC K H ds ws cP/\(∀b∈cP,b∉aO)/\G d0 ds=some r/\match r with
 |.ok r d1=>∀H' v aY,bu H H'->(∀b o,b∉aO->H b=some o->H' b=some o)->Rep K H' d1 (.ref a) aY->aY.Nodup->(∀b∈aY,b∈aO\/H b=none)->Rep K H' r v []->Q v H'
 |.er cn d1=>∀H' C aY,bu H H'->(∀b o,b∉aO->H b=some o->H' b=some o)->Rep K H' d1 (.ref a) aY->aY.Nodup->(∀b∈aY,b∈aO\/H b=none)->PySem.W.nsIn K mainGlobals cn.1=some (some (.ref C))->E (.ref C) cn.2 H'
def bz.mark{k:Nat}{A:Around}(r:bz k A)(v:Option Value):bz k (A.mark v) false:=#[λz=>Bool.noConfusion z,r.dp,r.un,r.gd]
def Bc(T:List (Str×Bool)):D->Option D
 |.exc cn=>(T.lookup cn.1).map .bl
 |_=>none
def AH(K:Fr)(T:List (Str×Bool))(c:Value):Prop:=∀cn b C,T.lookup cn=some b->PySem.W.nsIn K mainGlobals cn=some (some (.ref C))->qd K C/\PySem.W.kitOne K (.ref C) c=some b
def Rm{cv:Value}{c:V}{tc:TE}(hc:∀u,RelV c u->u=cv)(hT:AH X.K T cv)(hm:X.mg "isinstance"=none)(ha:FP X a fa)(pc:PE X (.Name x p2) (λ_ H Q=>Q c H))(hg:Gl X "isinstance":=by rfl)
  (hs:starEach [a,.Name x p2] X.env=[(false,eval a X.env),(false,eval (.Name x p2) X.env)]:=by rfl) (hpl:(backTo pos (starEach [.Name x p2] X.env)).any (·.1)=false:=by rfl):FP X (.Call (.Name "isinstance" p) [a,.Name x p2] [] pos) (e1 (Bc T) fa):=by
 let#[ta,pa,sa]:=ha;have bS:starEach [.Name x p2] X.env=[(false,eval (.Name x p2) X.env)]:=rfl;exists 21,sA X8 hg hm (show bootBuiltins "isinstance"=some (.builtin "isinstance") by decide +kernel) (eO pa (eO pc f7) (by rw[hs,bS])) (he:=by rw[hs,bS]);let#[d1,t1,h1,h2,rfl]:=oB e;refine sa ok h1 λH1 v fp s1 r1 _=>?_
 unfold Bc at h2
 split at h2
 .rename_i cn;cases hl:T.lookup cn.1 with
  |none=>rw[hl] at h2;ext h2
  |some b=>
   rw[hl] at h2;ext h2;cases r1 with
   | @exc _ a' C de ob hn ho _=>
    let#[kk,ke]:=hT cn.1 b C hl hn;apply#[a',C,c,cv,b,de,ob,rfl,hc,ho,kk,ke,k H1 _ [] s1 (.bl _) .nil]
 .cases h2
def zB{C:Addr}(hT:AH X.K T (.ref C))(hm:X.mg "isinstance"=none)(I_:X.mg x=some (.ref C))(ha:FP X a fa)(hg:Gl X "isinstance":=by rfl)(Dk:GD X x:=by apply#[rfl,by decide])
  (hs:starEach [a,.Name x p2] X.env=[(false,eval a X.env),(false,eval (.Name x p2) X.env)]:=by rfl) (hpl:(backTo pos (starEach [.Name x p2] X.env)).any (·.1)=false:=by rfl):FP X (.Call (.Name "isinstance" p) [a,.Name x p2] [] pos) (e1 (Bc T) fa):=
 Rm (tc:=λ_ H Q=>Q (.ref C) H) (c:=.ref C) (λu r=>r) hT hm ha (abC Dk.1 I_ Dk.2) hg hs hpl
def aii{B:String}(hT:AH X.K T (.type B))(hm:X.mg "isinstance"=none)(I_:X.mg x=none)(ha:FP X a fa)(F5:bootBuiltins x=some (.type B):=by decide +kernel)(hg:Gl X "isinstance":=by rfl)(Dk:Gl X x:=by rfl)(hn:x≠"__name__":=by decide)(fE:(x==("__debug__":Str))=false:=by decide)
  (hs:starEach [a,.Name x p2] X.env=[(false,eval a X.env),(false,eval (.Name x p2) X.env)]:=by rfl) (hpl:(backTo pos (starEach [.Name x p2] X.env)).any (·.1)=false:=by rfl):FP X (.Call (.Name "isinstance" p) [a,.Name x p2] [] pos) (e1 (Bc T) fa):=
 Rm (tc:=λ_ H Q=>Q (.ty B) H) (c:=.ty B) (λu r=>r) hT hm ha (P6 Dk I_ F5 rfl hn fE) hg hs hpl
def kJ:List D->Option (List Str)
 |[]=>some []
 |.str x::r=>(kJ r).map λm=>x::m
 |_::_=>none
theorem zX{K:Fr}:∀{ds} {xs} {fp} {ys},aC K H ds xs fp->kJ ds=some ys->xs=ys.map V.str
 |_,_,_,_,.nil,e=>by ext e;rfl
 |_,_,_,ys,.cons (d:=d) h t,e=>by
  cases d with
  |str x=>
   unfold kJ at e;cases q:kJ _ with
   |none=>rw[q] at e;ext e
   |some m=>
    rw[q] at e;ext e;ext h;rw[zX t q];rfl
  |_=>ext e
theorem Nu:∀ys:List Str,kJ (ys.map D.str)=some ys
 |[]=>rfl
 |y::ys=>by
  show(kJ (ys.map D.str)).map (λm=>y::m)=_;rw[Nu ys];rfl
theorem Ny:∀{ys} {us},aT (ys.map V.str) us->StrsAre us ys
 |[],_,r=>by ext r;apply .nil
 |y::ys,_,r=>by
  cases r with
  |cons h t=>
   let#[tk,rfl]:=h;apply .cons y tk (Ny t)
def k9(k:Str)(ys:List Str):Nat:=ys.countP (· == k)
theorem count_eq(k:Str):∀ys:List Str,countIn (.str k) (ys.map PyData.str)=(k9 k ys:Int)
 |[]=>rfl
 |y::ys=>by
  rw[aas,countIn,count_eq k ys];unfold k9;rw[List.countP_cons];have e:same (.str y) (.str k)=(y==k):=by simp[same]
  rw[e];cases h:(y==k)
  .simp
  .simp;omega
def aaS(K:Fr):V->List V->Hp->VK->Prop:=λx vs H Q=>∃(l:Addr) (ys:List Str) (k:Str),x=.ref l/\vs=[.str k]/\ck K H l (ys.map V.str)/\Q (.int (k9 k ys)) H
def ZY{X:Cx}:HL X "list.count" (aaS X.K):=by
 intro af s U H x vs v us Q I rx rv h;let#[l,ys,k,rfl,rfl,hH,q]:=h;ext rx;let#[u,rfl,ru]:=rv.one;let#[t,rfl]:=ru;let#[aA,r,pl,hz]:=I.list hH;refine count_list_strs pl.isList (Ny r) ?_;rw[count_eq];apply#[.int (k9 k ys),H,I.tok _,#[_,rfl],q]
def BZ:D->D->Option D
 |.lst ds,.str k=>(kJ ds).map λys=>.int (k9 k ys)
 |_,_=>none
def T9(ho:FP X o fo)(ha:FP X a fa)(hs:starEach [a] X.env=[(false,eval a X.env)]:=by rfl)(mG:attributeBase o "count" X.env (eval o X.env)=eval o X.env:=by rfl)
  (lK:((backTo p3 (starEach [a] X.env)).all (λx=>!x.1)&&(backToKw p3 (keywordEach [] X.env)).all (λx=>x.1.isSome)&&decide ([a].length+([]:List Keyword).length+(if([]:List Keyword).isEmpty then 0 else 1)<30))=true:=by rfl)
  (mD:(p2.endLine==p3.line)=true:=by rfl):FP X (.Call (.Attribute o "count" p2) [a] [] p3) (e2 BZ fo fa):=by
 let#[to,po,so]:=ho;let#[ta,pa,sa]:=ha;refine#[_,zM PySem.F.plainAttrs_list PySem.F.slot_list_count PySem.F.type_list_count ZY po (eO pa f7 hs) mG lK mD hs rfl,@λH0 S z aq Y U H Q dd tg ok e k=>?_];let#[d1,t1,d2,t2,e1,iV,e3,rfl]:=pY e;unfold BZ at e3
 split at e3
 .rename_i ds ky;cases hS:kJ ds with
  |none=>rw[hS] at e3;ext e3
  |some ys=>
   rw[hS] at e3;ext e3;refine so ok e1 λH1 v fp s1 r1 _=>?_
   let#[l,xs,f,rfl,hq,rs,_]:=r1.dM;have ex:=zX rs hS;subst ex;refine#[.inl #[rfl,_,hq],?_];refine sa (ok.same s1) iV λH2 u i8 s2 r2 _=>?_
   ext r2;let#[l',OQ,f',e',hq2,zF,_]:=(r1.same s2).dM;ext e';have ex:=zX zF hS;subst ex;apply#[l,ys,ky,rfl,rfl,hq2,k H2 _ [] (s1.trans s2) (.int _) .nil]
 .cases e3
def DS(K:Fr)(t:Addr)(ys:List Str):Prop:=∃(o:Obj) (aA:Array Value) (n:Nat),K.lookup t=some o/\o.cls=.type "tuple"/\o.dict=none/\o.data=.seq aA n/\aA.size<=sizeLine/\aT (ys.map V.str) aA.toList
theorem Qd{K:Fr}:∀ys:List Str,aC K H (ys.map D.str) (ys.map V.str) []
 |[]=>.nil
 |y::ys=>.cons (.str y) (Qd ys)
def aa4(hm:X.mg x=some (.ref t))(ht:DS X.K t ys)(hg:GD X x:=by apply#[rfl,by decide]):FP X (.Name x pos) (eC (.tup (ys.map D.str))):=
 #[_,Nf hg.1 hm (v:=.ref t) rfl hg.2,@λ_ _ _ _ _ _ H _ _ _ _ e q=>by ext e;apply q H _ _ (aJ.refl H) (.tup (.inr ht) (Qd ys)) .nil]
def sY(neg:Bool):D->D->Option D
 |.str i,.lst ds=>(kJ ds).map λns=>.bl (if neg=true then !(ns.any (· == i)) else ns.any (· == i))
 |.str i,.tup ds=>(kJ ds).map λns=>.bl (if neg=true then !(ns.any (· == i)) else ns.any (· == i))
 |_,_=>none
def QJ(i:Str)(ns:List Str):vV (.str i) (ns.map V.str)=ns.any (· == i):=by
 unfold vV;rw[aiX];rfl
def Qk(ns:List Str):(ns.map V.str).all nF=true:=by
 rw[ajq];apply adR.mpr λ_ _=>rfl
def QY{K:Fr}{neg:Bool}:gx K (Dv K neg) (sY neg):=by
 intro H x y d1 d2 f1 f2 d Q r1 r2 e k;unfold sY at e
 split at e
 .rename_i i ds;cases hS:kJ ds with
  |none=>rw[hS] at e;ext e
  |some ys=>
   rw[hS] at e;ext e;ext r1;let#[l,xs,f,rfl,hq,rs,_]:=r2.dM;have ex:=zX rs hS;subst ex;refine#[l,_,rfl,.inl hq,rfl,Qk ys,?_];rw[QJ];apply k H _ (aJ.refl H) (.bl _)
 .rename_i i ds;cases hS:kJ ds with
  |none=>rw[hS] at e;ext e
  |some ys=>
   rw[hS] at e;ext e;ext r1;cases r2 with
   |tup hq rs=>
    have ex:=zX rs hS;subst ex;refine#[_,_,rfl,.inr hq,rfl,Qk ys,?_];rw[QJ];apply k H _ (aJ.refl H) (.bl _)
 .cases e
def afF(ha:FP X a fa)(hb:FP X b fb)(hm:behindInMarks .In b=false:=by rfl):FT X (.Compare a [.In] [b] pos) (tV (e2 (sY false) fa fb)):=jn Oj QY ha hb hm
def S1(ha:FP X a fa)(hb:FP X b fb)(hm:behindInMarks .NotIn b=false:=by rfl):FT X (.Compare a [.NotIn] [b] pos) (tV (e2 (sY true) fa fb)):=jn Hs QY ha hb hm
end L2.Ev
namespace L2.Ev
open PySem PySem.W
def NK(q:zp K C=true):∃N bm,sI K C N bm "ValueError.__new__"/\nsOkIn K N=true/\nsIn K N "__init__"=some none/\tailIn K Q2 bm=true:=by
 unfold zp at q;cases h:K.lookup C with
 |none=>rw[h] at q;ext q
 |some o=>
  let#[c,dd,da,#[sl]]:=o;rw[h] at q;ext da<;>try ext q
  rename_i cd;simp only[aaF,ahd] at q;let#[#[#[#[#[#[h1,h2],h3],h4],h5],h6],h7]:=q;let#[nm,bs,mro,ns,qn,hd,sn,sub,ab,col,del]:=cd;ext h4;dsimp only at h2;rw[h1,h2,h3] at h;apply#[ns,_,#[h],h6,h7,h5]
def ab2(q:zp K C=true):CP K C:=by
 let#[N,bm,h]:=NK q;apply#[#[_,_,_,_,bm,N,PySem.F.excBase_ValueError,h]]
def Shape(K:Frag)(C:Addr):Prop:=∃N bm i,sI K C N bm i
def Qi(q:zp K C=true):Shape K C:=by
 let#[N,bm,h,_]:=NK q;apply#[N,bm,_,h]
def Sv(h:sI K C N bm i)(m:mroIn K C v=some true):(Value.ref C::bm).contains v=true:=by
 let#[h]:=h;unfold mroIn clsIn at m;rw[h] at m;dsimp only at m;rw[ac1,abm (by simp)] at m;apply acq m
def X0{C D:Addr}(hC:Shape K C)(hD:Shape K D)(m:mroIn K C (.ref D)=some true)(b:mroIn K D (.type "BaseException")=some true):yJ K C D:=by
 let#[N,bm,i,h1]:=hC;let#[N',tG,i',h2]:=hD;refine#[N,bm,i,N',tG,i',h1,h2,?_,Sv h1 m];have:=Sv h2 b;rw[List.contains_cons] at this;rcases(ajc _ _).mp this with q|q
 .cases ahd.mp q
 .exact q
def NT(names:List Str):Str->Bool:=λcn=>names.contains cn
def afZ(K:Frag)(names:List Str)(Dc:Addr):Prop:=∀cn C,NT names cn=true->nsIn K mainGlobals cn=some (some (.ref C))->yJ K C Dc
def qo(hl:ds.length=n)(h:b (sy N ds)=some (.er raw cn Y)):jb n N b ds=some (.er cn):=by unfold jb;rw[if_pos hl,h]
def agz(m:mroIn K C v=some b):(clsIn K C).isSome=true:=by
 unfold mroIn at m;cases h:clsIn K C with
 |none=>rw[h] at m;ext m
 |some _=>rfl
end L2.Ev
namespace L2.Ev
open PySem PySem.Spec PyProof.Rows
def yw(cn m:Str)(F:List D->Option Rz)(fo:EF)(g:AF):XR:=λY=>match fo Y,g Y with
 | some (.ins c es,_),some ps=>if c=cn/\es.lookup m=none then(match F (.ins c es::ps.map (·.1)) with
  |some (.ok d)=>some (.ok d Y)
  |some (.er en)=>some (.er en Y)
  |none=>none) else none
 |_,_=>none
def qV(hC:ClsAt X.K cn C)(hm:kD X.K C m f)(GG:bQ X.prog X.w X.K X.mg X.base (fm X.prog X.w) k f fd ps (iX X.K F))(hr:bz k X.A)(hb:Binds X.K fd ps [])(ho:FP X.f_ o fo)(ha:FA X.f_ (e::es) g)(hx:X.ex=[]:=by rfl)
  (dJ:SE X e es pos:=by apply#[rfl,rfl])
  (ht:wo X o m apos (e::es) pos pl:=by apply rfl):FE X (.Call (.Attribute o m apos) (e::es) [] pos) (yw cn m F fo g):=by
 let#[to,po,so]:=ho;let#[ta,pa,_,qa]:=ha;refine#[_,Wm po hC.cl hm GG hr hx hb .nil pa dJ.1 dJ.2 ht,@λH0 S z aq Y U H Q E r ok e0 kk=>?_];unfold yw at e0
 split at e0
 .rename_i c su t0 qs h1 h2
  by_cases hc:c=cn/\su.lookup m=none
  .rw[if_pos hc] at e0;let#[rfl,hml]:=hc;cases h3:F (.ins c su::qs.map (·.1)) with
   |none=>rw[h3] at e0;ext e0
   |some w=>
    rw[h3] at e0;refine so ok h1 λH1 v fp s1 r1 _=>?_
    let#[b,dx,fs,gf,rfl,rfl,h4,h5,h6,h7]:=r1.kQ hC.ns;refine#[b,dx,fs,rfl,h4,tL h6 hml,?_];refine qa (ok.same s1) h2 λH2 vs i8 s2 r2 _=>?_
    rw[acU];cases w with
    |ok d=>
     ext e0;apply#[_,_,_,.cons (r1.same s2) r2,h3,λH3 u gC s3 r3 nd fr=>kk z H2 H3 u gC ((ok.same s1).same s2) s3 r3 #[nd,fr]]
    |er en=>
     ext e0;apply#[_,_,_,.cons (r1.same s2) r2,h3,λH3 C3 s3 hn=>kk z H3 C3 (((ok.same s1).same s2).same s3) hn]
  .rw[abm hc] at e0;ext e0
 .cases e0
def BL(fa fh:EF):EF:=λY=>match fa Y,fh Y with
 |some (.lst ds,_),some (.int i,_)=>if aK ds=true then some (.lst (cutD ds (some i) none),.own) else none
 |_,_=>none
def ahB(ha:FP X a fa)(hh:FP X b fh):FP X (.Subscript a (.Slice (some b) none none p2) pos) (BL fa fh):=by
 let#[t,p,q]:=ha;let#[th,ph,qh]:=hh;exists 21,Bo DJ p (IX ph) IZ;unfold BL at e
 split at e
 .rename_i ds t1 i t2 e1 e2;let#[hi,e]:=ci e;ext e;refine q ok e1 λH1 x f1 s1 r1 _=>?_
  refine qh (ok.same s1) e2 λH2 y f2 s2 r2 _=>?_
  ext r2;refine#[i,rfl,?_];let#[w,xs,f,rfl,hq,rs,_]:=(r1.same s2).dM;have hn:=rs.aB hi;subst hn;refine#[w,xs,rfl,hq,λp hp=>?_];have s3:aJ H2 (upd H2 p (.lst (gk xs (some i) none))):=λb o e=>by rw[aM (cO e hp)];apply e
  have rr:aC X.K H2 (cutD ds (some i) none) (gk xs (some i) none) []:=by
   unfold cutD gk;rw[rs.length];apply aC.vS _ (aC.wj _ rs)
  refine k _ _ [p] ((s1.trans s2).trans s3) (.lst bI (rr.same s3)) #[ab3.mpr #[(λm=>by ext m),acv],λa m=>?_];cases aaK.mp m;apply s1.free (s2.free hp)
 .cases e
def BU(X:Cx)(e:Expr)(f:aR->Option (Bool×aR)):Prop:=∃t,PT X e t/\∀{H0} {S} {z} {aq} {Y} {U} {H} {Q} {b} {Y'},
 Ok X.K H0 S z aq Y U H->f Y=some (b,Y')->(∀z' H',Ok X.K H0 S z' aq Y' U H'->Q b H')->t U H Q
def NS{n:Int}(h:n.natAbs<2 ^ 64):n.natAbs.log2<1920:=by
 rcases Nat.eq_zero_or_pos n.natAbs with z|z
 .rw[z];decide
 .exact acV ((Nat.log2_lt (by omega)).mpr h) (by decide)
def aC.PU{K:Fr}{H:Hp}:∀{ds:List D}{vs:List V}{fp:List Addr}{i:Nat}{d:D},aC K H ds vs fp->ds[i]? = some d->∃v f,vs[i]? = some v/\Rep K H d v f/\f.Sublist fp
 |_,_,_,_,_,.nil,e=>by simp at e
 |_,_,_,0,_,.cons (f2:=f2) h t,e=>by
  cases acq e;apply#[_,_,rfl,h,List.sublist_append_left _ _]
 |_,_,_,i+1,d,.cons h t,e=>by
  let#[v,f,e1,r,s]:=aC.PU (i:=i) (d:=d) t (by simpa using e);apply#[v,f,by simpa using e1,r,s.trans (List.sublist_append_right _ _)]
def Ea(fa fb:EF):EF:=λY=>match fa Y,fb Y with
 |some (.lst ds,.own),some (.int i,_)=>(d7 ds i).map λd=>(d,.own)
 |_,_=>none
def Rr{X:Cx}{a b:Expr}{fa fb:EF}{pos:Pos}(ha:FP X a fa)(hb:FP X b fb)(hs:E5 b:=by apply λ_ _=>rfl):FP X (.Subscript a b pos) (Ea fa fb):=by
 let#[ta,pa,sa]:=ha;let#[tb,pb,sb]:=hb;exists 20,Lc Uq pa pb hs;unfold Ea at e
 split at e
 .rename_i ds i t2 e1 iV;cases e3:d7 ds i with
  |none=>rw[e3] at e;ext e
  |some d'=>
   rw[e3] at e;ext e;refine sa ok e1 λH1 x f1 s1 r1 g1=>?_
   refine sb (ok.same s1) iV λH2 y f2 s2 r2 _=>?_
   have r1:=r1.same s2;ext r2;unfold d7 at e3;cases h:lR ds.length i with
   |none=>rw[h] at e3;ext e3
   |some j=>
    rw[h,ac1] at e3;cases r1 with
    |lst hq rs=>
     let#[v,f',hv,rv,hm]:=rs.PU e3;have g1:(_::_:List Addr).Nodup/\∀a∈_,H a=none:=g1;refine .inl #[_,_,i,v,rfl,rfl,ck.of hq,?_,q H2 v f' (s1.trans s2) rv #[hm.nodup (ab3.mp g1.1).2,λa m=>g1.2 a (aao _ (hm.subset m))]];unfold d7;rw[<- rs.length,h,ac1];apply hv
 .cases e
section
variable(P:Program)(w:World)(K:Fr)(mg:Str->Option Value)(base:Heap)(CX:qX)(k:Nat)
def FN(x:Str)(ps:List Str)(sp:Sp)(cm:Bool:=true):Prop:=∃a fd,bQ P w K mg base CX k a fd ps sp cm/\mg x=some (.ref a)/\PySem.W.keepIn K (.ref a)=true/\Binds K fd ps []
def MT(C:Addr)(x:Str)(ps:List Str)(sp:Sp)(cm:Bool:=true):Prop:=∃a fd,bQ P w K mg base CX k a fd ps sp cm/\Binds K fd ps []/\kD K C x a
def MI(C:Addr)(ps:List Str)(sp:Sp)(cm:Bool:=true):Prop:=∃a fd,bQ P w K mg base CX k a fd ps sp cm/\Binds K fd ps []/\Mk K C a
end
def GL(K:Fr)(x q:Str)(st:Stmt)(f:Addr):Prop:=∃oc od kV dc pm an cd ct sl,K.lookup f=some #[oc,od,.func (PySem.W.fnOf x q (lZ st) (gS st) (c9 st) .none kV dc pm an cd ct),sl]/\PySem.W.codeIn K cd q=true/\PySem.W.keepIn K (.ref f)=true
def Ln(K:Fr)(x:Str)(st:Stmt):Prop:=∃f,PySem.W.nsIn K mainGlobals x=some (some (.ref f))/\GL K x x st f
def GM(K:Fr)(C:Addr)(x q:Str)(st:Stmt):Prop:=∃f,PySem.W.findIn K (.ref C) x=some (some (.ref f))/\PySem.W.isFn K (.ref f)=true/\GL K x q st f
abbrev BA(x q:Str)(st:Stmt)(ps:List Str):Prop:=∀(kV doc pm) (an) (aU ct) (us),us.length=ps.length->bindArgs (PySem.W.fnOf x q (lZ st) (gS st) (c9 st) .none kV doc pm an aU ct) #[us,[]]=pure (ps.zip us)
def GQ{K:Fr}{x q:Str}{st:Stmt}{f:Addr}(l:GL K x q st f):PySem.W.keepIn K (.ref f)=true/\∃fd,jD K x q st f fd:=by
 let#[oc,od,kV,dc,pm,an,cd,ct,sl,h1,h2,h3]:=l;apply#[h3,_,Mx h1 h2 h3]
section
variable{K:Fr}{st:Stmt}
def Q4(X:K.In h)(G:h.Ns mainGlobals mg)(l:Ln K x st)(ok:∀{f} {fd},jD K x x st f fd->bQ P w K mg base CX k f fd ps sp cm)(b:BA x x st ps):FN P w K mg base CX k x ps sp cm:=by
 let#[f,a,l]:=l;let#[kp,fd,F]:=GQ l;apply#[f,fd,ok F,PySem.W.mg_of X G a,kp,F.binds b]
def RZ(l:GM K C x q st)(ok:∀{f} {fd},jD K x q st f fd->bQ P w K mg base CX k f fd ps sp cm)(b:BA x q st ps):MT P w K mg base CX k C x ps sp cm:=by
 let#[f,a,i,l]:=l;let#[kp,fd,F]:=GQ l;apply#[f,fd,ok F,F.binds b,#[a,i,kp]]
def af4{sp:Heap->Sp}(X:K.In h)(G:h.Ns mainGlobals mg)(Lw:mg "law"=some (.ref fa))(l:Ln K "law" st)
  (b:∀(kV doc pm) (an) (aU ct) (s) (v),BindsTo s (PySem.W.fnOf "law" "law" (lZ st) (gS st) (c9 st) .none kV doc pm an aU ct) #[[v],[]] [(p,v)])
  (ok:∀base:Heap,K.In base->base.Ns mainGlobals mg->∀{f} {fd},jD K "law" "law" st f fd->bQ P w K mg base CX k f fd [p] (sp base) cm) :
  ∃fd:FuncData,(∀(s) (v),BindsTo s fd #[[v],[]] [(p,v)])/\∀base:Heap,K.In base->base.Ns mainGlobals mg->bQ P w K mg base CX k fa fd [p] (sp base) cm:=by
 let#[f,a,oc,od,kV,dc,pm,an,cd,ct,sl,h1,h2,h3]:=l;have e:=Lw.symm.trans (PySem.W.mg_of X G a);ext e;apply#[_,b kV dc pm an cd ct,λbase K1 G1=>ok base K1 G1 (Mx h1 h2 h3)]
end
def pA(h1:g d t Y=some aP)(h2:f aP=some (.nx aQ)):cY g t f (d::ds) Y=cY g t f ds aQ:=by
 conv=>lhs;unfold cY
 rw[h1];dsimp only;rw[h2]
def OT(h1:g d t Y=some aP)(h2:f aP=some (.rt r)):cY g t f (d::ds) Y=some (.rt r):=by
 unfold cY;rw[h1];dsimp only;rw[h2]
end L2.Ev
namespace L2
open PySem PySem.Spec PyProof.Rows
def Inv.freeze(I:Inv X af U H s)(h:H a=some (.lst xs)):∃o,Inv X af U (upd H a (.cG o (.lst xs))) s:=by
 let#[hz,aA,n,rv,ho]:=I.aH a _ h;have ne:∀{b} {o},H b=some o->(∀xs,o≠.lst xs)->b≠a:=λ{b o} q n z=>by rw[z,h] at q;ext q;apply n _ rfl
 have nn:∀{b},H b=none->b≠a:=λ{b} q z=>by rw[z,h] at q;ext q
 refine#[{ cls:=.type "list",data:=.seq aA.toArray n },I.ok,I.os,I.bare,#[I.base.keep,I.base.slot,λb o q n hx=>?_,I.base.there,λb xs q=>?_,λb o u q=>?_,λb ps q=>?_],I.loc,I.cell,?_,λx c q=>?_,λp hp=>?_,λb o q=>?_,I.len,I.hq.mono (λb o u q=>by rw[aM (ne q λ_=>by simp)];apply q) λb t q=>by rw[aM (ne q λ_=>by ext t<;>intro z<;>ext z)];apply q]
 .have w:=I.base.free b o q n hx;rw[aM (nn w)];apply w
 .have w:=I.base.iM b xs q;rw[aM (ne w λ_=>by ext xs<;>intro z<;>ext z)];apply w
 .have w:=I.base.iz b o u q;rw[aM (ne w λ_=>by simp)];apply w
 .let#[more,w]:=I.base.jG b ps q;apply#[more,by rw[aM (ne w λ_=>by simp)];apply w]
 .rw[aM (nn I.free)];apply I.free
 .have w:=I.gj x c q;rw[aM (nn w)];apply w
 .let#[p1,p2,p3]:=I.pin p hp;apply#[p1,by rw[aM (nn p2)];apply p2,p3]
 .by_cases z:b=a
  .subst z;rw[bI] at q;ext q;apply#[ho,hz,aA,n,rv,ho]
  .rw[aM z] at q;apply(I.aH b o q).fS (λ_ _ _ q=>q) (λc q=>by rw[aM (ne q λ_=>by simp)];apply q) λc xs q=>by rw[aM (ne q λ_=>by ext xs<;>intro z<;>ext z)];apply q
def Vv(t:TE):TE:=λU H Q=>t U H λx H1=>∃a xs,x=.ref a/\H1 a=some (.lst xs)/\∀o,Q x (upd H1 a (.cG o (.lst xs)))
def ada(h:PE X e t):PE X e (Vv t):=λaf s U H Q I hw=>
 cL (h af s U H _ I hw) λu s1 #[x,H1,I1,r,a,xs,e1,ha,q]=>by
  let#[o,J]:=I1.freeze ha;apply#[x,_,J,r,q o]
def Y3(x:Str)(te:TE):TE:=λU H Q=>te U H λv H1=>∃n:Int,v=.int n/\n.natAbs.log2<1920/\Q (.str (Str.empty++x++Str.ofString (toString n))) H1
def Xd(hx:x.length<=1000)(he:PE X e te):PE X (.JoinedStr [.Constant (.str x) j p1,.FormattedValue e (-1) none p2] p3) (Y3 x te):=by
 intro af s U H Q I h;have l0:(Str.empty++x).length=x.length:=by rw[ajx];show 0+_=_;omega
 refine JoinedStr_many (joinParts_cons (Calls.Constant_str #[by rw[l0,afm];omega,?_]));refine joinParts_cons (FormattedValue_plain (wH (he af _ U H _ (I.tok _) h) λu s1 v H1 I1 r q=>?_));let#[n,e1,e2,q]:=q;subst e1;let#[t,rfl]:=r;have l1:=int_text_length_le (by decide) e2;have l2:(Str.empty++x++Str.ofString (toString n)).length<=sizeLine:=by
  rw[ajx,l0,PySem.ofString_length,afm];omega
 refine formatField_int_small e2 #[l2,?_];apply joinParts_nil #[.str _,H1,I1.tok _,#[_,rfl],q] l2
namespace Ev
def IJ(x:Str):D->Option D
 |.int n=>if n.natAbs<2 ^ 64 then some (.str (Str.empty++x++Str.ofString (toString n))) else none
 |_=>none
def Z7(hx:x.length<=1000)(h:FP X e f):FP X (.JoinedStr [.Constant (.str x) j p1,.FormattedValue e (-1) none p2] p3) (e1 (IJ x) f):=by
 let#[t,p,q]:=h;refine#[_,Xd hx p,@λH0 S z aq Y U H Q d tg ok e0 k=>?_];let#[d1,t1,h1,h2,rfl]:=oB e0;unfold IJ at h2
 split at h2
 .rename_i n
  by_cases hn:n.natAbs<2 ^ 64
  .rw[if_pos hn] at h2;ext h2;refine q ok h1 λH1 v fp s1 r1 _=>?_
   ext r1;apply#[n,rfl,NS hn,k H1 _ [] s1 (.str _) .nil]
  .rw[abm hn] at h2;ext h2
 .cases h2
def k_(f:EF):EF:=λY=>match f Y with
 |some (.lst ds,.own)=>if aK ds=true then some (.bX ds,.own) else none
 |_=>none
def vJ(h:FP X e f):FP X e (k_ f):=by
 let#[t,p,q]:=h;refine#[_,ada p,@λH0 S z aq Y U H Q d tg ok e0 k=>?_];unfold k_ at e0
 split at e0
 .rename_i ds h1
  by_cases hi:aK ds=true
  .rw[if_pos hi] at e0;ext e0;refine q ok h1 λH1 v fp s1 r1 g1=>?_
   cases r1 with
   | @lst c xs _ f' hc rs=>
    have hn:=rs.aB hi;subst hn;refine#[c,xs,rfl,hc,λo=>k _ _ [] (λb o' e'=>?_) (.xT (.inl #[o,bI]) (rs.frame (λa m=>nomatch m) (bu.upd hc rfl))) .nil];have fresh:=g1.2 c aap;rw[aM (cO e' fresh)];apply s1 _ _ e'
  .rw[abm hi] at e0;ext e0
 .cases e0
def xq(ft:TF)(fz:aR->Option (Bool×aR)):aR->Option (Bool×aR):=λY=>match ft Y with
 |some true=>fz Y
 |some false=>some (false,Y)
 |none=>none
def acI(ha:FT X a ft)(hb:BU X b fz):BU X (.BoolOp .And [a,b] pos) (xq ft fz):=by
 let#[t,p,q]:=ha;let#[t',p',q']:=hb;refine#[_,(Pk p (MG p')).pt,@λH0 S z aq Y U H Q c Y' ok e k=>?_];unfold xq at e
 split at e
 .rename_i h1;refine q ok h1 λH1 s1=>?_
  rw[if_pos rfl];apply q' (ok.same s1) e k
 .rename_i h1;ext e;refine q ok h1 λH1 s1=>?_
  rw[abm aa3];apply k z H1 (ok.same s1)
 .cases e
end Ev
namespace Zt
section
variable{prog:Program}{w:World}{A:Around}{E:Value->Shared->Prop}{s:Shared}
def drawn{it t:Addr}{i:Nat}{items:Array Value}{x:Value}{Q:Value->Shared->Prop}(hit:s.heap.IsTupleIter it t i)(ht:s.heap.IsTuple t items)(hx:items[i]? = some x)
  (hQ:∀h',h'.IsTupleIter it t (i+1)->Heap.SameBut it s.heap h'->Q x { s with heap:=h' }):wpAny (model prog w) A (Builtin.SmallTypes.nextOf (.ref it)) Q E s:=by
 let#[oi,ei,ci,di]:=id hit;let#[ot,et,_,nt,dt]:=ht;unfold Builtin.SmallTypes.nextOf;refine aal (agy (name:=Str.ofString "__next__") hit.typeIs ahT (ah3 ahT hit.typeIs F.entry_tuple_iterator_next ?_ (F.args_tuple_iterator_next_1 _)));show wpAny _ _ (field (.ref it) 0 >>= λv=>_) _ _ s;refine aal (agp ei di (x:=.ref t) rfl ?_);refine wpAny_ite_split (λz=>absurd z aa3) λ_=>?_
 show wpAny _ _ (field (.ref it) 1 >>= λv=>_) _ _ s;refine aal (agp ei di (x:=.int i 0) rfl ?_);refine aal (ag0 et dt ?_);simp only[ajA,hx];refine aal (wpAny_setField ei di (by simp) (abc #[x,rfl,abc (hQ _ #[_,ag5 _ ei (Obj.isFreed_of_fields (Obj.data_mapFields di _)),(Obj.cls_mapFields ..).trans ci,?_] (Heap.SameBut.update ..))]));rw[Obj.data_mapFields di];simp[rawInt]
def ended{it t:Addr}{i:Nat}{items:Array Value}{Q:Value->Shared->Prop}(hh:A.handled=none)(hit:s.heap.IsTupleIter it t i)(ht:s.heap.IsTuple t items)(hx:items[i]? = none)
  (hE:∀h' e,Heap.ExtBut it s.heap h'->(∃o,h'.get? e=some o/\o.cls=.type "StopIteration")->E (.ref e) { s with heap:=h' }):wpAny (model prog w) A (Builtin.SmallTypes.nextOf (.ref it)) Q E s:=by
 let#[oi,ei,ci,di]:=id hit;let#[ot,et,_,nt,dt]:=ht;have sG:A.in1.handled=none:=hh;unfold Builtin.SmallTypes.nextOf;refine aal (agy (name:=Str.ofString "__next__") hit.typeIs ahT (ah3 ahT hit.typeIs F.entry_tuple_iterator_next ?_ (F.args_tuple_iterator_next_1 _)));show wpAny _ _ (field (.ref it) 0 >>= λv=>_) _ _ s;refine aal (agp ei di (x:=.ref t) rfl ?_);refine wpAny_ite_split (λz=>absurd z aa3) λ_=>?_
 show wpAny _ _ (field (.ref it) 1 >>= λv=>_) _ _ s;refine aal (agp ei di (x:=.int i 0) rfl ?_);refine aal (ag0 et dt ?_);simp only[ajA,hx];refine aal (ajy (aal (wpAny_setField ei di (by simp) ?_)));unfold Builtin.SmallTypes.stopIteration;refine aal ?_;unfold newExc newTuple;refine aal (aeN ?_ (by size_fits));refine aal (m:=firstArgMember _ _) (wpAny_of_eq (a:=Value.none) (by first|(simp only[firstArgMember];rfl)|rfl) ?_);refine aeN ?_ (by size_fits);unfold raiseNew;refine aal (wpAny_handled ?_);rw[sG];apply aal (abc (wpAny_throw (hE _ _ (((Heap.SameBut.update ..).extBut.push _).push _) #[_,abx _ rfl,rfl])))
def step{z TI TO i1 i2 l1 l2:Addr}{k:Nat}{xs ys:Array Value}{a b:Value}{Q:Fin->Shared->Prop}(D:ZipApart z TI TO i1 i2 l1 l2)
  (hz:IsZip s.heap z TI TO .none) (GV:IsPair s.heap TI (.ref i1) (.ref i2)) (Jt:IsPair s.heap TO a b)
  (h1:s.heap.IsTupleIter i1 l1 k) (h2:s.heap.IsTupleIter i2 l2 k) (t1:s.heap.IsTuple l1 xs) (t2:s.heap.IsTuple l2 ys)
  (hQ:∀x y h',xs[k]? = some x->ys[k]? = some y->IsZip h' z TI TO (rawInt s.heap.objs.size)->IsPair h' TO x y->h'.IsTupleIter i1 l1 (k + 1)->h'.IsTupleIter i2 l2 (k + 1)->IsPair h' s.heap.objs.size x y->
   (∀c o,c∉[z,TO,i1,i2]->s.heap.get? c=some o->h'.get? c=some o)->Q (.done (.ret (.ref s.heap.objs.size))) { s with heap:=h' })
  (hE:(xs[k]? = none\/ys[k]? = none)->A.handled=none/\∀h' e,(∀c o,c∉[z,TO,i1,i2]->s.heap.get? c=some o->h'.get? c=some o)->(∃o,h'.get? e=some o/\o.cls=.type "StopIteration")->E (.ref e) { s with heap:=h' }) :
  wpAny (model prog w) A (Builtin.«zip.__next__» #[[.ref z],[]]) Q E s:=by
 show wpAny _ _ (field (.ref z) 2 >>= λv=>_) _ _ _;refine aal (agp hz rfl (x:=.bool false) rfl ?_);show wpAny _ _ (field (.ref z) 3 >>= λv=>_) _ _ _;refine aal (agp hz rfl (x:=.ref TI) rfl (aal (ag0 GV rfl ?_)));show wpAny _ _ (Builtin.SmallTypes.ownedTupleIsFree (.ref z) >>= λv=>_) _ _ _;refine aal ?_;unfold Builtin.SmallTypes.ownedTupleIsFree;refine aal (agp hz rfl (x:=.none) rfl (abc ?_));simp only[if_true];refine aal (ajy (aal (agp hz rfl (x:=.ref TO) rfl (aal (ai6 hz (by simp) λg1 z1 b1=>?_)))));have Gu:IsZip g1 z TI TO .ellipsis:=z1;have D1:=D;let#[TIz,TOz,i1z,i2z,TITO,TIi1,TIi2,TOi1,TOi2,i12,l1z,l1TO,l1i1,l1i2,l2z,l2TO,l2i1,l2i2]:=D1;refine aal ?_;simp only[List.zipIdx_cons,List.zipIdx_nil,List.forIn_cons,List.forIn_nil];refine aal (aal (wpAny_onRaise ?_));show wpAny _ _ (Builtin.SmallTypes.nextOf (.ref i1) >>= λv=>_) _ _ _;cases hx:xs[k]? with
 |none=>
  let#[hh,fin]:=hE (.inl hx);refine aal (ended hh (h1.extBut b1.extBut i1z) (t1.extBut b1.extBut l1z) hx ?_)
  rintro g2 e b2 ⟨oe,he,ce⟩
  have z2:IsZip g2 z TI TO .ellipsis:=b2 _ _ i1z.symm Gu;have ez:e≠z:=λq=>by subst q;rw[z2] at he;ext he;simp at ce
  refine ai6 z2 (by simp) λg3 _ b3=>fin g3 e (λc o m q=>?_) #[oe,b3.extBut _ _ ez he,ce]
  simp only[aat,acO,afH,not_or] at m;apply b3.extBut _ _ m.1 (b2 _ _ m.2.2.1 (b1.extBut _ _ m.1 q))
 |some x=>
  refine aal (drawn (h1.extBut b1.extBut i1z) (t1.extBut b1.extBut l1z) hx λg2 Yo b2=>abc ?_);have o2:IsPair g2 TO a b:=b2.extBut _ _ TOi1 (b1.extBut _ _ TOz Jt);refine aal (ag0 o2 rfl (aal (wpAny_updateSeq_pair o2 λg3 o3 b3=>aal (ajC (abc ?_)))));have o3':IsPair g3 TO x b:=o3;refine aal (aal (wpAny_onRaise ?_));show wpAny _ _ (Builtin.SmallTypes.nextOf (.ref i2) >>= λv=>_) _ _ _;have j2:g3.IsTupleIter i2 l2 k:=((h2.extBut b1.extBut i2z).extBut b2.extBut i12.symm).extBut b3.extBut TOi2.symm;have u2:g3.IsTuple l2 ys:=((t2.extBut b1.extBut l2z).extBut b2.extBut l2i1).extBut b3.extBut l2TO;cases hy:ys[k]? with
  |none=>
   let#[hh,fin]:=hE (.inr hy);refine aal (ended hh j2 u2 hy ?_)
   rintro g4 e b4 ⟨oe,he,ce⟩
   have z4:IsZip g4 z TI TO .ellipsis:=b4 _ _ i2z.symm (b3.extBut _ _ TOz.symm (b2.extBut _ _ i1z.symm Gu));have ez:e≠z:=λq=>by subst q;rw[z4] at he;ext he;simp at ce
   refine ai6 z4 (by simp) λg5 _ b5=>fin g5 e (λc o m q=>?_) #[oe,b5.extBut _ _ ez he,ce]
   simp only[aat,acO,afH,not_or] at m;apply b5.extBut _ _ m.1 (b4 _ _ m.2.2.2 (b3.extBut _ _ m.2.1 (b2.extBut _ _ m.2.2.1 (b1.extBut _ _ m.1 q))))
  |some y=>
   refine aal (drawn j2 u2 hy λg4 k2 b4=>abc ?_);have o4:IsPair g4 TO x b:=b4.extBut _ _ TOi2 o3';refine aal (ag0 o4 rfl (aal (wpAny_updateSeq_pair o4 λg5 o5 b5=>aal (ajC (abc (abc ?_))))));have Qg:IsPair g5 TO x y:=o5;refine aal (ag0 Qg rfl (aal (wpAny_newTuple ?_)));have sz:g5.objs.size=s.heap.objs.size:=by rw[b5.1,b4.1,b3.1,b2.1,b1.1]
   have z5:IsZip g5 z TI TO .ellipsis:=b5.extBut _ _ TOz.symm (b4.extBut _ _ i2z.symm (b3.extBut _ _ TOz.symm (b2.extBut _ _ i1z.symm Gu)));have zl:g5.objs.size≠z:=agF (aa5 z5);show wpAny _ _ (Builtin.SmallTypes.ownedTupleHandOut (.ref z) (.ref g5.objs.size) >>= λv=>_) _ _ _;refine aal ?_;unfold Builtin.SmallTypes.ownedTupleHandOut;have z6:IsZip (g5.push { cls:=.type "tuple",data:=.seq ([x,y].toArray) }) z TI TO .ellipsis:=aak _ z5;refine aal (ai6 z6 (by simp) λg7 z7 b7=>?_);have z7':IsZip g7 z TI TO (rawInt g5.objs.size):=z7;refine ai6 z7' (by simp) λg8 z8 b8=>?_
   have Ux:IsZip g8 z TI TO (rawInt g5.objs.size):=z8;have up:∀c o,c≠z->g5.get? c=some o->g8.get? c=some o:=λc o n q=>b8.extBut _ _ n (b7.extBut _ _ n (aak _ q))
   have new:IsPair g8 g5.objs.size x y:=b8.extBut _ _ zl (b7.extBut _ _ zl (abx _ rfl));rw[sz] at Ux new;have r1:g5.IsTupleIter i1 l1 (k+1):=((Yo.extBut b3.extBut TOi1.symm).extBut b4.extBut i12).extBut b5.extBut TOi1.symm;have r2:g5.IsTupleIter i2 l2 (k+1):=k2.extBut b5.extBut TOi2.symm;refine abc ?_;show Q (.done (.ret (.ref g5.objs.size))) _;rw[sz];refine hQ x y g8 hx hy Ux (up _ _ TOz Qg) (r1.at λo q=>up _ o i1z q) (r2.at λo q=>up _ o i2z q) new λc o m q=>?_
   simp only[aat,acO,afH,not_or] at m;apply up c o m.1 (b5.extBut _ _ m.2.1 (b4.extBut _ _ m.2.2.2 (b3.extBut _ _ m.2.1 (b2.extBut _ _ m.2.2.1 (b1.extBut _ _ m.1 q)))))
end
end Zt
namespace Zt
section
variable{prog:Program}{w:World}{A:Around}{E:Value->Shared->Prop}{s:Shared}
def zH(h:Heap)(l1 l2:Addr):Heap:=
 ((((h.push { cls:=.type "tuple_iterator",data:=.fields ([.ref l1,.int 0 0].toArray) }).push { cls:=.type "tuple_iterator",data:=.fields ([.ref l2,.int 0 0].toArray) }).push { cls:=.type "tuple",data:=.seq ([.ref h.objs.size,.ref (h.objs.size + 1)].toArray) }).push
  { cls:=.type "tuple",data:=.seq ([.none,.none].toArray) }).push { cls:=.type "zip",data:=.fields ([.none,.bool false,.bool false,.ref (h.objs.size+2),.ref (h.objs.size+3)].toArray) }
def xx(h:Heap)(o:Obj):(h.push o).objs.size=h.objs.size+1:=aiO ..
def ZN(l1 l2:Addr)(xs ys:Array Value):Meets (Builtin.«zip.__new__» #[[.type "zip",.ref l1,.ref l2],[]]) (λ_ R s=>s.heap.IsTuple l1 xs/\s.heap.IsTuple l2 ys/\
  R (.ok (.ret (.ref (s.heap.objs.size+4)))) { s with heap:=zH s.heap l1 l2 }):=
 .of_wp λprog w A R s h=>by
  let#[hp,g,d,tk,os]:=s;let#[z_,oE,h]:=h;have yr:=sub_zip;have L1:Heap.IsTuple (Shared.heap #[hp,g,d,tk,os]) l1 xs:=z_;have L2:Heap.IsTuple (Shared.heap #[hp.push { cls:=.type "tuple_iterator",data:=.fields ([.ref l1,.int 0 0].toArray) },g,d,tk,os]) l2 ys:=Heap.IsTuple.push oE _
  wp_walk using wpAny_pyIter_tuple L1,wpAny_pyIter_tuple L2
  refine#[_,rfl,?_];unfold zH at h;simp only[xx] at h ⊢;apply h
def call2{l1 l2:Addr}{xs ys:Array Value}{Q:Value->Shared->Prop}(t1:s.heap.IsTuple l1 xs)(t2:s.heap.IsTuple l2 ys)
  (h:∀h',IsZip h' (s.heap.objs.size + 4) (s.heap.objs.size + 2) (s.heap.objs.size + 3) .none->IsPair h' (s.heap.objs.size + 2) (.ref s.heap.objs.size) (.ref (s.heap.objs.size + 1))->IsPair h' (s.heap.objs.size + 3) .none .none->
   h'.IsTupleIter s.heap.objs.size l1 0->h'.IsTupleIter (s.heap.objs.size+1) l2 0->(∀c o,s.heap.get? c=some o->h'.get? c=some o)->Q (.ref (s.heap.objs.size+4)) { s with heap:=h' }) :
  wpAny (model prog w) A (call (.type "zip") [.ref l1,.ref l2]) Q E s:=by
 refine callType_new F.called_zip (by decide) (F.typeCall_zip_2 _ _) (F.newCall_zip_2 _ _) (λobj=>F.args_object_init_3 obj _ _) F.entry_zip_new (ZN l1 l2 xs ys) #[t1,t2,?_];have at_:∀{h:Heap}{o:Obj}{n:Nat},h.objs.size=n->(!o.isFreed)=true->(h.push o).get? n=some o:=λ{h o n} e f=>by subst e;apply abx _ (by simpa using f)
 have g5:IsZip (zH s.heap l1 l2) (s.heap.objs.size+4) (s.heap.objs.size+2) (s.heap.objs.size+3) .none:=at_ (by simp only[xx]) rfl;have g4:IsPair (zH s.heap l1 l2) (s.heap.objs.size+3) .none .none:=aak _ (at_ (by simp only[xx]) rfl);have g3:IsPair (zH s.heap l1 l2) (s.heap.objs.size+2) (.ref s.heap.objs.size) (.ref (s.heap.objs.size+1)):=aak _ (aak _ (at_ (by simp only[xx]) rfl));have g2:(zH s.heap l1 l2).IsTupleIter (s.heap.objs.size+1) l2 0:=#[_,aak _ (aak _ (aak _ (at_ (by simp only[xx]) rfl))),rfl,rfl]
 have g1:(zH s.heap l1 l2).IsTupleIter s.heap.objs.size l1 0:=#[_,aak _ (aak _ (aak _ (aak _ (at_ rfl rfl)))),rfl,rfl]
 apply#[#[_,g5,rfl],h _ g5 g3 g4 g1 g2 λc o q=>aak _ (aak _ (aak _ (aak _ (aak _ q))))]
def next{z TI TO i1 i2 l1 l2:Addr}{k:Nat}{xs ys:Array Value}{a b:Value}{Q:Option Value->Shared->Prop}(D:ZipApart z TI TO i1 i2 l1 l2)
  (hz:IsZip s.heap z TI TO .none) (GV:IsPair s.heap TI (.ref i1) (.ref i2)) (Jt:IsPair s.heap TO a b)
  (h1:s.heap.IsTupleIter i1 l1 k) (h2:s.heap.IsTupleIter i2 l2 k) (t1:s.heap.IsTuple l1 xs) (t2:s.heap.IsTuple l2 ys)
  (hQ:∀x y h',xs[k]? = some x->ys[k]? = some y->IsZip h' z TI TO (rawInt s.heap.objs.size)->IsPair h' TO x y->h'.IsTupleIter i1 l1 (k + 1)->h'.IsTupleIter i2 l2 (k + 1)->IsPair h' s.heap.objs.size x y->
   (∀c o,c∉[z,TO,i1,i2]->s.heap.get? c=some o->h'.get? c=some o)->Q (some (.ref s.heap.objs.size)) { s with heap:=h' })
  (hE:(xs[k]? = none\/ys[k]? = none)->A.handled=none/\∀h',(∀c o,c∉[z,TO,i1,i2]->s.heap.get? c=some o->h'.get? c=some o)->Q none { s with heap:=h' }) :
  wpAny (model prog w) A (pyNext (.ref z)) Q E s:=by
 have ty:s.TypeIs (.ref z) "zip":=#[_,hz,rfl]
 unfold pyNext;refine aal (wpAny_attempt (agy (name:=Str.ofString "__next__") ty F.slot_zip_next (ah3 F.slot_zip_next ty F.entry_zip_next (step D hz GV Jt h1 h2 t1 t2 ?_ ?_) (F.args_zip_next_1 _))))
 .exact λx y h' e1 e2 a1 a2 a3 a4 a5 a6=>#[_,rfl,abc (hQ x y h' e1 e2 a1 a2 a3 a4 a5 a6)]
 .intro en;let#[hh,fin]:=hE en;apply#[hh,λh' e kp #[o,ho,hc]=>aal (wpAny_isInstance (T:="StopIteration") (b:=true) #[o,ho,hc] isSubtype_stop (abc (fin _ kp)))]
def whole{t sl:Addr}{items:Array Value}{vl vu:Value}{lo hi:Option Int}{Q:Value->Shared->Prop}(ht:IsTup s.heap t items)(hs:s.heap.IsSliceOf sl vl vu .none)(pl:IsPart vl lo)(pu:IsPart vu hi)
  (hw:HT.bB items.size 0 lo=0/\HT.bB items.size items.size hi=items.size) (h:Q (.ref t) s):wpAny (model prog w) A (getItem (.ref t) (.ref sl)) Q E s:=by
 let#[os,oN,oZ,yL]:=id hs;have EW:s.TypeIs (.ref sl) "slice":=#[os,oN,oZ]
 unfold getItem
 try with_reducible refine afy ?_
 first|refine aal (abc ?_)|skip
 refine aal (wpAny_sequenceKey ht.typeIs (by decide) ?_);refine aal (agy (name:=Str.ofString "__getitem__") ht.typeIs ae6
  (ah3 ae6 ht.typeIs entry_tuple_getitem ?_ (args_tuple_getitem _ _)))
 show wpAny _ _ (Builtin.Tuple.tupleItemsOf (.ref t) >>= λv=>_) _ _ s;refine aal (tupleItemsOf_ ht ?_);refine aal (aja EW ?_);rw[if_pos (by decide)];refine aal (HT.OB hs pl pu ?_);rw[hw.1,hw.2];show wpAny _ _ (if(((0:Nat):Int)==0&&(1:Int)==1&&(items.size-0)==items.size)=true then _ else _) _ _ s;rw[if_pos (by simp)];unfold Builtin.Tuple.tupleIsExact;refine aal (aal (aja ht.typeIs (abc ?_)));rw[if_pos (by simp)];apply aal (ajy (abc #[_,rfl,abc h]))
end
end Zt
def aba(K:Fr):V->Option Int->Option Int->Hp->VK->Prop:=λx lo hi H Q=>∃a xs,x=.ref a/\bK K H a xs/\(HT.bB xs.length 0 lo=0/\HT.bB xs.length xs.length hi=xs.length)/\Q (.ref a) H
def ab9{X:Cx}:qS X (aba X.K):=by
 intro af s U H x v vl vu lo hi sl Q I rx hs pl pu h;let#[a,xs,rfl,hx,hw,q]:=h;ext rx;let#[aA,r,ht,hz]:=I.tuple hx;have hlen:aA.toArray.size=xs.length:=by rw[ab0];apply r.length.symm
 apply#["tuple",_,ae6.lookup,ht.typeIs,Zt.whole ht hs pl pu (by rw[hlen];apply hw) #[.ref a,H,I,rfl,q]]
def Ia(K:Fr)(l1 l2:Addr):It:=
  #[λi H=>∃xs ys x y,bK K H l1 xs/\bK K H l2 ys/\xs[i]? = some x/\ys[i]? = some y,
   λi H v H'=>∃T a b,H T=none/\v=.ref T/\H'=upd H T (.tup [a,b])/\(∀xs,bK K H l1 xs->xs[i]? = some a)/\∀ys,bK K H l2 ys->ys[i]? = some b,
   λi H=>∃xs ys,bK K H l1 xs/\bK K H l2 ys/\(xs.length<=i\/ys.length<=i),false]
def ae8(z TI TO i1 i2 l1 l2:Addr)(i:Nat)(h:Heap):Prop:=IsZip h z TI TO .none/\IsPair h TI (.ref i1) (.ref i2)/\(∃a b,IsPair h TO a b)/\h.IsTupleIter i1 l1 i/\h.IsTupleIter i2 l2 i
def ags{P:Program}{w:World}{K:Fr}{elts:List Expr}{x1}{pos:Pos}{z TI TO i1 i2 l1 l2:Addr}(D:ZipApart z TI TO i1 i2 l1 l2):
  Turn P w K (.Tuple elts x1 pos) (Ia K l1 l2) [z,TI,TO,i1,i2] z (ae8 z TI TO i1 i2 l1 l2) where
 mem:=by simp
 obj:=λi h st b hb=>by
  let#[s1,s2,#[a,b',s3],#[o4,e4,c4,d4],#[o5,e5,c5,d5]]:=st;simp only[aat,acO,afH] at hb;rcases hb with rfl|rfl|rfl|rfl|rfl
  .exact#[_,s1,λv q=>by ext q]
  .exact#[_,s2,λv q=>by ext q]
  .exact#[_,s3,λv q=>by ext q]
  .exact#[o4,e4,λv q=>by rw[d4] at q;ext q]
  .exact#[o5,e5,λv q=>by rw[d5] at q;ext q]
 keep:=λi h h' st k=>by
  let#[s1,s2,#[a,b',s3],s4,s5]:=st;apply#[k _ (by simp) _ s1,k _ (by simp) _ s2,#[a,b',k _ (by simp) _ s3],s4.at λo e=>k _ (by simp) o e,s5.at λo e=>k _ (by simp) o e]
 item:=by
  intro X hP hw hK hc i af s U H E I hf st hg;subst hP hw hK;let#[s1,s2,#[a,b',s3],s4,s5]:=st;let#[xs,ys,x,y,q1,q2,e1,e2]:=hg;let#[us,v1,p1,z1]:=I.tuple q1;let#[ws,v2,p2,z2]:=I.tuple q2;let#[u,hu,ru]:=v1.get e1;let#[t,ht,rt]:=v2.get e2;refine Zt.next D s1 s2 s3 s4 s5 (show s.heap.IsTuple l1 us.toArray from p1) (show s.heap.IsTuple l2 ws.toArray from p2) (λu' t' h' f1 f2 a1 a2 a3 a4 a5 a7=>#[_,rfl,?_]) λz=>?_
  .have LG:us[i]? = some u':=by simpa using f1
   have Ue:ws[i]? = some t':=by simpa using f2
   rw[hu] at LG;rw[ht] at Ue;ext LG;ext Ue;refine wpAny_letOwnedTupleGo_zip a1 λmY b1 b2=>?_
   have lz:z < s.heap.objs.size:=aa5 s1;have nz:s.heap.objs.size≠z:=agF lz;have T2:IsPair mY s.heap.objs.size u t:=b2.extBut _ _ nz a5;have nT:H s.heap.objs.size=none:=I.aH.fresh (aa9 _);have I1:Inv X af U (upd H s.heap.objs.size (.tup [x,y])) { s with heap:=mY }:=I.Sz (t':=s.toks) (ch:=[z,TO,i1,i2]) (λb m=>hf b (by
     simp only[aat,acO,afH] at m ⊢;rcases m with rfl|rfl|rfl|rfl<;>simp)) (λb o m e=>b2.extBut _ _ (λq=>m (by rw[q];apply aap)) (a7 b o m e)) (aa9 _)
     (show dz X.prog X.w _ mY _ (.tup [x,y]) from#[show 2<=sizeLine by unfold sizeLine;omega,[u,t],.cons ru (.cons rt .nil),#[_,T2,rfl,rfl,_,rfl]])
   refine#[.ref s.heap.objs.size,_,I1,rfl,#[_,x,y,nT,rfl,rfl,λOQ h=>by rw[I.GX h q1];apply e1,λys' h=>by rw[I.GX h q2];apply e2],?_,λb m=>?_]
   .have up:∀c o,c≠z->h'.get? c=some o->mY.get? c=some o:=λc o n e=>b2.extBut _ _ n e
    apply#[b1,up _ _ D.TIz (a7 TI _ (by simp[D.TIz,D.TITO,D.TIi1,D.TIi2]) s2),#[u,t,up _ _ D.TOz a2],a3.at λo e=>up _ o D.i1z e,a4.at λo e=>up _ o D.i2z e]
   .rw[aM]
    .exact(hf b m).1
    .rintro rfl
     let#[o4,e4,_]:=id s4;let#[o5,e5,_]:=id s5;simp only[aat,acO,afH] at m;rcases m with m|m|m|m|m
     .exact nz m
     .exact absurd (aa5 s2) (by rw[<- m];apply aeM _)
     .exact absurd (aa5 s3) (by rw[<- m];apply aeM _)
     .exact absurd (aa5 e4) (by rw[<- m];apply aeM _)
     .exact absurd (aa5 e5) (by rw[<- m];apply aeM _)
  .have z1:us[i]? = none\/ws[i]? = none:=by simpa using z
   rw[hu,ht] at z1;rcases z1 with z1|z1<;>ext z1
 done:=by
  intro X hP hw hK hc i af s U H E I hf st hg;subst hP hw hK;let#[s1,s2,#[a,b',s3],s4,s5]:=st;let#[xs,ys,q1,q2,e]:=hg;let#[us,v1,p1,z1]:=I.tuple q1;let#[ws,v2,p2,z2]:=I.tuple q2;have l1:=v1.length;have l2:=v2.length;refine Zt.next D s1 s2 s3 s4 s5 (show s.heap.IsTuple _ us.toArray from p1) (show s.heap.IsTuple _ ws.toArray from p2) (λu' t' h' f1 f2=>?_) λ_=>#[I.ok.hd (hc.resolve_right λz=>aa3 z),λh' k=>#[rfl,I.GC (t':=s.toks) (ch:=[z,TO,i1,i2]) (λb m=>hf b (by
    simp only[aat,acO,afH] at m ⊢;rcases m with rfl|rfl|rfl|rfl<;>simp)) k]]
  have g1:=(acN.mp (show us[i]? = some u' by simpa using f1)).1;have g2:=(acN.mp (show ws[i]? = some t' by simpa using f2)).1;omega
 self:=λ_ _ _ _ _ st h=>ajn st.1 h
section
variable{X:Cx}{elts:List Expr}{tp:Pos}{a b:Expr}{ta:TA}{p pos:Pos}
def ahF(K:Fr)(ta:TA):TI:=λU H R=>ta U H λvs H1=>∃l1 l2 xs ys,vs=[.ref l1,.ref l2]/\((ck K H1 l1 xs/\ck K H1 l2 ys/\R (y_ K l1 l2) H1)\/(bK K H1 l1 xs/\bK K H1 l2 ys/\R (Ia K l1 l2) H1))
def abV{x1}(hg:Gl X "zip")(hm:X.mg "zip"=none)(ha:PA X [a,b] ta)(hs:starEach [a,b] X.env=[(false,eval a X.env),(false,eval b X.env)]:=by rfl)(bS:starEach [b] X.env=[(false,eval b X.env)]:=by rfl):
  PI X (.Tuple elts x1 tp) (.Call (.Name "zip" p) [a,b] [] pos) (ahF X.K ta):=by
 intro af s U H R I h;refine afo (nZ I hg hm boot_zip (afr (ha.n I h λus s1 vs H1 I1 r1 q1=>?_) (by rw[hs,bS]) (by rw[bS];rfl)));let#[l1,l2,xs,ys,rfl,q]:=q1;let#[u,v,rfl,ru,rv]:=vals2 r1;ext ru;ext rv;have up:∀j,iw X af H1 (s1.heap.objs.size+j):=λj=>I1.pN (Nat.le_add_right _ _) (I1.aH.fresh (Nat.le_add_right _ _))
 have cP:∀c∈[s1.heap.objs.size+4,s1.heap.objs.size+2,s1.heap.objs.size+3,s1.heap.objs.size,s1.heap.objs.size+1],iw X af H1 c:=λc hc=>by
  simp only[aat,acO,afH] at hc;rcases hc with rfl|rfl|rfl|rfl|rfl
  .exact up 4
  .exact up 2
  .exact up 3
  .exact up 0
  .exact up 1
 rcases q with⟨h1,h2,q⟩|⟨h1,h2,q⟩
 .let#[us,v1,p1,z1]:=I1.list h1;let#[ws,v2,p2,z2]:=I1.list h2;have b1:l1<s1.heap.objs.size:=let#[o,n,e,_]:=p1;aa5 e
  have b2:l2<s1.heap.objs.size:=let#[o,n,e,_]:=p2;aa5 e
  refine call_zip_2 p1.isList p2.isList λh' g1 g2 g3 g4 g5 g6 k=>?_
  refine ajn g1 ?_;apply#[_,_,_,_,H1,rfl,I1.kept (t':=s1.toks) k,Uy (zipApart_new b1 b2),#[g1,g2,#[_,_,g3],g4,g5],cP,q]
 .let#[us,v1,p1,z1]:=I1.tuple h1;let#[ws,v2,p2,z2]:=I1.tuple h2;have b1:l1<s1.heap.objs.size:=let#[o,e,_]:=p1;aa5 e
  have b2:l2<s1.heap.objs.size:=let#[o,e,_]:=p2;aa5 e
  refine Zt.call2 (show s1.heap.IsTuple l1 us.toArray from p1) (show s1.heap.IsTuple l2 ws.toArray from p2) λh' g1 g2 g3 g4 g5 k=>?_
  refine ajn g1 ?_;apply#[_,_,_,_,H1,rfl,I1.kept (t':=s1.toks) k,ags (zipApart_new b1 b2),#[g1,g2,#[_,_,g3],g4,g5],cP,q]
end
end L2
namespace L2.Ev
open PySem PySem.Spec PyProof.Rows
section
variable{X:Cx}{elts:List Expr}{tp:Pos}{a b:Expr}{fa fb:EF}{p pos:Pos}
def DZ(fa fb:EF):IF:=λY=>match fa Y,fb Y with
 |some (.lst ds,t1),some (.lst es,t2)=>if(aK ds&&aK es)=true then some ((ds.zip es).map λp=>.tup [p.1,p.2],iU [(.lst ds,t1),(.lst es,t2)]) else none
 |some (.tup ds,t1),some (.tup es,t2)=>if(aK ds&&aK es)=true then some ((ds.zip es).map λp=>.tup [p.1,p.2],iU [(.tup ds,t1),(.tup es,t2)]) else none
 |_,_=>none
def adA{K:Fr}{l1 l2:Addr}{ds es:List D}{f1 f2:List Addr}(c1:aK ds=true)(c2:aK es=true):
  n6 K (Ia K l1 l2) ((ds.zip es).map λp=>.tup [p.1,p.2]) [#[.tup ds,.ref l1,f1],#[.tup es,.ref l2,f2]]:=by
 intro H i hh;let#[p1,xs,e1,q1,r1]:=(hh _ aap).gY;let#[p2,ys,e2,q2,r2]:=(hh _ (aao _ aap)).gY;ext e1;ext e2;have n1:=r1.aB c1;have n2:=r2.aB c2;dsimp only at n1 n2 r1 r2;subst n1 n2;refine#[λd hd=>?_,λhl=>?_]
 .rw[acB] at hd;cases hz:(ds.zip es)[i]? with
  |none=>rw[hz] at hd;ext hd
  |some pr=>
   rw[hz] at hd;ext hd;let#[k1,k2]:=aiP.mp hz;let#[x,hx,rx]:=r1.uz k1;let#[y,hy,ry]:=r2.uz k2;refine#[#[xs,ys,x,y,q1,q2,hx,hy],λv H1 hv=>?_];let#[T,a,b,hT,rfl,rfl,ha,hb]:=hv;have ea:=ha xs q1;have eb:=hb ys q2;rw[hx] at ea;rw[hy] at eb;ext ea;ext eb;have s2:aJ H (upd H T (.tup [x,y])):=λb o e=>by rw[aM (cO e hT)];apply e
   apply#[s2,[],.tup (bK.of bI) (aC.cons (f1:=[]) (f2:=[]) (rx.same s2) (aC.cons (f1:=[]) (f2:=[]) (ry.same s2) .nil)),λa m=>nomatch m]
 .rw[List.length_map,ajw,r1.length,r2.length] at hl;apply#[xs,ys,q1,q2,by omega]
def Ve{x1}(hm:X.mg "zip"=none)(ha:FP X a fa)(hb:FP X b fb)(hg:Gl X "zip":=by rfl)(hs:starEach [a,b] X.env=[(false,eval a X.env),(false,eval b X.env)]:=by rfl)(bS:starEach [b] X.env=[(false,eval b X.env)]:=by rfl):
  FI X (.Tuple elts x1 tp) (.Call (.Name "zip" p) [a,b] [] pos) (DZ fa fb):=by
 let#[t,pa,hlen,q]:=ai ha (ai hb ay bS) (by rw[hs,bS]);exists 24,abV hg hm pa hs bS;unfold DZ at e
 split at e
 .rename_i d1 t1 d2 t2 h1 h2
  by_cases hc:(aK d1&&aK d2)=true
  .rw[if_pos hc] at e;ext e;let#[c1,c2]:=(aaF _ _).mp hc;refine q ok (by unfold au aD;rw[h1,h2]) λH1 vs fp s1 r g=>?_
   cases r with
   | @cons _ v1 _ _ f1 _ r1 r=>
    cases r with
    | @cons _ v2 _ _ f2 _ r2 r=>
     ext r;let#[l1,xs,g1,rfl,q1,_,_]:=r1.dM;let#[l2,ys,g2,rfl,q2,_,_]:=r2.dM;refine#[l1,l2,xs,ys,rfl,.inl #[q1,q2,k H1 _ [#[.lst d1,.ref l1,f1],#[.lst d2,.ref l2,f2]] s1 (λh m=>?_) (TR c1 c2)]];have go:=g.over ok;rcases aat.mp m with rfl|m
     .exact#[r1,λa ma=>go a (aaZ _ ma)]
     .cases aaK.mp m;apply#[r2,λa ma=>go a (aaM _ (aaZ _ ma))]
  .rw[abm hc] at e;ext e
 .rename_i d1 t1 d2 t2 h1 h2
  by_cases hc:(aK d1&&aK d2)=true
  .rw[if_pos hc] at e;ext e;let#[c1,c2]:=(aaF _ _).mp hc;refine q ok (by unfold au aD;rw[h1,h2]) λH1 vs fp s1 r g=>?_
   cases r with
   | @cons _ v1 _ _ f1 _ r1 r=>
    cases r with
    | @cons _ v2 _ _ f2 _ r2 r=>
     ext r;let#[l1,xs,rfl,q1,_]:=r1.gY;let#[l2,ys,rfl,q2,_]:=r2.gY;refine#[l1,l2,xs,ys,rfl,.inr #[q1,q2,k H1 _ [#[.tup d1,.ref l1,f1],#[.tup d2,.ref l2,f2]] s1 (λh m=>?_) (adA c1 c2)]];have go:=g.over ok;rcases aat.mp m with rfl|m
     .exact#[r1,λa ma=>go a (aaZ _ ma)]
     .cases aaK.mp m;apply#[r2,λa ma=>go a (aaM _ (aaZ _ ma))]
  .rw[abm hc] at e;ext e
 .cases e
def xQ(lo hi:Option Int):D->Option D
 |.lst ds=>if aK ds=true then some (.lst (cutD ds lo hi)) else none
 |.bX ds=>if aK ds=true then some (.lst (cutD ds lo hi)) else none
 |.tup ds=>if aK ds=true then some (.tup (cutD ds lo hi)) else none
 |_=>none
def Od{lo hi:Option Expr}{l h:Option Int}{p2:Pos}(hl:vo X lo l)(hh:vo X hi h)(ha:FP X a fa):FP X (.Subscript a (.Slice lo hi none p2) pos) (e1 (xQ l h) fa):=by
 let#[t,p,q]:=ha;let#[tl,pl,ql]:=hl;let#[th,ph,qh]:=hh;exists 21,Bo (DJ.or (abO.or ab9)) p pl ph;let#[d1,t1,g1,g2,rfl]:=oB e;refine q ok g1 λH1 x f1 s1 r1 _=>?_
 refine ql U H1 _ (qh U H1 _ ?_);have fin:∀{ds:List D}{xs:List V}{f:List Addr}{w:Addr},aC X.K H1 ds xs f->ck X.K H1 w xs->(if aK ds=true then some (D.lst (cutD ds l h)) else none)=some d->JZ X.K (.ref w) l h H1 Q:=λ{ds xs f w} rs hq e=>by
  by_cases hi:aK ds=true
  .rw[if_pos hi] at e;ext e;have hn:=rs.aB hi;subst hn;refine#[w,xs,rfl,hq,λp hp=>?_];have s2:aJ H1 (upd H1 p (.lst (gk xs l h))):=λb o e=>by rw[aM (cO e hp)];apply e
   have rr:aC X.K H1 (cutD ds l h) (gk xs l h) []:=by
    unfold cutD gk;rw[rs.length];apply aC.vS _ (aC.wj _ rs)
   refine k _ _ [p] (s1.trans s2) (.lst bI (rr.same s2)) #[ab3.mpr #[(λm=>by ext m),acv],λa m=>?_];cases aaK.mp m;apply s1.free hp
  .rw[abm hi] at e;ext e
 cases d1 with
 |lst ds=>
  let#[w,xs,f,rfl,hq,rs,_]:=r1.dM;apply .inl (fin rs hq g2)
 |bX ds=>
  let#[w,xs,rfl,hq,rs]:=r1.nU;apply .inl (fin rs hq g2)
 |tup ds=>
  let#[w,xs,rfl,hq,rs]:=r1.gY;have g2:(if aK ds=true then some (D.tup (cutD ds l h)) else none)=some d:=g2
  by_cases hi:aK ds=true
  .rw[if_pos hi] at g2;ext g2;have hn:=rs.aB hi;subst hn;have rr:aC X.K H1 (cutD ds l h) (gk xs l h) []:=by
    unfold cutD gk;rw[rs.length];apply aC.vS _ (aC.wj _ rs)
   by_cases hw:HT.bB xs.length 0 l=0/\HT.bB xs.length xs.length h=xs.length
   .refine .inr (.inr #[w,xs,rfl,hq,hw,k _ _ [] s1 ?_ #[acv,λa m=>by ext m]]);have:gk xs l h=xs:=by
     unfold gk;rw[hw.1,hw.2];simp
    rw[this] at rr;apply .tup hq rr
   .refine .inr (.inl #[w,xs,rfl,hq,hw,λp hp=>?_]);have s2:aJ H1 (upd H1 p (.tup (gk xs l h))):=λb o e=>by rw[aM (cO e hp)];apply e
    apply k _ _ [] (s1.trans s2) (.tup (bK.of bI) (rr.same s2)) #[acv,λa m=>by ext m]
  .rw[abm hi] at g2;ext g2
 |_=>ext g2
def IL:D->Option D
 |.lst ds=>if aK ds=true then some (.tup ds) else none
 |.bX ds=>if aK ds=true then some (.tup ds) else none
 |.tup ds=>if aK ds=true then some (.tup ds) else none
 |_=>none
def aeG:qY X.K (λxs H Q=>∃p ys,xs=[V.ref p]/\((ck X.K H p ys/\∀l,H l=none->Q (.ref l) (upd H l (.tup ys)))\/(bK X.K H p ys/\Q (.ref p) H))) IL:=by
 intro H x d1 f1 d Q r e k;cases d1 with
 |lst ds=>apply Ei H x (.lst ds) f1 d Q r e k
 |tup ds=>apply Ei H x (.tup ds) f1 d Q r e k
 |bX ds=>
  let#[a,xs,rfl,hq,rs]:=r.nU;have e:(if aK ds=true then some (D.tup ds) else none)=some d:=e
  by_cases hi:aK ds=true
  .rw[if_pos hi] at e;ext e;have hn:=rs.aB hi;subst hn;refine#[a,xs,rfl,.inl #[hq,λl hl=>?_]];have s2:aJ H (upd H l (.tup xs)):=λb o e=>by rw[aM (cO e hl)];apply e
   apply k _ _ [] s2 (.tup (bK.of bI) (rs.same s2)) acv λa m=>nomatch m
  .rw[abm hi] at e;ext e
 |_=>ext e
def Fe{p:Pos}(hm:X.mg "tuple"=none)(ha:FP X a fa)(hg:Gl X "tuple":=by rfl)(hs:starEach [a] X.env=[(false,eval a X.env)]:=by rfl):FP X (.Call (.Name "tuple" p) [a] [] pos) (e1 IL fa):=
 fp_1 aeG ha λta pa=>xg OE hg hm (show bootBuiltins "tuple"=some (.type "tuple") by decide +kernel) (eO pa f7 hs) (he:=hs) (hpl:=rfl)
end
end L2.Ev
namespace L2
open PySem PySem.Spec PyProof.Rows
def Inv.Yb(I:Inv X af U H s)(ha:H a=some (.dK ak))(ho:s.heap.get? a=some o):Inv X af U (upd H a (.cG o (.dK ak))) s:=
 I.write (h':=s.heap) (t':=s.toks) (o:=.cG o (.dK ak)) (x:=a) (e:=a) (by rw[ha];trivial) (.inl rfl) (λ_ _ _ q=>q) #[o,ho] #[ho,I.aH a _ ha]
def Inv.YW(I:Inv X af U H s)(ha:H a=some (.cG o (.dK ak)))(h0:∀o u,X.oY a≠some (.cG o u))(hd:X.A.handled=none):Inv X af U (upd H a (.dK ak)) s:=by
 have nn:∀{b},H b=none->upd H a (.dK ak) b=none:=λ{b} e=>by rw[aM (λq=>by rw[q,ha] at e;ext e)];apply e
 have ne:∀{b} {u},H b=some u->(∀o',u≠.cG o' (.dK ak))->upd H a (.dK ak) b=some u:=λ{b u} e n=>by
  rw[aM (λq=>by rw[q,ha] at e;ext e;apply n _ rfl)];apply e
 refine#[I.ok,I.os,I.bare,#[I.base.keep,I.base.slot,λb o e n hx=>nn (I.base.free b o e n hx),I.base.there,λb xs e=>ne (I.base.iM b xs e) (λ_ q=>by ext xs<;>ext q),λb o u e=>?_,λb ps e=>?_],I.loc,I.cell,nn I.free,λx c e=>nn (I.gj x c e),λp hp=>?_,λb u e=>?_,I.len,#[.inl hd,I.hq.ok,λr m=>ne (I.hq.lm r m) (λ_ q=>by ext q)]]
 .rw[aM (λq=>h0 o u (by rw[<- q];apply e))];apply I.base.iz b o u e
 .let#[m,q]:=I.base.jG b ps e;apply#[m,ne q (λ_ q=>by ext q)]
 .let#[e,n,r]:=I.pin p hp;apply#[e,nn n,r]
 .by_cases hb:b=a
  .subst hb;rw[bI] at e;ext e;apply(I.aH b _ ha).2
  .rw[aM hb] at e;apply(I.aH b u e).fS (λc v _ q=>q) (λc q=>ne q (λ_ q=>by ext q)) λc xs q=>ne q (λ_ q=>by ext xs<;>ext q)
end L2
namespace L2.Ev
open PySem PySem.Spec PyProof.Rows
def ae3(K:Fr)(T:List (Str×Bool))(cs:List Addr):Prop:=∀cn b C,T.lookup cn=some b->PySem.W.nsIn K mainGlobals cn=some (some (.ref C))->qd K C/\PySem.W.kitAny K (.ref C) (cs.map Value.ref)=some b
end L2.Ev
namespace L2
open PySem PySem.Spec PyProof.Rows
section
variable{X:Cx}
theorem LY{i:Int}:∀{n:Nat}{l:List Value}{k:Nat},l.length=n->(∀(m:Nat) (v:Value),l[m]? = some v->∃t,v=.int (i+((k+m:Nat):Int)) t)->aT ((List.range' k n).map λn:Nat=>V.int (i+n)) l
 |0,[],_,_,_=>.nil
 |n+1,v::l,k,h,hv=>by
  rw[List.range'_succ,aas];refine .cons ?_ (LY (k:=k+1) (by simpa using h) λm w e=>?_)
  .let#[t,e]:=hv 0 v rfl;apply#[t,by rw[e];simp]
  .let#[t,e]:=hv (m+1) w (by simpa using e);apply#[t,by rw[e];congr 2;lia]
def V9(ta:TA):TE:=λU H Q=>ta U H λvs H1=>∃i j:Int,vs=[.int i,.int j]/\∀l,H1 l=none->Q (.ref l) (upd H1 l (.cz i j))
def Ws{a b:Expr}{ta:TA}{p2 p3:Pos}(nv:X.mg "range"=none)(ha:PA X [a,b] ta)(sP:Gl X "range":=by rfl)
  (hs:starEach [a,b] X.env=[(false,eval a X.env),(false,eval b X.env)]:=by rfl) (bS:starEach [b] X.env=[(false,eval b X.env)]:=by rfl):PE X (.Call (.Name "range" p2) [a,b] [] p3) (V9 ta):=by
 intro af s U H Q I h;refine Call_ (nZ I sP nv boot_range (afr (tU (ha p3 af s U H _ I h) λus s1 vs H1 I1 r1 q1=>?_) (by rw[hs,bS]) (by rw[bS];rfl)));let#[i,j,e,q]:=q1;subst e;cases r1 with
 |cons r rr=>
  cases rr with
  |cons r' rr=>
   ext rr;let#[t,rfl]:=r;let#[t',rfl]:=r';refine call_range_2 ?_;apply#[.ref s1.heap.objs.size,upd H1 s1.heap.objs.size (.cz i j),I1.laid (λb u e=>aak _ e) (aa9 _) #[_,_,_,abx _ rfl],rfl,q _ (I1.aH.fresh (aa9 _))]
end
end L2
namespace L2.Ev
open PySem PySem.Spec PyProof.Rows
section
variable{X:Cx}{a b e:Expr}{fa fb fv:EF}{p p1 p2 p3 pos:Pos}
theorem UC{K:Fr}{H:Hp}{i:Int}:∀(l:List Nat),aC K H (l.map λn:Nat=>D.int (i+n)) (l.map λn:Nat=>V.int (i+n)) []
 |[]=>.nil
 |n::l=>by rw[aas,aas];apply aC.cons (f1:=[]) (f2:=[]) (.int _) (UC l)
end
end L2.Ev
namespace L2
open PySem PySem.Spec PyProof.Rows
abbrev Zk:=St->Hp->(List V->Hp->Prop)->XK->Prop
def Cu(X:Cx)(es:List Expr)(t:Zk):Prop:=∀(pos:Pos) (af:List (Addr×Obj)) (s:Shared) (U:St) (H:Hp) (Q:List V->Hp->Prop) (E:XK),Inv X af U H s->t U H Q E->wpAny (model X.prog X.w) X.A (spliced (backTo pos (starEach es X.env))) (AP X af U Q) (zG X af U E) s
def afN:Cu X [] (λ_ H Q _=>Q [] H):=λ_ _ _ _ H Q _ I h=>Calls.spliced_nil #[[],H,I,.nil,h]
def MS(ha:PX X e te)(hr:Cu X es t)(hs:starEach (e::es) X.env=(false,eval e X.env)::starEach es X.env:=by rfl):Cu X (e::es) (λU H Q E=>te U H (λx H1=>t U H1 (λxs H2=>Q (x::xs) H2) E) E):=by
 intro pos af s U H Q E I h;rw[hs];refine Calls.spliced_cons (wH (ha af s U H _ E I h) λu s1 x H1 I1 r1 q1=>?_);apply tU (hr pos af s1 U H1 _ E I1 q1) λus s2 xs H2 I2 r2 q2=>#[x::xs,H2,I2,.cons r1 r2,q2]
def adg{te:TE}(h:PE X.f_ e te):PX X e (λU H Q _=>te U H Q):=λaf s U H Q E I hq=>T4 h I hq
def abD{x1}(h:Cu X es t):PX X (.Tuple es x1 pos) (λU H Q E=>t U H (λxs H1=>xs.length<=sizeLine/\∀p,H1 p=none->Q (.ref p) (upd H1 p (.tup xs))) E):=by
 intro af s U H Q E I hq;refine wpAny_Tuple_spliced (cL (h pos af s U H _ E I hq) ?_)
 rintro us s1 ⟨xs,H1,I1,r,z,q⟩
 refine#[by rw[<- r.length];apply z,?_];have hf:H1 s1.heap.objs.size=none:=I1.aH.fresh (aa9 _);refine#[.ref s1.heap.objs.size,upd H1 s1.heap.objs.size (.tup xs),I1.laid (t':=s1.toks) (λb u e=>aak _ e) (aa9 _) ?_,rfl,q _ hf];apply#[z,us,r,#[_,abx _ rfl,rfl,rfl,_,rfl]]
end L2
namespace L2.Ev
open PySem
def sq(h:sf Y=some (.nx Y'))(h2:sg Y'=r):bY sf sg Y=r:=by rw[iF,h,o8,h2]
def gU(h:f Y=some (d,t))(h2:sg (iI Y i d t)=r):bY (eS i f) sg Y=r:=sq (by unfold eS;rw[h]) h2
def pX(h:tf Y=some b)(h2:bY (if b=true then sf else fB) sg Y=r):bY (dZ tf sf fB) sg Y=r:=by
 have e:dZ tf sf fB Y=(if b=true then sf else fB) Y:=by rw[gP,h];ext b<;>rfl
 rw[iF,e,<- iF,h2]
def bP(h:tf Y=some false)(h2:sg Y=r):bY (dZ tf sf fB) sg Y=r:=sq (by rw[gP,h];rfl) h2
def cB(h:f Y=some (d,t))(h2:op d=some d1):e1 op f Y=some (d1,.own):=by rw[zS,h,Q6,h2];rfl
def aF(h:f Y=some (d1,t1))(h2:g Y=some (d2,t2))(h3:op d1 d2=some d):e2 op f g Y=some (d,.own):=by rw[j8,h,h2,xF,h3];rfl
def cV(h:g Y=some ps)(h2:F (ps.map (·.1))=some d):cQ F g Y=some (d,.own):=by rw[s_call,h,Mp,h2];rfl
def bJ(h:f Y=some (.bl b,t)):tV f Y=some b:=by rw[yp,h];rfl
def kN(h:tf Y=some b):k8 tf Y=some (!b):=by rw[GP,h];rfl
open PySem PySem.Spec PyProof.Rows
def uP(i:Nat)(cn f:Str)(fk fv:EF):SF:=λY=>match fv Y,Y[i]?,fk Y with
 | some (d,_),some (some (.ins c es,.own)),some (kd,_)=>if c=cn then(match es.lookup f,iJ kd with
  |some (.bZ ak),some k=>if(aB d&&aK (ak.map (·.2))&&decide (ak.length<sizeLine))=true then some (.nx (cJ Y i (.ins c (eF f (.bZ (putD ak k d)) es)))) else none
  |_,_=>none) else none
 |_,_,_=>none
def C1(i:Nat)(hu:X.A.units+1<cLine)(hC:ClsAt X.K cn C)(na:iR X.K C f)(hk:FP X k fk)(hv:FP X v fv)(va:VA X i x:=by walk_at "va")
  (hb:attributeBase (.Name x p) f X.env (eval (.Name x p) X.env)=eval (.Name x p) X.env:=by rfl)
  (hs:swapsWith v (some (.Subscript (.Attribute (.Name x p) f p1) k pos')) pos.line X.env=pure false:=by rfl) :
  fj X (.Assign [.Subscript (.Attribute (.Name x p) f p1) k pos'] v pos) (uP i cn f fk fv):=by
 let#[tk,pk,sk]:=hk;let#[tv,pB,sv]:=hv;exists 25,Ep hu (qR va.pe hb) pk pB hs;unfold uP at e
 split at e
 .rename_i d td c es kd tkd g1 g2 g3
  by_cases hc:c=cn
  .subst hc;rw[if_pos rfl] at e
   split at e
   .rename_i ak key hl Ag
    by_cases hc:(aB d&&aK (ak.map (·.2))&&decide (ak.length<sizeLine))=true
    .rw[if_pos hc] at e;ext e;let#[c1,c3]:=(aaF _ _).mp hc;let#[c1,c2]:=(aaF _ _).mp c1;refine sv ok g1 λH1 v fd s1 rv gv=>?_
     have hn:=rv.aB c1;subst hn;let#[xv,fp,dG,r,zz]:=(ok.same s1).sl i _ _ g2;refine#[xv,dG,?_];let#[b0,dx,fs,u,gf,rfl,h1,h2,h3,h4,h5,h6]:=r.place hC.ns zz.1 hl;refine#[b0,C,dx,fs,u,rfl,h1,hC.cl,na,h2,?_];refine sk (ok.same s1) g3 λH2 y fk' s2 rk _=>?_
     have ek:=rk.key Ag;subst ek;have r':=h3.same s2;generalize hw:u=w at r' h6;cases r' with
     | @bZ l ks _ f' h fZ rs=>
      have hn:=rs.aB c2;subst hn;have hlen:ks.length=ak.length:=by have:=congrArg List.length fZ;simpa using this.symm
      refine#[l,_,rfl,vD.k h (by rw[hlen];apply aaY c3),?_];have im:bu H2 (upd H2 l (.dK (putK ks key v))):=bu.upd h rfl;have kp:∀(c) o,c∉[l]->H1 c=some o->upd H2 l (.dK (putK ks key v)) c=some o:=λc o n e=>by rw[aM λq=>n (by rw[q];apply aap)];apply s2 c o e
      let#[aY,k1,k2,k3]:=h6 (upd H2 l (.dK (putK ks key v))) (.bZ (putD ak key d)) [l] ((bu.of s2).trans im) kp
       (.bZ bI (A8 fZ) (Fq fZ (rs.frame (λa m=>nomatch m) im) ((rv.same s2).frame (λa m=>nomatch m) im))) h4 (λc m=>.inl m)
      let#[z',bg]:=(ok.same s1).put g2 dG zz ((bu.of s2).trans im) (λc o n e=>kp c o (λm=>n (h5 c m)) e) k1 k2 k3;apply q z' U _ bg (.refl _ _)
    .rw[abm hc] at e;ext e
   .cases e
  .rw[abm hc] at e;ext e
 .cases e
def AA(i:Nat)(cn f:Str)(fv:EF):SF:=λY=>match fv Y,Y[i]? with
 | some (.int j,_),some (some (.ins c es,.own))=>if c=cn/\es.length < 1000 then(match es.lookup f with
  |some (.int k)=>some (.nx (cJ Y i (.ins c (eF f (.int (k+j)) es))))
  |_=>none) else none
 |_,_=>none
def EX(i:Nat)(hC:ClsAt X.K cn C)(na:iR X.K C f)(hv:FP X a fv)(va:VA X i x:=by walk_at "va"):fj X (.AugAssign (.Attribute (.Name x p1) f pos') .Add a pos) (AA i cn f fv):=by
 let#[t,p,q]:=hv;exists 23,ZA va.pe p WJ;unfold AA at e
 split at e
 .rename_i j tg c es h1 h2
  by_cases hc:c=cn/\es.length<1000
  .rw[if_pos hc] at e;let#[rfl,hl]:=hc
   split at e
   .rename_i m hf;ext e;let#[v,aO,dG,r0,zz]:=ok.sl i _ _ h2;refine#[v,dG,?_];let#[b,dx,fs,u,gf,rfl,h3,e2,e3,_]:=r0.place hC.ns zz.1 hf;let#[b',xM,uy,g,ev,rfl,Cy,h4,h5,h6]:=r0.kQ hC.ns;ext ev;rw[h3] at Cy;ext Cy;ext e3;have lf:fs.length<1000:=by have:=congrArg List.length h5;rw[List.length_map,List.length_map] at this;omega
    refine#[b,C,dx,fs,_,rfl,h3,hC.cl,na,e2,q ok h1 λH1 y fd s1 r1 g1=>?_];ext r1;refine#[m,j,rfl,rfl,dx,fs,s1 _ _ h3,lf,?_];let#[z',bg]:=ok.fld hC h2 dG h3 s1 (.int (m+j)) acv λc m=>nomatch m
    apply k z' U _ bg (.refl _ _)
   .cases e
  .rw[abm hc] at e;ext e
 .cases e
def um(f:EF):TF:=λY=>match f Y with
 |some (.lst ds,_)=>some (!ds.isEmpty)
 |_=>none
def LQ(h:FP X a f)(he:∀whole,isTrue a X.env whole=(do let v <- whole;standAt a.pos;holding [v] (truthy v)):=by intro _;rfl):FT X a (um f):=by
 let#[t,p,q]:=h;refine#[_,aeb p he,@λH0 S z aq Y U H Q b ok e k=>?_];unfold um at e
 split at e
 .rename_i ds tg e1;ext e;refine q ok e1 λH1 v fp s1 r1 _=>?_
  let#[w,xs,f,rfl,hq,rs,_]:=r1.dM;have he:(!ds.isEmpty)=!xs.isEmpty:=by ext rs<;>rfl
  apply#[_,.inl #[xs,hq,rfl],he ▸ k H1 s1]
 .cases e
def acC(hu:X.A.units+1<cLine)(ha:FP X a fa)(hb:FP X b fb)(hm:behindInMarks .NotIn b=false:=by rfl):FP X (.Compare a [.NotIn] [b] pos) (e2 (pZ true) fa fb):=
 fp_2 Fi ha hb λta tb pa pb=>PL (Wj hu pa pb) hm
end L2.Ev
namespace L2
open PySem PySem.Spec PyProof.Rows
def Oa(I:Inv X af U H s)(h:bK X.K H a (ks.map kV)):(tupleKind (fQ X.prog X.w)).is s.heap ks a:=by
 let#[aA,r,#[o,h1,h2,_,n,h3],_]:=I.MW h;apply#[o,aA.toArray,n,h1,h2,h3,by simpa using Gq r]
def Sm(K:Fr)(neg:Bool):R2:=λx y H Q=>∃b a k ak,x=.ref b/\y=.ref a/\bK K H b (List.map kV k)/\H a=some (.dT ak)/\Q (.bl (if neg=true then !(eK ak k).isSome else(eK ak k).isSome)) H
def VE(hu:X.A.units+1<cLine):dH X (compareOp .In) (Sm X.K false):=by
 rintro af s U H x y v u Q I rx ry ⟨b,a,k,ak,rfl,rfl,hq,e,q⟩
 obtain rfl:v=Value.ref b:=rx;obtain rfl:u=Value.ref a:=ry;let#[z,hd,xs,rel,dd]:=pW I.aH (.inl e);refine wpAny_in_heap (ahm hu) (Oa I hq) hd dd ?_;have w:=(rel.val k).vQ;rw[aht] at w;rw[<- w];apply#[.bl (eK ak k).isSome,H,I.tok _,rfl,q]
def aaD(K:Fr)(td ty:TE):TE:=λU H Q=>td U H λx H1=>ty U H1 λy H2=>∃a b k ak v,x=.ref a/\y=.ref b/\bK K H2 b (List.map kV k)/\H2 a=some (.dT ak)/\eK ak k=some v/\Q v H2
def aaa(hu:X.A.units+1<cLine)(ho:PE X o td)(hi:PE X i ty)(hs:yH i):PE X (.Subscript o i pos) (aaD X.K td ty):=by
 intro af s U H Q I h;refine Qv PySem.F.slot_dict_getitem.lookup hs (ho.n I h λu s1 x H1 I1 rx q1=>cL (hi af s1 U H1 _ I1 q1) λiv s2 hq=>?_);let#[y,H2,I2,ry,a,b,k,ak,v,ex,ey,hq,e,l,q2]:=hq;subst ex;subst ey;obtain rfl:u=Value.ref a:=rx;obtain rfl:iv=Value.ref b:=ry;let#[z,hd,xs,rel,dd]:=pW I2.aH (.inl e);let#[w',hw,fu]:=g9.some_of (by rw[<- l];apply rel.val k);let#[p,hp,Ge]:=ac3.mp hw;refine#[dd.typeIs,wpAny_getItem_heap (ahm hu) (Oa I2 hq) dd hp ?_];rw[Ge];apply#[v,H2,I2.tok _,fu,q2]
namespace Ev
def iB:List D->Option (List Key)
 |[]=>some []
 |d::ds=>match iJ d,iB ds with
  |some k,some ks=>some (k::ks)
  |_,_=>none
def aC.keys{K:Fr}:∀{ds} {xs} {fp} {ks},aC K H ds xs fp->iB ds=some ks->xs=ks.map L2.kV
 |[],_,_,_,.nil,e=>by ext e;rfl
 |d::ds,_,_,ks,.cons r rs,e=>by
  unfold iB at e
  split at e
  .rename_i k oK h1 h2;ext e;rw[r.key h1,aC.keys rs h2];rfl
  .cases e
def JW(neg:Bool):D->D->Option D
 |.tup ds,.eV es=>(iB ds).map λk=>.bl (if neg=true then !(bC es k).isSome else(bC es k).isSome)
 |_,_=>none
def YV{neg:Bool}{K:Fr}:gx K (Sm K neg) (JW neg):=by
 intro H x y d1 d2 f1 f2 d Q r1 r2 e k;ext d1<;>try (ext e;done)
 ext d2<;>try (ext e;done)
 rename_i ds es;have e:((iB ds).map λk=>D.bl (if neg=true then !(bC es k).isSome else(bC es k).isSome))=some d:=e;let#[w,xs,rfl,hq,rs]:=r1.gY;cases hk:iB ds with
 |none=>rw[hk] at e;ext e
 |some ks=>
  rw[hk] at e;ext e;obtain rfl:=aC.keys rs hk;cases r2 with
  | @eV a ak _ f h fZ zF=>
   have ev:(eK ak ks).isSome=(bC es ks).isSome:=by
    let#[h1,h2]:=qp fZ zF;cases hv:bC es ks with
    |none=>rw[h2 hv];rfl
    |some dv=>let#[v,f,mU,_]:=h1 dv hv;rw[mU];rfl
   refine#[w,a,ks,ak,rfl,rfl,hq,h,?_];rw[ev];apply k H _ (aJ.refl H) (.bl _)
def aeH(hu:X.A.units+1<cLine)(ha:FP X a fa)(hb:FP X b fb)(hm:behindInMarks .In b=false:=by rfl):FT X (.Compare a [.In] [b] pos) (tV (e2 (JW false) fa fb)):=jn (VE hu) YV ha hb hm
def IP(fa fb:EF):EF:=λY=>match fa Y,fb Y with
 |some (.eV es,t),some (.tup ds,_)=>(iB ds).bind λk=>(bC es k).map λd=>(d,k7 t)
 |_,_=>none
def XQ(hu:X.A.units+1<cLine)(ha:FP X a fa)(hb:FP X b fb)(hs:yH b):FP X (.Subscript a b pos) (IP fa fb):=by
 let#[ta,pa,sa]:=ha;let#[tb,pb,sb]:=hb;exists 20,aaa hu pa pb hs;unfold IP at e
 split at e
 .rename_i es t ds t2 e1 iV;cases hk:iB ds with
  |none=>rw[hk] at e;ext e
  |some ks=>
   rw[hk,ac1] at e;cases hv:bC es ks with
   |none=>rw[hv] at e;ext e
   |some dv=>
    rw[hv] at e;ext e;refine sa ok e1 λH1 x f1 s1 r1 g1=>?_
    refine sb (ok.same s1) iV λH2 y f2 s2 r2 _=>?_
    let#[w,xs,rfl,hq,rs]:=r2.gY;obtain rfl:=aC.keys rs hk;have Lf:=r1.same s2;cases Lf with
    | @eV l ak _ f h fZ zF=>
     let#[h1,_]:=qp fZ zF;let#[v,f,mU,rv,sub]:=h1 _ hv;refine#[l,w,ks,ak,v,rfl,rfl,hq,h,mU,?_];apply q H2 v f (s1.trans s2) rv (dh.sub (λa j e=>(ok.zd a j e).1) g1 λa m=>aao _ (sub a m))
 .cases e
def wu(neg:Bool):D->D->Option D
 |d1,.lst ds=>if(cX d1&&cX (.lst ds))=true then some (.bl (if neg=true then !(eZ ds).any λy=>PyData.eqv y (py d1) else(eZ ds).any λy=>PyData.eqv y (py d1))) else none
 |_,_=>none
def HZ(K:Fr)(neg:Bool):R2:=λx y H Q=>∃d1 ds f1 f2,Rep K H d1 x f1/\Rep K H (.lst ds) y f2/\cX d1=true/\cX (.lst ds)=true/\Q (.bl (if neg=true then !(eZ ds).any λy=>PyData.eqv y (py d1) else(eZ ds).any λy=>PyData.eqv y (py d1))) H
def Xw(hu:X.A.units+64<cLine):dH X (compareOp .In) (HZ X.K false):=by
 intro af s U H x y v u Q I rx ry h;let#[d1,ds,f1,f2,r1,r2,l1,l2,q]:=h;let#[a1,a2,a3]:=lay_of l1;let#[b1,b2,b3]:=lay_of l2;let#[as,ra]:=oJ I r1 rx a1;let#[bs,rb]:=oJ I r2 ry b1;rw[py] at rb b2 b3;simp only[PyData.canLay0] at b2;apply SeqAt.in_list_reads rb ra b2 a2 (by have:=Nat.min_le_right (PyData.depthAll (eZ ds)) (py d1).depth;omega) #[.bl _,H,I,rfl,q]
def Yr(hu:X.A.units+64<cLine):dH X (compareOp .NotIn) (HZ X.K true):=by
 intro af s U H x y v u Q I rx ry h;let#[d1,ds,f1,f2,r1,r2,l1,l2,q]:=h;let#[a1,a2,a3]:=lay_of l1;let#[b1,b2,b3]:=lay_of l2;let#[as,ra]:=oJ I r1 rx a1;let#[bs,rb]:=oJ I r2 ry b1;rw[py] at rb b2 b3;simp only[PyData.canLay0] at b2;apply SeqAt.notIn_list_reads rb ra b2 a2 (by have:=Nat.min_le_right (PyData.depthAll (eZ ds)) (py d1).depth;omega) #[.bl _,H,I,rfl,q]
def Ni{K:Fr}:gx K (HZ K neg) (wu neg):=by
 intro H x y d1 d2 f1 f2 d Q r1 r2 e k;ext d2<;>try (ext e;done)
 rename_i ds;have e:(if(cX d1&&cX (.lst ds))=true then some (D.bl (if neg=true then !(eZ ds).any λy=>PyData.eqv y (py d1) else(eZ ds).any λy=>PyData.eqv y (py d1))) else none)=some d:=by ext d1<;>apply e
 by_cases hc:(cX d1&&cX (.lst ds))=true
 .rw[if_pos hc] at e;ext e;let#[c1,c2]:=(aaF _ _).mp hc;apply#[d1,ds,f1,f2,r1,r2,c1,c2,k H _ (aJ.refl H) (.bl _)]
 .rw[abm hc] at e;ext e
def Tv(hu:X.A.units+64<cLine)(ha:FP X a fa)(hb:FP X b fb)(hm:behindInMarks .NotIn b=false:=by rfl):FT X (.Compare a [.NotIn] [b] pos) (tV (e2 (wu true) fa fb)):=jn (Yr hu) Ni ha hb hm
def agJ(hu:X.A.units+64<cLine)(ha:FP X a fa)(hb:FP X b fb)(hm:behindInMarks .In b=false:=by rfl):FP X (.Compare a [.In] [b] pos) (e2 (wu false) fa fb):=sU (Xw hu) Ni ha hb hm
def Y8:FP X (.Dict [] [] pos) (eC (.eV [])):=by
 refine#[_,adI,@λH0 S z aq Y U H Q d tg ok e k p hp=>?_];ext e;have s2:aJ H (upd H p (.dT [])):=λb o e=>by rw[aM (cO e hp)];apply e
 apply k _ _ [p] s2 (.eV bI rfl .nil) #[ab3.mpr #[(λm=>by ext m),acv],λa m=>by cases aaK.mp m;apply hp]
end Ev
end L2
namespace L2
open PySem PySem.W PyProof.Rows
structure pP(r:Nat->Nat->Bool)(n:Nat):Prop where
 tr:∀i j k,i<n->j<n->k<n->r i j=true->r j k=true->r i k=true
 tt:∀i j,i<n->j<n->i≠j->r i j=false->r j i=true
def jT(r:Nat->Nat->Bool)(p:Array Nat)(m:Nat):Prop:=∀i j,i<j->j<m->r (p.getD i 0) (p.getD j 0)=true
def yc(r:Nat->Nat->Bool)(p:Array Nat)(m:Nat):Prop:=∀i j,i<j->j<m->r (p.getD j 0) (p.getD i 0)=true
abbrev bf(n:Nat)(p:Array Nat):Prop:=p.Perm (List.range n).toArray
section
variable{p:Array Nat}
def bf.sz(P:bf n p):p.size=n:=by rw[Array.Perm.size_eq P];simp
def getD_at(h:i<p.size):p.getD i 0=p[i]:=by simp[Array.getD,h]
def bf.lt(P:bf n p)(h:i<n):p.getD i 0<n:=by
 have hs:i<p.size:=by rw[bf.sz P];apply h
 rw[getD_at hs];have m:p[i]∈p.toList:=by simp
 have:=(ahU.mp P).mem_iff.mp m;simpa using this
def bf.ne(P:bf n p)(hi:i<n)(hj:j<n)(h:i≠j):p.getD i 0≠p.getD j 0:=λe'=>by
 have hs:i<p.size:=by rw[bf.sz P];apply hi
 have dG:j<p.size:=by rw[bf.sz P];apply hj
 rw[getD_at hs,getD_at dG] at e';have nd:=(ahU.mp P).nodup_iff.mpr (by simpa using List.nodup_range);have w:=aji.mp nd;rcases Nat.lt_or_gt_of_ne h with q|q
 .exact w i j (by simpa using hs) (by simpa using dG) q (by simpa using e')
 .exact w j i (by simpa using dG) (by simpa using hs) q (by simpa using e'.symm)
def vX(cmp:Nat->Nat->(Bool->Shared->Prop)->Shared->Prop)(r:Nat->Nat->Bool)(n:Nat)(s:Shared):Prop:=∀i j C,i<n->j<n->i≠j->C (r i j) s->cmp i j C s
def jT.snoc(T:pP r n)(P:bf n p)(h:jT r p m)(h1:1<=m)(hm:m<n)(h2:r (p.getD (m-1) 0) (p.getD m 0)=true):jT r p (m+1):=λi j a b=>by
 by_cases e:j=m
 .subst e
  by_cases e':i=j-1
  .subst e';apply h2
  .exact T.tr _ _ _ (bf.lt P (by lia)) (bf.lt P (by lia)) (bf.lt P (by lia)) (h i (j-1) (by lia) (by lia)) h2
 .exact h i j a (by lia)
def yc.snoc(T:pP r n)(P:bf n p)(h:yc r p m)(h1:1<=m)(hm:m<n)(h2:r (p.getD m 0) (p.getD (m-1) 0)=true):yc r p (m+1):=λi j a b=>by
 by_cases e:j=m
 .subst e
  by_cases e':i=j-1
  .subst e';apply h2
  .exact T.tr _ _ _ (bf.lt P (by lia)) (bf.lt P (by lia)) (bf.lt P (by lia)) h2 (h i (j-1) (by lia) (by lia))
 .exact h i j a (by lia)
theorem Ey(T:pP r n)(A:vX cmp r n s)(P:bf n p):∀(f m) {G},1<=m->m+f<=n->jT r p m->
  (∀m',m<=m'->m'<=m+f->jT r p m'->(m'=m+f\/r (p.getD m' 0) (p.getD (m'-1) 0)=true)->G m' s)->(kas_asc p f m).kasWp cmp G s
 |0,m,G,_,_,hs,g=>g m (aa9 _) (aa9 _) hs (.inl rfl)
 |f+1,m,G,h1,h2,hs,g=>by
  refine A _ _ _ (bf.lt P (by lia)) (bf.lt P (by lia)) (bf.ne P (by lia) (by lia) (by lia)) ?_;cases c:r (p.getD m 0) (p.getD (m-1) 0) with
  |true=>apply g m (aa9 _) (by lia) hs (.inr c)
  |false=>
   apply Ey T A P f (m+1) (by lia) (by lia) (hs.snoc T P h1 (by lia) (T.tt _ _ (bf.lt P (by lia)) (bf.lt P (by lia)) (bf.ne P (by lia) (by lia) (by lia)) c)) λm' a b c d=>g m' (by lia) (by lia) c (by rw[show m+1+f=m+(f+1) by lia] at d;apply d)
theorem SQ(T:pP r n)(A:vX cmp r n s)(P:bf n p):∀(f m) {G},1<=m->m+f<=n->yc r p m->
  (∀m',m<=m'->m'<=m+f->yc r p m'->G (p,m',0) s)->(kas_desc f p m 0).kasWp cmp G s
 |0,m,G,_,_,hs,g=>g m (aa9 _) (aa9 _) hs
 |f+1,m,G,h1,h2,hs,g=>by
  refine A _ _ _ (bf.lt P (by lia)) (bf.lt P (by lia)) (bf.ne P (by lia) (by lia) (by lia)) ?_;cases c:r (p.getD m 0) (p.getD (m-1) 0) with
  |true=>apply SQ T A P f (m+1) (by lia) (by lia) (hs.snoc T P h1 (by lia) c) λm' a b d=>g m' (by lia) (by lia) d
  |false=>
   refine A _ _ _ (bf.lt P (by lia)) (bf.lt P (by lia)) (bf.ne P (by lia) (by lia) (by lia)) ?_;rw[T.tt _ _ (bf.lt P (by lia)) (bf.lt P (by lia)) (bf.ne P (by lia) (by lia) (by lia)) c];apply g m (aa9 _) (by lia) hs
def rev_getD(hm:m<=p.size)(h:i<m):(kas_rev p 0 m).getD i 0=p.getD (m-1-i) 0:=by
 have e:=getElem?_mirror_all (i:=0) hm i;rw[if_pos #[adN _,h]] at e;unfold kas_rev;rw[aft,aft,e]
 congr 2;lia
def abb(T:pP r n)(A:vX cmp r n s)(P:bf n p)(h:1<=n)(g:∀m q,1<=m->m<=n->bf n q->jT r q m->G (m,q) s):(kas_count n p).kasWp cmp G s:=by
 unfold kas_count;rw[KasT.kasWp_bind];refine Ey T A P (n-1) 1 (aa9 _) (by lia) (λi j a b=>by lia) λm a b hs d=>?_
 by_cases e:m=n
 .subst e;rw[if_pos (by simp)];apply g m p a (aa9 _) P hs
 .rw[abm (by simpa using e)]
  by_cases e1:m > 1
  .rw[if_pos e1];refine A _ _ _ (bf.lt P (by lia)) (bf.lt P (by lia)) (bf.ne P (by lia) (by lia) (by lia)) ?_;rw[hs 0 (m-1) (by lia) (by lia)];apply g m p a (by lia) P hs
  .rw[abm e1];obtain rfl:m=1:=by lia
   have d:=d.resolve_left (by lia);unfold kas_descPart;rw[KasT.kasWp_bind];refine SQ T A P (n - (1 + 1)) (1 + 1) (by lia) (by lia) (λi j a b=>by
    obtain⟨rfl,rfl⟩:i=0/\j=1:=by lia
    apply d) λm' a' b' hd=>?_
   dsimp only;rw[abm (by lia)];unfold kas_tail3;rw[KasT.kasWp_bind];have Q:bf n (kas_rev p 0 m'):=(mirror_perm _ _ _ _).trans P;refine Ey T A Q (n-m') m' (by lia) (by lia) (λi j a b=>?_) λm2 a2 b2 bS _=>g m2 _ (by lia) (by lia) Q bS
   rw[rev_getD (by rw[bf.sz P];lia) (by lia),rev_getD (by rw[bf.sz P];lia) (by lia)];apply hd _ _ (by lia) (by lia)
theorem Kw(T:pP r n)(A:vX cmp r n s)(P:bf n p)(hx:x<n)(hs:jT r p x):∀(f l u) {G},u-l<=f->u<=x->l<=u->(∀i,i<l->r (p.getD i 0) (p.getD x 0)=true)->(∀i,u<=i->i<x->r (p.getD x 0) (p.getD i 0)=true)->
  (∀l,l<=x->(∀i,i<l->r (p.getD i 0) (p.getD x 0)=true)->(∀i,l<=i->i<x->r (p.getD x 0) (p.getD i 0)=true)->G l s)->(kas_place p x f l u).kasWp cmp G s
 |0,l,u,G,h1,h2,h3,lo,hi,g=>g l (by lia) lo λi a b=>hi i (by lia) b
 |f+1,l,u,G,h1,h2,h3,lo,hi,g=>by
  unfold kas_place
  by_cases c:l >= u
  .rw[if_pos c];apply g l (by lia) lo λi a b=>hi i (by lia) b
  .rw[abm c];refine A _ _ _ (bf.lt P hx) (bf.lt P (by lia)) (bf.ne P (by lia) (by lia) (by lia)) ?_;cases d:r (p.getD x 0) (p.getD ((l+u) / 2) 0) with
   |true=>
    refine Kw T A P hx hs f l ((l+u) / 2) (by lia) (by lia) (by lia) lo (λi a b=>?_) g
    by_cases e:i=(l+u) / 2
    .rw[e];apply d
    .exact T.tr _ _ _ (bf.lt P (by lia)) (bf.lt P (by lia)) (bf.lt P (by lia)) d (hs _ i (by lia) b)
   |false=>
    have d:=T.tt _ _ (bf.lt P (by lia)) (bf.lt P (by lia)) (bf.ne P (by lia) (by lia) (by lia)) d;refine Kw T A P hx hs f ((l+u) / 2+1) u (by lia) h2 (by lia) (λi a=>?_) hi g
    by_cases e:i=(l+u) / 2
    .rw[e];apply d
    .exact T.tr _ _ _ (bf.lt P (by lia)) (bf.lt P (by lia)) (bf.lt P (by lia)) (hs i _ (by lia) (by lia)) d
def Rf(hx:x<p.size)(hl:l<=x):(bubble p x (x-l)).getD i 0=if i=l then p.getD x 0 else if l<i/\i<=x then p.getD (i-1) 0 else p.getD i 0:=by
 have e:=getElem?_bubble hx (x-l) (by lia) i;rw[show x-(x-l)=l by lia] at e;rw[aft,e]
 by_cases h1:i=l
 .rw[if_pos h1,if_pos h1,aft]
 .rw[abm h1,abm h1]
  by_cases h2:l<i/\i<=x
  .rw[if_pos h2,if_pos h2,aft]
  .rw[abm h2,abm h2,aft]
theorem T8(T:pP r n)(A:vX cmp r n s):∀(f) (p) (x) {G},bf n p->1<=x->x+f=n->jT r p x->(∀q,bf n q->jT r q n->G q s)->(kas_bin f p x).kasWp cmp G s
 |0,p,x,G,P,_,e,hs,g=>g p P (by rw[<- e];apply hs)
 |f+1,p,x,G,P,h1,e,hs,g=>by
  unfold kas_bin;rw[KasT.kasWp_bind];refine Kw T A P (by lia) hs x 0 x (by lia) (aa9 _) (adN _) (λi a=>by lia) (λi a b=>by lia) λl hl lo hi=>?_
  have hz:x<p.size:=by rw[bf.sz P];lia
  refine T8 T A f _ (x+1) ((bubble_perm _ _ _).trans P) (by lia) (by lia) (λi j a b=>?_) g;rw[Rf hz hl,Rf hz hl]
  by_cases i1:i=l
  .rw[if_pos i1,abm (by lia),if_pos (by lia)];apply hi _ (by lia) (by lia)
  .rw[abm i1]
   by_cases j1:j=l
   .rw[if_pos j1,abm (by lia)];apply lo _ (by lia)
   .rw[abm j1]
    by_cases i2:l<i/\i<=x
    .rw[if_pos i2,if_pos (by lia)];apply hs _ _ (by lia) (by lia)
    .rw[abm i2]
     by_cases j2:l<j/\j<=x
     .rw[if_pos j2];apply hs _ _ (by lia) (by lia)
     .rw[abm j2];apply hs _ _ (by lia) (by lia)
def aic(T:pP r n)(A:vX cmp r n s)(h:1<=n)(g:∀q,bf n q->jT r q n->G q s):(kas_sort n).kasWp cmp G s:=by
 unfold kas_sort;rw[KasT.kasWp_bind];refine abb T A (Array.Perm.refl _) h λm q a b Q hs=>?_
 by_cases e:m<n
 .dsimp only;rw[if_pos e,Nat.max_eq_left a];apply T8 T A _ q m Q a (by lia) hs g
 .dsimp only;rw[abm e];obtain rfl:m=n:=by lia
  apply g q Q hs
end
open PySem PySem.Spec PySem.W PyProof.Rows
def lex(x y:Int×Int):Bool:=decide (x.1<y.1\/x.1=y.1/\x.2<y.2)
def IsPair(h:Heap)(q:Addr)(x:Int×Int):Prop:=∃t u,IsTup h q ([.int x.1 t,.int x.2 u].toArray)
def VZ{pr:Nat->Int×Int}(h:∀i j,i<n->j<n->pr i=pr j->i=j):pP (λi j=>lex (pr i) (pr j)) n where
 tr:=λi j k _ _ _ a b=>by
  have a:=aaY a;have b:=aaY b;apply aa1 (by lia)
 tt:=λi j a b ne e=>by
  have e:=ai7 e;have n2:¬((pr i).1=(pr j).1/\(pr i).2=(pr j).2):=λz=>ne (h i j a b (Prod.ext z.1 z.2))
  apply aa1 (by lia)
def aah(hx:IsPair s.heap x a)(hy:IsPair s.heap y b)(h:Q (lex a b) s):wpAny (model prog w) A (keyLt' (tuples' true) (.ref x) (.ref y)) Q E s:=by
 let#[t,u,o,h1,_,n,h2]:=hx;let#[t',u',o',ie,_,n',l7]:=hy;refine kat_lt h1 h2 ie l7 (kat_cons (wpAny_eqBool_int (kat_go (λe=>kat_yes (kat_cons (wpAny_eqBool_int (kat_go (λe2=>kat_yes (kat_nil ?_)) λe2=>kat_no (kat_one _ _ (lt_int ?_)))))) λe=>kat_no (oneLt_int ?_))))
 .have e:=eq_of_beq e;have e2:=eq_of_beq e2;have:lex a b=false:=abS (by omega);rw[this] at h;apply h
 .have e:=eq_of_beq e;have:lex a b=decide (a.2<b.2):=by unfold lex;congr 1;apply propext #[λz=>by omega,λz=>.inr #[e,z]]
  rw[this] at h;apply h
 .have e:=ne_of_beq_false e;have:lex a b=decide (a.1<b.1):=by unfold lex;congr 1;apply propext #[λz=>by omega,.inl]
  rw[this] at h;apply h
theorem ML:∀{qs} {ps},Paired (IsPair h) qs ps->∃fs,KatTups h (qs.map Value.ref) fs/\fs.length=qs.length/\∀v∈fs,∃i t,v=Value.int i t
 |_,_,.nil=>#[[],.nil,rfl,λ_ m=>nomatch m]
 |_,_,.cons r t=>by
  let#[fs,h1,h2,h3]:=ML t;let#[t,u,o,e1,e2,n,e3]:=r;apply#[_::fs,KatTups.cons e1 e2 e3 rfl h1,by rw[acK,acK,h2],λv m=>(aat.mp m).elim (λz=>#[_,_,z]) (h3 v)]
def aiC{a kS:Addr}{vs:List Value}(lG:vs.length<64)(hl:qs.length=vs.length)(hp:Paired (IsPair s.heap) qs ps)(nd:ps.Nodup)
  (hk:s.heap.get? kS=some (seqObj "list" (qs.map Value.ref).toArray e)) (ha:s.heap.get? a=some (seqObj "list" ([].toArray) e1)) (ne:a≠kS)
  (h:∀q:Array Nat,bf vs.length q->jT (λi j=>lex (ps.getD i (0,0)) (ps.getD j (0,0))) q vs.length->
   P (.done (.ret .none)) { s with heap:=(s.heap.update kS (Obj.mapSeq λ_=>([].toArray))).update a (Obj.mapSeq λ_=>(q.toList.map λi=>vs.getD i Value.none).toArray) }) :
  wpAny (model prog w) A (ksk_end a false vs.toArray e1 (.ref kS) (qs.map Value.ref).toArray) P E s:=by
 have Cg:(qs.map Value.ref).length=vs.length:=by rw[List.length_map];apply hl
 have tail:∀(st) (q),bf vs.length q->jT (λi j=>lex (ps.getD i (0,0)) (ps.getD j (0,0))) q vs.length->(arrOf st).map (·.2)=(q.toList.map λi=>vs.getD i Value.none).toArray->failedOf st=none->
   wpAny (model prog w) A (ksk_tail a false e1 (.ref kS) st) P E s:=by
  intro st q hq hs ho hf;have s1:=Heap.SameBut.update s.heap kS (Obj.mapSeq λ_=>(([].toArray):Array Value));have UA:=(s1.2 a ne).trans ha;unfold ksk_tail;dsimp only;refine aal (listUpdate_at hk rfl ?_ (by rw[ab0,Cg,afm];lia) (adN _));refine aal (ajC ?_);refine aal (seqEpoch_at UA rfl ?_);refine aal (listUpdate_at UA rfl ?_ (adN _) ?_)
  .rw[hf];simp only[bne_self_eq_false,aiK,if_false];rw[ho];apply abc (h q hq hs)
  .simp only[aiK,if_false];rw[ho,ab0,List.length_map,ae9,bf.sz hq,afm];lia
 unfold ksk_end;dsimp only;rw[abm aa3]
 by_cases h2:vs.toArray.size<2
 .rw[if_pos h2,if_pos h2];refine aal (abc ?_);rw[StateT.run_pure];refine aal (abc ?_);dsimp only;rw[ab0] at h2;refine tail _ (List.range vs.length).toArray (Array.Perm.refl _) (λi j a b=>by lia) ?_ rfl;have e:=kat_snds Cg (st:=kas_st general' ((qs.map Value.ref).toArray.zip vs.toArray) (List.range vs.length).toArray) rfl;have er:(List.range vs.length).toArray.map (kas_item ((qs.map Value.ref).toArray.zip vs.toArray))=(qs.map Value.ref).toArray.zip vs.toArray:=by
   have:=kas_range ((qs.map Value.ref).toArray.zip vs.toArray);rw[show((qs.map Value.ref).toArray.zip vs.toArray).size=vs.length by simp[hl]] at this;apply this
  rw[<- e];show((qs.map Value.ref).toArray.zip vs.toArray).map (·.2)=((List.range vs.length).toArray.map (kas_item ((qs.map Value.ref).toArray.zip vs.toArray))).map (·.2);rw[er]
 .rw[abm h2,abm h2];rw[ab0] at h2;let#[fs,k1,k2,k3]:=ML hp;refine aal (kat_kind k1 (by lia) (λv m=>by let#[i,t,rfl]:=k3 v m;apply Looks.of_pure rfl) (by decide) ?_);refine aal (ad1 (kat_run (Q:=λst s'=>s'=s/\∃q:Array Nat,bf vs.length q/\jT (λi j=>lex (ps.getD i (0,0)) (ps.getD j (0,0))) q vs.length/\(arrOf st).map (·.2)=(q.toList.map λi=>vs.getD i Value.none).toArray/\failedOf st=none)
   (G:=λq s'=>s'=s/\bf vs.length q/\jT (λi j=>lex (ps.getD i (0,0)) (ps.getD j (0,0))) q vs.length) Cg (by lia) lG (λq kU s' _ ha hf g=>#[g.1,q,g.2.1,g.2.2,kat_snds Cg ha,hf]) ?_) ?_ λ_ _ z=>z)
  .have lp:ps.length=vs.length:=by rw[<- Paired.length hp];apply hl
   refine aic (VZ λi j a b e=>?_) (λi j C hi hj _ hc=>?_) (by lia) λq a b=>#[rfl,a,b]
   .have ei:i<ps.length:=by lia
    have ej:j<ps.length:=by lia
    simp only[adv,abe ei,abe ej,ai5] at e;have w:=aji.mp nd;rcases Nat.lt_trichotomy i j with q|q|q
    .exact absurd e (w i j ei ej q)
    .exact q
    .exact absurd e.symm (w j i ej ei q)
   .have at_:∀i,i<vs.length->∃x,(qs.map Value.ref).getD i Value.none=.ref x/\IsPair s.heap x (ps.getD i (0,0)):=λi hi=>by
     have lq:i<qs.length:=by lia
     have SH:i<ps.length:=by lia
     refine#[qs[i],by simp[adv,lq],?_];rw[adv,abe SH,ai5];have go:∀{qs} {ps},Paired (IsPair s.heap) qs ps->∀(i) (a) (b:i<ps.length),IsPair s.heap qs[i] ps[i]:=by
      intro qs ps r
      induction r with
      |nil=>intro i a;apply absurd a (Nat.not_lt_zero _)
      |cons r t ih=>intro i a b;cases i with
       |zero=>apply r
       |succ i=>apply ih i (by simpa using a) (by simpa using b)
     apply go hp i lq SH
    let#[x,ex,hx]:=at_ i hi;let#[y,ey,hy]:=at_ j hj;show wpAny (model prog w) A (keyLt' _ ((qs.map Value.ref).getD i Value.none) ((qs.map Value.ref).getD j Value.none)) C _ s;rw[ex,ey];apply aah hx hy hc
  .rintro⟨⟨⟩,st⟩ s' ⟨rfl,q,h1,h3,h4,h5⟩
   apply tail st q h1 h3 h4 h5
theorem AE:∀{K:Fr},K.lookup a=some o->(a,o)∈K
 |[],h=>by ext h
 |(b,u)::r,h=>by
  by_cases e:(a==b)=true
  .simp only[List.lookup,e] at h;ext h;rw[eq_of_beq e];apply aap
  .simp only[List.lookup,(by simpa using e:(a==b)=false)] at h;apply aao _ (AE h)
def UR(I:Inv X af U H s)(lk:X.K.lookup f0=some o0)(sh:wD o0=some (cv,q,jP)):∃cc P,cv=.ref cc/\codeHdIn X.K cc P=true/\H P=some (.iH q jP):=by
 let#[cM,ok]:=(aaF _ _).mp I.hq.ok;have cM:=adR.mp ((aaF _ _).mp cM).2 (f0,o0) (AE lk);have cM:=cM;rw[sh] at cM;let#[#[cc,P,q',pos'],e]:=ago.mp (show(CJ X.K (f0,o0)).isSome=true from cM);have hm:(cc,P,q',pos')∈ji X.K:=ais.mpr #[_,AE lk,e];have e':=e;unfold CJ at e';dsimp only at e';rw[sh] at e'
 split at e'
 .rename_i h;ext h
  split at e'
  .split at e'
   .cases e';refine#[cc,P,rfl,?_,I.hq.lm _ hm]
    split at ok
    .rename_i e;rw[e] at hm;ext hm
    .rename_i r e;rw[e] at hm;cases aaK.mp hm;apply((aaF _ _).mp ok).1
    .cases ok
   .cases e'
  .cases e'
 .cases e'
def adH(I:Inv X af U H s)(lk:X.K.lookup f0=some o0)(sh:wD o0=some (X.env.code,q,jP))(yZ:defaultsOf args X.env=([],[]))(wA:closureFor sc X.env=pure oV)(hq:X.env.qual++"<lambda>"=q)
  (h:∀f c' iO pm H' s',Inv X ((f,kla_obj "<lambda>" q args body sc oV pm c' iO)::af) U H' s'->aJ H H'->H' c'=some (.ja q)->Q (.ref f) s'):wpAny (model X.prog X.w) A (eval (.Lambda args body sc jP) X.env) Q E s:=by
 refine kla_eval yZ ?_;rw[hq];let#[cc,P,Nr,hc,hP]:=UR I lk sh;let#[ps,eP,sJ]:=I.aH P _ hP;have C:=codeHd_of_K I.dU hc;have g:=I.ok.mod.glob.keeps I.bk;let#[bm,ob,b1,b2,b3,b4,b5,b6]:=I.ok.mod.VH;have nP:∀{b} {o},X.base.get? b=some o->b≠P:=λ{b o} e z=>by
  have:=(I.bs b o e).2;rw[z,hP] at this;ext this
 let#[om,es,ep,em,dm,_]:=id I.ok.mod.glob;have hb:s.heap.BuiltinsAt X.mg P:=#[bm,ob,b1,b2,(λz=>by rw[z,em] at b3;ext b3;rw[dm] at b6;ext b6),nP b3,I.bk _ _ b3,b4,b5,b6]
 have fin:∀(f) (o) (H') (s'),Inv X af U H' s'->s'.heap.get? f=some o->s.heap.objs.size<=f->H' f=none->(∀v,o.data≠.cell v)->Inv X ((f,o)::af) U H' s':=λf o H' s' J e hf hn hd=>by
  refine J.sO λp hp=>?_
  rcases aat.mp hp with rfl|hp
  .exact#[e,hn,agF (acV I.lt hf),I.RT hf,hd]
  .exact J.pin p (aaM _ hp)
 rcases sJ with rfl|⟨c',rfl,uf⟩
 .refine kla_makeFunction wA I.ok.glob g Nr C eP trivial rfl (nP em) hb λc' iO h' tk hx Di cI Wz Nq=>?_
  have fc:=I.aH.fresh Di;have ff:=I.aH.fresh (agc (ahn Di cI));have up:∀{b} {o},H b=some o->upd H c' (.ja q) b=some o:=λ{b o} e=>by rw[aM (cO e fc)];apply e
  have pu:∀(b) (o),b≠P->s.heap.get? b=some o->(h'.push (kla_obj "<lambda>" q args body sc oV ((X.mg "__name__").getD .none) c' iO)).get? b=some o:=λb o n e=>aak _ (hx b o n e)
  have N_:∀{b},H b=none->b≠P:=λ{b} e z=>by rw[z,hP] at e;ext e
  have J:Inv X af U (upd H c' (.ja q)) { s with heap:=h'.push (kla_obj "<lambda>" q args body sc oV ((X.mg "__name__").getD .none) c' iO),toks:=tk }:=by
   refine I.un #[λb o e n _ _=>pu b o (N_ n) e,λb o e n _ _=>#[o.slots,pu b o (N_ n) e],λb o e n _=>?_,λb o e _=>?_,λb t e=>up e,λb o u e=>up e,λb ps e=>#[([].toArray),by rw[up e];simp]] λa o e=>?_
   .rw[aM (acy (acV (aa5 e) Di))];apply n
   .by_cases z:b=P
    .rw[z];apply#[_,aak _ Nq]
    .exact#[o,pu b o z e]
   .by_cases z:a=c'
    .subst z;rw[bI] at e;ext e;apply Wz.push _
    .rw[aM z] at e
     by_cases z2:a=P
     .subst z2;rw[hP] at e;ext e;apply#[_,aak _ Nq,.inr #[c',by simp,bI]]
     .refine(I.aH a o e).fS (λb u ya q=>pu b u ?_ q) (λb q=>up q) λb t q=>up q
      rcases ya with z3|z3
      .rw[z3];apply z2
      .intro z4;rw[z4,hP] at z3;ext z3
  refine h _ c' iO _ _ _ (fin _ _ _ _ J (abx _ rfl) (agc (ahn Di cI)) ?_ (λv z=>by ext z)) (λb o e=>up e) bI;rw[aM (agF cI)];apply ff
 .refine kla_makeFunctionHit wA I.ok.glob g Nr C eP (TriplesOk_snoc _ _ _ [] trivial) (codeAmong_snoc [] trivial rfl) hb λiO h' tk hk hsz=>?_
  apply h _ c' iO _ H _ (fin _ _ _ _ (I.kept λb u e=>aak _ (hk b u e)) (abx _ rfl) hsz (I.aH.fresh hsz) λv z=>by ext z) (aJ.refl H) uf
def sN(X:Cx)(A:Around)(x y:Str)(q:Str)(sc:Scope)(f:Addr)(cd:Value)(oV:List (Str×Addr))(s:Shared)(H:Hp):Cx where
 prog:=X.prog
 w:=X.w
 K:=X.K
 mg:=X.mg
 base:=X.base
 A:=A.deeper (envX q sc s.heap.objs.size f cd oV)
 N:=[x,y]
 cZ:=s
 oY:=H
 env:=envX q sc s.heap.objs.size f cd oV
 outer:=X.stack
 stack:=envX q sc s.heap.objs.size f cd oV::X.stack
 ex:=[]
 fn:=λ_=>false
 calm:=X.calm
 pn:=[]
 xe:=λ_ _=>False
structure C9(sc:Scope)(args:Arguments)(x y:Str):Prop where
 kind:sc.kind=.function
 co:sc.isCoroutine=false
 gen:sc.isGenerator=false
 xK:∀z∈sc.names,z.2≠.cell
 loc:sc.names.lookup x=some .local
 wU:sc.names.lookup y=some .free
 one:∀z∈sc.names,z.2=.free->z.1=y
 Wv:∀(q) (body) (oV) (pm aU iO u),bindArgs (kla_fn "<lambda>" q args body sc oV pm aU iO) #[[u],[]]=pure [(x,u)]
def aim{j:Nat}(I:Inv X af U H s)(S:C9 sc args x y)(hf:(f,kla_obj "<lambda>" q args body sc [(y,c)] pm c' iO)∈af)(hc:H c'=some (.ja q))
  (oq:X.env.cells.lookup y=some c) (hj:X.N[j]? = some y) (hv:U[j]? = some (some v1)) (qF:X.env.scope.names.lookup y=some .cell) (ru:RelV v0 u) (hA:A.frames=X.A.frames) (hh:A.handled=X.A.handled) (hr:A.depth<recursionLimit)
  (hb:PE (sN X A x y q sc f (.ref c') [(y,c)] s H) body te) (h:te [some v0,some v1] H Q):wpAny (model X.prog X.w) A (call (.ref f) [u]) (EP X af U Q) E s:=by
 have Yv:=(I.pin _ (aaM _ hf)).1;refine wpAny_call (ai8 (R:=λr s'=>match r with|.ok (.ret v)=>CE X.stack X.prog X.w H s Q v s'|_=>False) ?_ λr s' z=>?_)
 .refine kla_callFunE hr Yv rfl S.co S.gen rfl (I.aH c' _ hc) ?_;rw[S.Wv];refine abc (wpAny_newFunctionEnv S.xK (λz m=>by cases aaK.mp m;apply S.loc) (λBB uG GW=>?_) S.kind);have yY:∀b o,s.heap.get? b=some o->BB.get? b=some o:=λb o e=>GW.extBut b o (acy (aa5 e)) (aak _ e)
  refine#[(I.ok.mod.nolimit.keeps I.bk).keeps yY,?_];have cl:∀{z} {d},List.lookup z [(y,c)]=some d->z=y/\d=c:=λ{z d} e=>by
   by_cases w:(z==y)=true
   .simp only[List.lookup,w] at e;ext e;apply#[eq_of_beq w,rfl]
   .simp only[List.lookup,(by simpa using w:(z==y)=false)] at e;ext e
  have cy:List.lookup y [(y,c)]=some c:=by simp[List.lookup]
  have ua:∀b:Addr,b∉(sN X A x y q sc f (.ref c') [(y,c)] s H).ex:=λb z=>absurd (show b∈([]:List Addr) from z) (by simp)
  have J:Inv (sN X A x y q sc f (.ref c') [(y,c)] s H) [] [some v0,some v1] H { s with heap:=BB,toks:=s.toks+[(x,u)].length }:=by
   refine#[#[I.ok.mod,S.kind,rfl,rfl,aa9 _,λa b d h1 h2=>?_,λa ha=>?_,(λa d h _=>by ext h),λhc=>?_,Around.frames_deeper (hA.trans I.ok.frames),.inr #[rfl,rfl],λb z=>absurd z (ua b),I.bs,adJ I.ok.jd I.sz,λb _ _=>ua b,λb z=>absurd z (ua b),I.stack,I.uE],
    rfl,I.bare,Un.kept yY,#[_,uG,λi z v h1 h2 h3=>?_],λz d e=>?_,I.aH.fresh (aa9 _),λz d e=>?_,λp hp=>absurd (show p∈([]:List (Addr×Obj)) from hp) (by simp),I.aH.kept yY,rfl,#[?_,I.hq.ok,I.hq.lm]]
   .exact(cl h1).1.trans (cl h2).1.symm
   .have ha:=ha;rcases ha with ha|ha
    .exact absurd rfl (S.xK _ (PySem.mem_of_lookup ha))
    .have e:a=y:=S.one _ (PySem.mem_of_lookup ha) rfl;rw[e];apply#[c,cy]
   .have:=I.ok.hd hc;apply hh.trans this
   .match i,h1,h2 with
    |0,h1,h2=>
     ext h1;ext h2;refine#[u,ru,.inl #[S.loc,by simp[List.lookup]]]
    |1,h1,h2=>
     ext h1;ext h2;let#[m,_,hl]:=I.loc;let#[u1,r1,l]:=hl j y v1 hj hv (.inr (.inl qF));refine#[u1,r1,.inr #[.inr S.wU,c,cy,?_]];rcases l with⟨kk,_⟩|⟨_,d,e,o,ho,hd⟩
     .rw[show X.env.kindOf y=some .cell from qF] at kk;ext kk
     .rw[oq] at e;ext e;apply#[o,yY _ _ ho,hd]
    |i+2,h1,h2=>apply absurd h2 (by simp)
   .rw[(cl e).2];let#[w,o,ho,hd]:=I.cell y c oq;apply#[w,o,yY _ _ ho,hd]
   .rw[(cl e).2];apply I.gj y c oq
   .have:=I.hq.hd;unfold tP at this ⊢;rw[show(sN X A x y q sc f (.ref c') [(y,c)] s H).A.handled=X.A.handled from hh];apply this
  refine kla_codeExpr (ad1 (hb [] _ _ H _ J h) (?_) λ_ _ z=>z.elim)
  rintro v s' ⟨v',H',J',rv,q'⟩
  apply#[v',H',J'.os,J'.bare,J'.base,J'.aH,rv,q']
 .cases r with
  |error e=>apply z.elim
  |ok fl=>
   cases fl with
   |ret w=>apply I.after z
   |next=>apply z
   |brk=>apply z
   |cont=>apply z
def WO(r:aT [.int a,.int b] aA):∃t u,aA=[.int a t,.int b u]:=by
 cases r with
 |cons h1 r=>cases r with
  |cons h2 r=>ext r;let#[t,rfl]:=h1;let#[u,rfl]:=h2;apply#[t,u,rfl]
theorem IntsAre.at{vs:List Value}{ns:List Int}(h:IntsAre vs ns):∀{j:Nat} {v},vs[j]? = some v->∃n t,ns[j]? = some n/\v=.int n t:=by
 induction h with
 |nil=>intro j v e;simp at e
 |cons n t _ ih=>
  intro j v e;cases j with
  |zero=>ext e;apply#[n,t,rfl,rfl]
  |succ j=>apply ih (by simpa using e)
def Paired.VC{α β:Type}{R:α->β->Prop}{l:List α}{m:List β}{a:α}{b:β}(h:Paired R l m)(r:R a b):Paired R (l++[a]) (m++[b]):=by
 induction h with
 |nil=>apply .cons r .nil
 |cons r' _ ih=>apply .cons r' ih
theorem Up(h:IntsAre aA ns):∀(l:List Nat),(∀i∈l,i<ns.length)->aT ((l.map λi=>ns.getD i 0).map V.int) (l.map λi=>aA.getD i Value.none)
 |[],_=>.nil
 |i::l,hl=>by
  have hi:=hl i aap;have Ms:i<aA.length:=by rw[h.length];apply hi
  let#[n,t,e1,e2]:=IntsAre.at h (abe Ms);refine .cons ?_ (Up h l λj m=>hl j (aao _ m));show RelV (V.int (ns.getD i 0)) (aA.getD i Value.none);rw[adv,adv,e1,abe Ms,e2];apply#[t,rfl]
def ahI{ns:List Int}{q:Array Nat}(P:bf ns.length q):(q.toList.map λi=>ns.getD i 0).Perm ns:=by
 have h:=(ahU.mp P).map λi=>ns.getD i 0
 have e:((List.range ns.length).toArray.toList.map λi=>ns.getD i 0)=ns:=by
  refine List.ext_getElem (by simp) λi h1 h2=>?_
  simp[adv,h2]
 rw[e] at h;apply h
section
variable{j:Nat}{te:Addr->Addr->Shared->Hp->TE}
def aiw{H2:Hp}{p f c':Addr}{iO pm:Value}{v1:V}{ns:List Int}{pr:Int->Int×Int}{Q:VK}(I:Inv X ((f,kla_obj "<lambda>" q args body sc [(y,c)] pm c' iO)::af) U H2 s)(S:C9 sc args x y)(hc:H2 c'=some (.ja q))
  (oq:X.env.cells.lookup y=some c) (hj:X.N[j]? = some y) (hv:U[j]? = some (some v1)) (qF:X.env.scope.names.lookup y=some .cell) (zc:X.A.in1.in1.depth<recursionLimit)
  (hb:∀f c' s H,PE (sN X X.A.in1.in1 x y q sc f (.ref c') [(y,c)] s H) body (te f c' s H)) (hq:ck X.K H2 p (ns.map V.int)) (lG:ns.length<64) (nd:(ns.map pr).Nodup)
  (ht:∀s H3,aJ H2 H3->∀n∈ns,te f c' s H3 [some (.int n),some v1] H3 λv H4=>∃k,v=.ref k/\bK X.K H4 k [.int (pr n).1,.int (pr n).2]/\aJ H3 H4)
  (hQ:∀(Hf) (D) (eY:List Int),aJ H2 Hf->H2 D=none->Hf D=some (.lst (eY.map V.int))->eY.Perm ns->eY.Pairwise (λa b=>lex (pr a) (pr b)=true)->Q (.ref D) Hf) :
  wpAny (model X.prog X.w) X.A (call (.builtin "sorted") [.ref p] [(Str.ofString "key",.ref f)]) (EP X af U Q) X.xe s:=by
 let#[aA,ri,pl,hz]:=I.list hq;have hi:=intsAre_of ri;have li:=hi.length;have zl:aA.length<=sizeLine:=by rw[afm];lia
 refine call_function_entry_kw kind_sorted plain_sorted entry_sorted (ksk_s1 _ _) ?_;unfold Builtin.«sorted»;refine aal (abc ?_);refine aal (collect_list pl.isList ?_ zl);refine aal (wpAny_newList ?_ zl);generalize Ou:(s.heap.push (seqObj "list" ([].toArray) 0)).update s.heap.objs.size (Obj.mapSeq (·++aA.toArray))=h3;have k3:∀b o,s.heap.get? b=some o->h3.get? b=some o:=λb o e=>by
  rw[<- Ou,ahA _ _ _ _ (acy (aa5 e))];apply aak _ e
 have z3:h3.objs.size=s.heap.objs.size+1:=by rw[<- Ou,Heap.size_update,size_push']
 have hD:(h3.push (seqObj "list" aA.toArray 0)).get? h3.objs.size=some (seqObj "list" aA.toArray 0):=abx _ rfl;refine aal (afy (wpAny_call_entry_kw slot_list_sort #[_,hD,rfl] entry_list_sort ?body (ksk_l1 _ _)))
 case body=>
  rw[ksk_t1];obtain⟨e1,OG⟩:∃e1,((h3.push (seqObj "list" aA.toArray 0)).update h3.objs.size (Obj.mapSeq λ_=>(([].toArray):Array Value))).get? h3.objs.size=some (seqObj "list" ([].toArray) e1):=#[_,get?_update_seq hD λ_=>([].toArray)]
  unfold ksk_tree;refine aal (listItems_at hD rfl ?_);refine aal (listUpdate_at hD rfl ?_ (by rw[ab0];apply zl) (adN _));refine aal (seqEpoch_at OG rfl ?_);refine aal (wpAny_newTuple ?_ (by show aA.length<=_;apply zl));refine aal (wpAny_newList ?_ (adN _));refine afy ?_;generalize Hw:((h3.push (seqObj "list" aA.toArray 0)).update h3.objs.size (Obj.mapSeq λ_=>(([].toArray):Array Value))).push (seqObj "tuple" aA.toArray 0)=h6;have z6:h6.objs.size=s.heap.objs.size+3:=by rw[<- Hw,size_push',Heap.size_update,size_push',z3]
  have k6:∀b o,s.heap.get? b=some o->h6.get? b=some o:=λb o e=>by
   have cI:=aa5 e;rw[<- Hw];refine aak _ ?_;rw[ahA _ _ _ _ (acy (acV cI (by rw[z3];apply af1 _)))];apply aak _ (k3 b o e)
  have hD6:h6.get? h3.objs.size=some (seqObj "list" ([].toArray) e1):=by rw[<- Hw];apply aak _ OG
  generalize hDe:h3.objs.size=D at *;generalize hKe:h6.objs.size=kS at *;have fD:=I.pN (H':=λ_=>none) (b:=D) (by lia) rfl;have fK:=I.pN (H':=λ_=>none) (b:=kS) (by lia) rfl;have HV:D≠kS:=by lia
  have HM:∀{H:Hp}{s':Shared} {b} {o},iw X ((f,kla_obj "<lambda>" q args body sc [(y,c)] pm c' iO)::af) (λ_=>none) b->H b=none->s'.heap.get? b=some o->(∀v,o.data≠.cell v)->
    s'.heap.get? b=some o/\H b=none/\b≠X.env.locals/\b∉X.fs/\∀v,o.data≠.cell v:=λF a b d=>#[b,a,F.2.1,F.2.2.1,d]
  have J0:Inv X ((kS,seqObj "list" (List.map Value.ref []).toArray 0)::(D,seqObj "list" ([].toArray) e1)::(f,kla_obj "<lambda>" q args body sc [(y,c)] pm c' iO)::af) U H2 { s with heap:=h6.push (seqObj "list" ([].toArray) 0) }:=by
   have J:=I.kept (h':=h6.push (seqObj "list" ([].toArray) 0)) (t':=s.toks) λb o e=>aak _ (k6 b o e)
   refine J.sO λp hp=>?_
   rcases aat.mp hp with rfl|hp
   .exact HM fK (I.aH.fresh (by lia)) (by rw[<- hKe];apply abx _ rfl) (λv z=>by ext z)
   .rcases aat.mp hp with rfl|hp
    .exact HM fD (I.aH.fresh (by lia)) (aak _ hD6) (λv z=>by ext z)
    .exact J.pin p (aaM _ hp)
  unfold ksk_rest;refine aal (ajy ?_);rw[List.forIn_toArray];refine aal (ksk_fold (λi s'=>∃(H:Hp) (qs:List Addr) (e:Nat),Inv X ((kS,seqObj "list" (qs.map Value.ref).toArray e)::(D,seqObj "list" ([].toArray) e1)::(f,kla_obj "<lambda>" q args body sc [(y,c)] pm c' iO)::af) U H s'/\aJ H2 H/\
   Paired (λk n=>bK X.K H k [.int (pr n).1,.int (pr n).2]) qs (ns.take i)) aA 0 _ #[H2,[],0,J0,aJ.refl _,.nil] (λi u s' hu hI=>?_) λs' hI=>?_)
  .rw[ajp] at hI ⊢;let#[H,qs,e,J,sm,pd]:=hI;let#[n,t,en,rfl]:=IntsAre.at hi hu;have ln:=Paired.length pd;have uF:=(acN.mp en).1;rw[ahs] at ln;refine aal (wpAny_attempt (ad1 (aim (v0:=.int n) (E:=λ_ _=>False) J S (aao _ (aao _ aap)) (sm _ _ hc) oq hj hv qF #[t,rfl] rfl rfl zc (hb f c' s' H) (ht s' H sm n (aiS en))) (λk gH hk=>?_) λ_ _ z=>z.elim));let#[v,H',J',rv,k',rfl,sq,xX]:=hk;obtain rfl:k=.ref k':=rv;have pk:=(J'.pin _ (aaM _ aap))
   have ea:((qs.map Value.ref).toArray).push (.ref k')=((qs++[k']).map Value.ref).toArray:=by simp
   obtain⟨c2,Jx⟩:∃c2,(gH.heap.update kS (Obj.mapSeq (·.push (.ref k')))).get? kS=some (seqObj "list" ((qs++[k']).map Value.ref).toArray c2):=#[_,by rw[<- ea];apply get?_update_seq pk.1 (·.push (.ref k'))]
   dsimp only;refine aal (listUpdate_at pk.1 rfl ?_ (by rw[ab0,List.length_map,ln,afm];lia) (adJ (Nat.le_of_eq (Array.size_push ..)) (by rw[ab0,List.length_map,ln,afm];lia)));refine abc #[rfl,H',qs++[k'],c2,?_,sm.trans xX,?_]
   .have J1:=J'.sO λp hp=>J'.pin p (aaM _ (aao _ hp))
    have J2:=J1.turned (h':=gH.heap.update kS (Obj.mapSeq (·.push (.ref k')))) (t':=gH.toks) (λb o n e=>(ahA _ _ _ _ n).trans e) pk.2.1 fK.2.1 fK.2.2.2.1 fK.2.2.2.2.1 λp hp=>by
     rcases abB.mp hp with hp|hp
     .exact fK.2.2.2.2.2 p (aaZ _ hp)
     .rcases aat.mp hp with rfl|hp
      .exact HV
      .exact fK.2.2.2.2.2 p (aaM _ hp)
    refine J2.sO λp hp=>?_
    rcases aat.mp hp with rfl|hp
    .exact HM fK pk.2.1 Jx (λv z=>by ext z)
    .exact J2.pin p (aaM _ hp)
   .rw[List.take_succ,en];apply Paired.VC (Paired.B7 pd λk n r=>by
     rcases r with(r|⟨o,r⟩)|r
     .exact .inl (.inl (xX _ _ r))
     .exact .inl (.inr #[o,xX _ _ r])
     .exact .inr r) sq
  .rw[ajp] at hI;let#[H,qs,e,J,sm,pd]:=hI;rw[li,List.take_length] at pd;have lq:=Paired.length pd;have pk:=(J.pin _ (aaM _ aap))
   have pD:=(J.pin _ (aaM _ (aao _ aap)))
   refine aal (listItems_at pk.1 rfl ?_);have pp:∀{l} {qs},Paired (λk n=>bK X.K H k [.int (pr n).1,.int (pr n).2]) qs l->Paired (IsPair s'.heap) qs (l.map pr):=by
    intro l qs r
    induction r with
    |nil=>apply .nil
    |cons r _ ih=>
     refine .cons ?_ ih;let#[it,rv,tp,_]:=J.tuple r;let#[t,u,rfl]:=WO rv;apply#[t,u,tp]
   refine aiC (by lia) (by rw[lq,li]) (pp pd) nd pk.1 pD.1 HV λq2 P2 S2=>?_
   rw[li] at P2 S2;have ql:∀i∈q2.toList,i<ns.length:=λi m=>by
    have:=(ahU.mp P2).mem_iff.mp m;simpa using this
   refine#[_,rfl,abc #[_,rfl,?_]];have J1:=J.sO λp hp=>J.pin p (aaM _ (aao _ (aao _ (aao _ hp))))
   have np:∀{b},iw X ((f,kla_obj "<lambda>" q args body sc [(y,c)] pm c' iO)::af) (λ_=>none) b->∀p∈X.pn++af,p.1≠b:=λF p hp=>F.2.2.2.2.2 p ((abB.mp hp).elim (λz=>aaZ _ z) λz=>aaM _ (aao _ z))
   have J2:=J1.turned (h':=s'.heap.update kS (Obj.mapSeq λ_=>([].toArray))) (t':=s'.toks) (λb o n e=>(ahA _ _ _ _ n).trans e) pk.2.1 fK.2.1 fK.2.2.2.1 fK.2.2.2.2.1 (np fK);have J3:=J2.turned (h':=(s'.heap.update kS (Obj.mapSeq λ_=>([].toArray))).update D (Obj.mapSeq λ_=>(q2.toList.map λi=>aA.getD i Value.none).toArray)) (t':=s'.toks) (λb o n e=>(ahA _ _ _ _ n).trans e) pD.2.1 fD.2.1 fD.2.2.2.1 fD.2.2.2.2.1 (np fD);have hDf:=get?_update_seq (h:=s'.heap.update kS (Obj.mapSeq λ_=>([].toArray))) ((ahA _ _ _ _ HV).trans pD.1) λ_=>(q2.toList.map λi=>aA.getD i Value.none).toArray
   refine#[.ref D,upd H D (.lst ((q2.toList.map λi=>ns.getD i 0).map V.int)),J3.Bm pD.2.1 #[?_,fD.2.1,fD.2.2.2.2.1,np fD] #[?_,_,_,Up hi _ ql,hDf],rfl,hQ _ D _ (λb o e=>?_) ?_ bI (ahI P2) ?_]
   .exact aje (by have:=I.sz;lia)
   .rw[List.length_map,List.length_map,ae9,bf.sz P2,afm];lia
   .rw[aM (cO (sm b o e) pD.2.1)];apply sm b o e
   .cases e:H2 D with
    |none=>rfl
    |some o=>have:=sm D o e;rw[pD.2.1] at this;ext this
   .rw[aji];intro i k hi hk YX;have hq:∀i,i<ns.length->(hx:i<(q2.toList.map λi=>ns.getD i 0).length)->pr ((q2.toList.map λi=>ns.getD i 0)[i])=(ns.map pr).getD (q2.getD i 0) (0,0):=λi hi hx=>by
     have hs:i<q2.size:=by rw[bf.sz P2];apply hi
     have cI:=bf.lt P2 hi;rw[List.getElem_map,getD_at hs];rw[getD_at hs] at cI;simp[adv,cI]
    have hz:(q2.toList.map λi=>ns.getD i 0).length=ns.length:=by rw[List.length_map,ae9,bf.sz P2]
    rw[hq i (by lia) hi,hq k (by lia) hk];apply S2 i k YX (by lia)
def QC(K:Fr)(j:Nat)(te:Addr->Addr->Shared->Hp->TE)(U:St)(Q:VK)(x:V)(H1:Hp):Prop:=∃(p:Addr) (ns:List Int) (pr:Int->Int×Int) (v1:V),x=.ref p/\ck K H1 p (ns.map V.int)/\ns.length<64/\(ns.map pr).Nodup/\U[j]? = some (some v1)/\
 (∀f c' s H3,aJ H1 H3->∀n∈ns,te f c' s H3 [some (.int n),some v1] H3 λv H4=>∃k,v=.ref k/\bK K H4 k [.int (pr n).1,.int (pr n).2]/\aJ H3 H4)/\
 ∀(Hf) (D) (eY:List Int),aJ H1 Hf->H1 D=none->Hf D=some (.lst (eY.map V.int))->eY.Perm ns->eY.Pairwise (λa b=>lex (pr a) (pr b)=true)->Q (.ref D) Hf
def tSK(K:Fr)(j:Nat)(ta:TE)(te:Addr->Addr->Shared->Hp->TE):TE:=λU H Q=>ta U H (QC K j te U Q)
def YB{a:Expr}{ta:TE}{p kp pos jP:Pos}{f0:Addr}{o0:Obj}(hm:X.mg "sorted"=none)(ha:PE X a ta)(S:C9 sc args x y)(lk:X.K.lookup f0=some o0)(sh:wD o0=some (X.env.code,q,jP))(hq:X.env.qual++"<lambda>"=q)(wA:closureFor sc X.env=pure [(y,c)])
  (oq:X.env.cells.lookup y=some c) (hj:X.N[j]? = some y) (qF:X.env.scope.names.lookup y=some .cell) (zc:X.A.in1.in1.depth<recursionLimit) (hb:∀f c' s H,PE (sN X X.A.in1.in1 x y q sc f (.ref c') [(y,c)] s H) body (te f c' s H))
  (yZ:defaultsOf args X.env=([],[]):=by rfl) (hg:Gl X "sorted":=by rfl) (hs:starEach [a] X.env=[(false,eval a X.env)]:=by rfl)
  (h1:backTo pos (starEach [a] X.env)=(false,eval a X.env)::backTo pos (starEach [] X.env):=by rfl) (h2:(backTo pos (starEach [a] X.env)).any (·.1)=false:=by rfl)
  (h3:(backToKw pos (keywordEach [#[some "key",.Lambda args body sc jP,kp]] X.env)).all (·.1.isSome)=true:=by rfl) (h4:(backToKw pos (keywordEach [#[some "key",.Lambda args body sc jP,kp]] X.env)).any (·.1.isNone)=false:=by rfl)
  (h5:(backToKw pos (keywordEach [#[some "key",.Lambda args body sc jP,kp]] X.env)).filterMap (·.1)=[("key":Str)]:=by rfl) :
  PE X (.Call (.Name "sorted" p) [a] [#[some "key",.Lambda args body sc jP,kp]] pos) (tSK X.K j ta te):=by
 intro af s U H Q I h;refine afo (nZ I hg hm (show bootBuiltins "sorted"=some (.builtin "sorted") by decide +kernel) ?_ (by decide) (by decide));refine callWith_kw ?_ h1 h2 h3 h4;rw[h5];refine tU (eO ha f7 hs pos af s U H (λvs H1=>match vs with|[x]=>QC X.K j te U Q x H1|_=>False) I h) λus s1 vs H1 I1 rv q1=>?_
 rcases vs with _|⟨x,_|⟨x2,r2⟩⟩
 .exact q1.elim
 .let#[u,rfl,ru]:=vals1 rv;let#[p,ns,pr,v1,rfl,lQ,lG,nd,hv,ht,hQ]:=q1;ext ru;refine kws_cons (adH I1 lk sh yZ wA hq λf c' iO pm H' s' J sm hc=>kws_nil ?_);refine aiw J S hc oq hj hv qF zc hb (lQ.elim (λz=>.inl (z.elim (λz=>.inl (sm _ _ z)) λ⟨o,z⟩=>.inr #[o,sm _ _ z])) .inr) lG nd (λs H3 xX=>ht f c' s H3 (sm.trans xX)) λHf D eY s1 n1=>hQ Hf D eY (sm.trans s1) ?_
  cases e:H1 D with
  |none=>rfl
  |some o=>have:=sm D o e;rw[n1] at this;ext this
 .exact q1.elim
end
end L2
namespace L2.Ev
open PySem PySem.Spec PyProof.Rows
def vI(pr:Int->Int×Int)(x:Int):List Int->List Int
 |[]=>[x]
 |y::r=>if lex (pr x) (pr y)=true then x::y::r else y::vI pr x r
def iY(pr:Int->Int×Int):List Int->List Int
 |[]=>[]
 |x::r=>vI pr x (iY pr r)
theorem Gh(x:Int):∀l:List Int,(vI pr x l).Perm (x::l)
 |[]=>.refl _
 |y::r=>by
  unfold vI
  split
  .exact .refl _
  .exact((Gh x r).cons y).trans (.swap x y r)
theorem yk:∀l:List Int,(iY pr l).Perm l
 |[]=>.refl _
 |x::r=>(Gh x (iY pr r)).trans ((yk r).cons x)
def lex_trans(h:lex a b=true)(g:lex b c=true):lex a c=true:=by
 have h:=aaY h;have g:=aaY g;apply aa1 (by lia)
def Zi(h:a≠b)(g:¬lex a b=true):lex b a=true:=by
 have n2:¬(a.1=b.1/\a.2=b.2):=λz=>h (Prod.ext z.1 z.2)
 have g:¬(a.1<b.1\/a.1=b.1/\a.2<b.2):=λz=>g (aa1 z)
 apply aa1 (by omega)
theorem Tw(x:Int):∀{l},(∀y∈l,pr x≠pr y)->l.Pairwise (λa b=>lex (pr a) (pr b)=true)->(vI pr x l).Pairwise (λa b=>lex (pr a) (pr b)=true)
 |[],_,_=>ai1 _ _
 |y::r,n,h=>by
  let#[h1,h2]:=aeh.mp h;unfold vI
  split
  .rename_i hx;apply aeh.mpr #[λz m=>(aat.mp m).elim (λe=>e ▸ hx) λm=>lex_trans hx (h1 z m),h]
  .rename_i hx;refine aeh.mpr #[λz m=>?_,Tw x (λy m=>n y (aao _ m)) h2];rcases aat.mp ((Gh x r).mem_iff.mp m) with e|m
   .rw[e];apply Zi (n y aap) hx
   .exact h1 z m
theorem O6:∀{l},(l.map pr).Nodup->(iY pr l).Pairwise (λa b=>lex (pr a) (pr b)=true)
 |[],_=>.nil
 |x::r,n=>by
  rw[aas] at n;let#[n1,n2]:=ab3.mp n;apply Tw x (λy m e=>n1 (abG.mpr #[y,(yk r).mem_iff.mp m,e.symm])) (O6 n2)
def NF(p:a.Perm b)(n:(b.map pr).Nodup)(s:a.Pairwise (λa b=>lex (pr a) (pr b)=true)):a=iY pr b:=by
 have q:a.Perm (iY pr b):=p.trans (yk b).symm;refine q.eq_of_pairwise (λx y _ _ h1 h2=>?_) s (O6 n);have h1:=aaY h1;have h2:=aaY h2
 lia
def qT(fb:EF)(dc:D)(n:Int):Option (Int×Int):=match fb [some (.int n,.own),some (dc,.sh [])] with
 |some (.tup [.int a,.int b],_)=>some (a,b)
 |_=>none
def wm(fb:EF)(dc:D)(n:Int):Int×Int:=(qT fb dc n).getD (0,0)
def Lx(j:Nat)(fa fb:EF):EF:=λY=>match fa Y,Y[j]? with
 |some (.lst ds,_),some (some (dc,_))=>match eU ds with
  |some ns=>if ns.length<64/\(ns.map (wm fb dc)).Nodup/\∀n∈ns,(qT fb dc n).isSome=true then some (.lst ((iY (wm fb dc) ns).map D.int),.own) else none
  |none=>none
 |_,_=>none
def Yi(j:Nat)(hm:X.mg "sorted"=none)(ha:FP X a fa)(S:C9 sc args x y)(lk:X.K.lookup f0=some o0)(sh:wD o0=some (X.env.code,q,jP))(zc:X.A.in1.in1.depth<recursionLimit)
  (hb:∀f c' s H,FP (sN X X.A.in1.in1 x y q sc f (.ref c') [(y,c)] s H) body fb) (hq:X.env.qual++"<lambda>"=q:=by rfl) (wA:closureFor sc X.env=pure [(y,c)]:=by rfl)
  (oq:X.env.cells.lookup y=some c:=by rfl) (hj:X.N[j]? = some y:=by rfl) (qF:X.env.scope.names.lookup y=some .cell:=by rfl)
  (yZ:defaultsOf args X.env=([],[]):=by rfl) (hg:Gl X "sorted":=by rfl) (hs:starEach [a] X.env=[(false,eval a X.env)]:=by rfl)
  (h1:backTo pos (starEach [a] X.env)=(false,eval a X.env)::backTo pos (starEach [] X.env):=by rfl) (h2:(backTo pos (starEach [a] X.env)).any (·.1)=false:=by rfl)
  (h3:(backToKw pos (keywordEach [#[some "key",.Lambda args body sc jP,kp]] X.env)).all (·.1.isSome)=true:=by rfl) (h4:(backToKw pos (keywordEach [#[some "key",.Lambda args body sc jP,kp]] X.env)).any (·.1.isNone)=false:=by rfl)
  (h5:(backToKw pos (keywordEach [#[some "key",.Lambda args body sc jP,kp]] X.env)).filterMap (·.1)=[("key":Str)]:=by rfl) :
  FP X (.Call (.Name "sorted" p) [a] [#[some "key",.Lambda args body sc jP,kp]] pos) (Lx j fa fb):=by
 let#[ta,pa,sa]:=ha;refine#[_,YB hm pa S lk sh hq wA oq hj qF zc (λf c' s H=>(hb f c' s H).choose_spec.1) yZ hg hs h1 h2 h3 h4 h5,@λH0 S' z aq Y U H Q d tg ok e k=>?_];unfold Lx at e
 split at e
 .rename_i ds t1 dc t2 e1 e2
  split at e
  .rename_i ns uG
   split at e
   .rename_i hc;ext e;let#[lG,nd,hk]:=hc;refine sa ok e1 λH1 v fp s1 r1 g1=>?_
    let#[l,xs,f',rfl,lQ,rs,_]:=r1.dM;have ex:=uq rs uG;subst ex;let#[vc,fc,ZK,rc,_]:=ok.sl j dc t2 e2;refine#[l,ns,wm fb dc,vc,rfl,lQ,lG,nd,ZK,λf c' s H3 s3 n mn=>?_,λHf D eY sf nD hD pm st=>?_]
    .let#[kk,ek]:=ago.mp (hk n mn);have CA:=ek;unfold qT at CA
     split at CA
     .rename_i a b tb eb;ext CA;have gR:Ok X.K H3 [] (λ_=>none) [] [some (.int n,.own),some (dc,.sh [])] [some (.int n),some vc] H3:=by
       refine#[λi d t e=>?_,(λp m=>nomatch m),(λa j e=>nomatch e),λa o e _=>e,rfl]
       match i,e with
       |0,e=>ext e;apply#[_,[],rfl,.int n,acv,λa m=>nomatch m]
       |1,e=>ext e;apply#[vc,fc,rfl,(rc.same s1).same s3,λa m j e=>nomatch e]
       |i+2,e=>apply absurd e (by simp)
      refine(hb f c' s H3).choose_spec.2 gR eb λH4 v fp s4 r4 _=>?_
      let#[w,xs,rfl,hw,fu]:=r4.gY;refine#[w,rfl,?_,s4];have e1:(wm fb dc n)=(a,b):=by unfold wm;rw[ek];rfl
      rw[e1];cases fu with
      |cons h1 r=>cases r with
       |cons h2 r=>ext r;ext h1;ext h2;apply hw
     .cases CA
    .have eq:=NF pm nd st;subst eq;refine k Hf _ [D] (s1.trans sf) (.lst hD (yV _)) #[ab3.mpr #[(λm=>nomatch m),acv],λa m=>?_];cases aaK.mp m;apply s1.free nD
   .cases e
  .cases e
 .cases e
def FY(X:Cx)(e:Expr)(f:XF):Prop:=∃t,PE X e t/\∀{H0} {S} {z} {aq} {Y} {U} {H} {Q} {d} {Y'},
 Ok X.K H0 S z aq Y U H->f Y=some (d,Y')->(∀z' H' v,Ok X.K H0 S z' aq Y' U H'->bu H H'->Rep X.K H' d v []->Q v H')->t U H Q
def FY.fz(h:FY X e f):FZ X e f:=let#[t,p,q]:=h;#[t,p,@λH0 S z aq Y U H Q d Y' ok e k=>q ok e λz' H' v o _ r=>k z' H' v o r]
def sM(i:Nat)(hC:ClsAt X.K cn C)(hm:kD X.K C m fa)(GG:bQ X.prog X.w X.K X.mg X.base dQ k fa fd ps (dW X.K G))(hr:bz k X.A)(hb:Binds X.K fd ps [])(ha:FA X (e::es) g)(va:VA X i x:=by walk_at "va")
  (dJ:SE X e es pos:=by apply#[rfl,rfl])
  (ht:wo X (.Name x p1) m apos (e::es) pos pl:=by apply rfl):FY X (.Call (.Attribute (.Name x p1) m apos) (e::es) [] pos) (xO i cn m G g):=by
 let#[ta,pa,_,qa]:=ha;refine#[_,A_ va.pe hC.cl hm GG hr hb .nil m_ pa dJ.1 dJ.2 ht,@λH0 S z aq Y U H Q d Y' ok e0 kk=>?_];let#[su,qs,d1,h1,h2,hm,j_,hG,rfl]:=N9 e0;let#[v,aO,hs,r0,zz]:=ok.sl i _ _ h1;refine#[v,hs,?_];let#[b,dx,fs,gf,rfl,Ly,h4,h5,h6,h7]:=r0.kQ hC.ns;refine#[b,dx,fs,rfl,h4,tL h6 hm,?_];refine qa ok h2 λH2 vs i8 s2 r2 g2=>?_
 rw[acU];refine#[b,vs,_,aO,_,i8,d,d1,rfl,r0.same s2,zz.1,r2,yy ok j_ g2 zz,hG,λH3 u aY im kp r1 nd fr rr=>?_];let#[z',gR]:=(ok.same s2).put h1 hs zz im kp r1 nd fr;apply kk z' H3 u gR ((bu.of s2).trans im) rr
def wc(i:Nat)(cn fl gA m:Str)(G:MF)(g:AF):XF:=λY=>match Y[i]?,g Y with
 |some (some (.ins c es,.own)),some ps=>match es.lookup fl with
  |some (.ins c2 gJ)=>if c=cn/\c2=gA/\gJ.lookup m=none/\apart i ps=true then(G (.ins c2 gJ) (ps.map (·.1))).map λw=>(w.1,cJ Y i (.ins c (eF fl w.2 es))) else none
  |_=>none
 |_,_=>none
def ahO(i:Nat)(hC:ClsAt X.K cn C)(na:iR X.K C fl)(za:ClsAt X.K gA C2)(hm:kD X.K C2 m fa)(GG:bQ X.prog X.w X.K X.mg X.base dQ k fa fd ps (dW X.K G))(hr:bz k X.A)(hb:Binds X.K fd ps [])(ha:FA X (e::es) g)(va:VA X i x:=by walk_at "va")
  (wZ:attributeBase (.Name x p1) fl X.env (eval (.Name x p1) X.env)=eval (.Name x p1) X.env:=by rfl)
  (dJ:SE X e es pos:=by apply#[rfl,rfl])
  (ht:wo X (.Attribute (.Name x p1) fl p2) m apos (e::es) pos pl:=by apply rfl):FY X (.Call (.Attribute (.Attribute (.Name x p1) fl p2) m apos) (e::es) [] pos) (wc i cn fl gA m G g):=by
 let#[ta,pa,_,qa]:=ha;refine#[_,A_ (qR va.pe wZ) za.cl hm GG hr hb .nil m_ pa dJ.1 dJ.2 ht,@λH0 S z aq Y U H Q d Y' ok e0 kk=>?_];unfold wc at e0
 split at e0
 .rename_i c es1 qs h1 h2
  split at e0
  .rename_i c2 gJ hl
   by_cases hc:c=cn/\c2=gA/\gJ.lookup m=none/\apart i qs=true
   .rw[if_pos hc] at e0;let#[rfl,rfl,hlm,j_]:=hc;let#[w,hG,ew]:=ac3.mp e0;ext ew;let#[v,aO,hs,r0,zz]:=ok.sl i _ _ h1;refine#[v,hs,?_];let#[b0,dx,fs,u,gf,rfl,a1,a2,a3,a4,a5,a6]:=r0.place hC.ns zz.1 hl;refine#[b0,C,dx,fs,u,rfl,a1,hC.cl,na,a2,?_];let#[b,Vb,fs2,g2,rfl,Ly,c4,c5,c6,c7]:=a3.kQ za.ns;refine#[b,Vb,fs2,rfl,c4,tL c6 hlm,?_];refine qa ok h2 λH2 vs i8 s2 r2 gg=>?_
    rw[acU];refine#[b,vs,_,gf,_,i8,w.1,w.2,rfl,a3.same s2,a4,r2,λx m n=>yy ok j_ gg zz x m (a5 x n),hG,λH3 u' aY im kp r1 nd fr rr=>?_];have i3:=(bu.of s2).trans im;have k3:∀b o,b∉gf->H b=some o->H3 b=some o:=λb o n e=>kp b o n (s2 b o e)
    let#[Ke,k1,k2,k4]:=a6 H3 w.2 aY i3 k3 r1 nd λb m=>(fr b m).imp id s2.free
    let#[z',gR]:=ok.put h1 hs zz i3 (λb o n e=>k3 b o (λm=>n (a5 b m)) e) k1 k2 k4;apply kk z' H3 u' gR i3 rr
   .rw[abm hc] at e0;ext e0
  .cases e0
 .cases e0
def Bg(i:Nat)(G:MF)(g:AF):XF:=λY=>match Y[i]?,g Y with
 | some (some (d0,.own)),some ps=>if apart i ps=true then(match G d0 (ps.map (·.1)) with
  |some (r,d1)=>if aB r=true then some (r,cJ Y i d1) else none
  |none=>none) else none
 |_,_=>none
def NC(i:Nat)(GG:bQ X.prog X.w X.K X.mg X.base dQ k fa fd ps (kY X.K G))(hr:bz k X.A)(hm:X.mg x=some (.ref fa))(hk:PySem.W.keepIn X.K (.ref fa)=true)(hb:Binds X.K fd ps [])(ha:FA X es g)
  (va:VA X i xn:=by walk_at "va")
  (hg:GD X x:=by apply#[rfl,by decide]) (he:starEach (.Name xn p1::es) X.env=(false,eval (.Name xn p1) X.env)::starEach es X.env:=by rfl) (hpl:(backTo pos (starEach es X.env)).any (·.1)=false:=by rfl) :
  FY X (.Call (.Name x p) (.Name xn p1::es) [] pos) (Bg i G g):=by
 let#[t,pa,_,sa]:=ha;refine#[_,O0 GG hr hg.1 hm hk hb .nil m_ (eO va.pe pa he) hg.2 he hpl,@λH0 S z aq Y U H Q d Y' ok e0 kk=>?_];unfold Bg at e0
 split at e0
 .rename_i d0 qs h1 h2
  by_cases j_:apart i qs=true
  .rw[if_pos j_] at e0
   split at e0
   .rename_i r d1 h3
    by_cases hi:aB r=true
    .rw[if_pos hi] at e0;ext e0;let#[v,aO,hs,r0,zz]:=ok.sl i _ _ h1;refine#[v,hs,?_];refine sa ok h2 λH2 vs i8 s2 r2 g2=>?_
     show kY X.K G ((v::vs)++[]) H2 Q E0;rw[acU];refine#[v,vs,d0,aO,_,i8,d,d1,rfl,r0.same s2,zz.1,r2,yy ok j_ g2 zz,h3,λH3 u aY eX im kp r1 nd fr rr RV J8=>?_];have hn:=rr.aB hi;subst hn;let#[z',gR]:=(ok.same s2).put h1 hs zz im kp r1 nd fr;apply kk z' H3 u gR ((bu.of s2).trans im) rr
    .rw[abm hi] at e0;ext e0
   .cases e0
  .rw[abm j_] at e0;ext e0
 .cases e0
def tZ(f:XF):aR->Option (Bool×aR):=λY=>match f Y with
 |some (.bl b,Y')=>some (b,Y')
 |_=>none
def agO(h:FZ X a f)(he:∀whole,isTrue a X.env whole=(do let v <- whole;standAt a.pos;holding [v] (truthy v)):=by intro _;rfl):BU X a (tZ f):=by
 let#[t,p,q]:=h;refine#[_,MK p he,@λH0 S z aq Y U H Q c Y' ok e k=>?_];unfold tZ at e
 split at e
 .rename_i c' aP h1;ext e;refine q ok h1 λz' H' v bg r=>?_
  ext r;apply#[_,rfl,k z' H' bg]
 .cases e
def l6(c:aR->Option (Bool×aR))(f:SF):Nat->SF
 |0,_=>none
 |n+1,Y=>match c Y with
  |some (false,aP)=>some (.nx aP)
  |some (true,aP)=>match f aP with
   |some (.nx Y')=>l6 c f n Y'
   |_=>none
  |none=>none
def aeO(n:Nat)(hc:BU X c tc)(hb:FS X body fb)(hp:PassesOwn (model X.prog X.w) X.A X.env X.xe:=by apply PassesOwn.never):fj X (.While c body [] pos) (l6 tc fb n):=by
 let#[t,p,q]:=hc;let#[tb,pb,qb]:=hb;exists 23,RH hp p pb;refine#[λm aE H'=>∃z' Y',Ok X.K H0 S z' aq Y' aE H'/\l6 tc fb m Y'=some o/\Kp X U aE,#[n,z,Y,ok,e,.refl _ _],?_]
 rintro m aE H' ⟨z',Y',bg,e',kp⟩
 cases m with
 |zero=>ext e'
 |succ m=>
  unfold l6 at e'
  split at e'
  .rename_i aP hc;ext e';refine q bg hc λz1 H1 cM=>?_
   rw[abm aa3];apply k z1 aE H1 cM kp
  .rename_i aP hc;refine q bg hc λz1 H1 cM=>?_
   rw[if_pos rfl]
   split at e'
   .rename_i aQ hf;refine#[λiE H2=>∃z2 aQ,Ok X.K H0 S z2 aq aQ iE H2/\l6 tc fb m aQ=some o/\Kp X U iE,λiE H2 hn=>#[m,aid m,hn],?_];apply qb cM hf λz3 dD H3 i0 b=>#[z3,aQ,i0,e',kp.trans b]
   .cases e'
  .cases e'
def vn(f g:XF):XF:=λY=>match f Y with
 |some (.bl true,Y')=>some (.bl true,Y')
 |some (.bl false,Y')=>match g Y' with
  |some (.bl b,aQ)=>some (.bl b,aQ)
  |_=>none
 |_=>none
def Vi(ha:FZ X a f)(hb:FZ X b g):FZ X (.BoolOp .Or [a,b] pos) (vn f g):=by
 let#[t,p,q]:=ha;let#[t',p',q']:=hb;refine#[_,YJ p (Uw p'),@λH0 S z aq Y U H Q d Y' ok e k=>?_];unfold vn at e
 split at e
 .rename_i aP h;ext e;refine q ok h λz1 H1 v cM r1=>?_
  ext r1;refine#[true,rfl,?_];rw[if_pos rfl];apply k z1 H1 _ cM (.bl _)
 .rename_i aP h
  split at e
  .rename_i c aQ h2;ext e;refine q ok h λz1 H1 v cM r1=>?_
   ext r1;refine#[false,rfl,?_];rw[abm aa3];apply q' cM h2 k
  .cases e
 .cases e
end L2.Ev
namespace L2
open PySem PySem.Spec PyProof.Rows
section
variable{X:Cx}
def aaU{prog:Program}{w:World}{A:Around}{E:Value->Shared->Prop}{s:Shared}{Q:List Value->Shared->Prop}{r:Addr}{a b c:Int}{t u v:Tok}{n:Nat}(hh:A.handled=none)(hr:IsRange s.heap r a b c t u v)(GN:Builtin.Range.small a b c=true)
  (hn:Builtin.Range.rangeSize a b c=n) (hlen:n<=2 ^ 24)
  (hQ:∀h' tk (acc:Array Value),(∀b o,s.heap.get? b=some o->h'.get? b=some o)->ItemsOf (λi v=>∃t,v=.int (a+i*c) t) acc n->Q acc.toList { s with heap:=h',toks:=tk }) :
  wpAny (model prog w) A (collect (.ref r)) Q E s:=by
 unfold collect;refine aal (wpAny_runValue (afR F.entry_proto_collect ?_));rw[afb F.plain_proto_collect _];show wpAny _ A.in1 (newList [] >>= λl=>again (.builtin "list.__iadd__" #[[l,.ref r],[]])) _ _ s;refine aal (aeN ?_);refine abc #[aiL F.plain_list_iadd _,afR F.entry_list_iadd ?_];rw[afb F.plain_list_iadd _];show wpAny _ A.in1 (Builtin.List.listExtendWith (.ref s.heap.objs.size) (.ref r) (.ref s.heap.objs.size)) _ _ _;have hS:(s.heap.push { cls:=.type "list",data:=.seq ([]:List Value).toArray }).get? s.heap.objs.size=some { cls:=.type "list",data:=.seq ([].toArray) 0 }:=abx _ rfl;have Nb:∀h' tk (acc:Array Value) c',(∀b o,b≠s.heap.objs.size->(s.heap.push { cls:=.type "list",data:=.seq ([]:List Value).toArray }).get? b=some o->h'.get? b=some o)->h'.get? s.heap.objs.size=some { cls:=.type "list",dict:=none,data:=.seq acc c',slots:=([].toArray) }->ItemsOf (λi v=>∃t,v=.int (a+i*c) t) acc n->
   wpAny (model prog w) A (match Value.ref s.heap.objs.size with
   |Value.ref a=>do
    match(<- load a).data with
     |Data.seq xs _=>pure xs.toList
     |_=>unsupported "internal:collect"
   |_=>unsupported "internal:collect") Q E { s with heap:=h',toks:=tk }:=λh' tk acc c' hk wB nX=>by
  show wpAny _ A (load s.heap.objs.size >>= _) _ _ _;refine aal (wpAny_load wB ?_);apply abc (hQ h' tk acc (λb o hb=>hk b o (acy (aa5 hb)) (aak _ hb)) nX)
 refine ad1 (wpAny_extend_range (A:=A) (R:=λr s'=>r=.ok (.ret (.ref s.heap.objs.size))/\∃h' tk acc c',s'={ s with heap:=h',toks:=tk }/\(∀b o,b≠s.heap.objs.size->(s.heap.push { cls:=.type "list",data:=.seq ([]:List Value).toArray }).get? b=some o->h'.get? b=some o)/\h'.get? s.heap.objs.size=some { cls:=.type "list",dict:=none,data:=.seq acc c',slots:=([].toArray) }/\ItemsOf (λi v=>∃t,v=.int (a + i * c) t) acc n)
  (s:={ s with heap:=s.heap.push { cls:=.type "list",data:=.seq ([]:List Value).toArray } }) hh (aak _ hr) GN hn hlen _ _ 0 hS λh' tk acc c' hk wB nX=>#[rfl,h',tk,acc,c',rfl,hk,wB,nX]) (λfin s' h=>?_) (λe s' h=>?_)
 .cases fin with
  |done f=>
   let#[e,h',tk,acc,c',rfl,x1,x2,x3]:=h;ext e;apply Nb h' tk acc c' x1 x2 x3
  |again c'=>apply#[h.1,ai8 h.2 λr gH hr=>by let#[rfl,h',tk,acc,c',rfl,x1,x2,x3]:=hr;apply Nb h' tk acc c' x1 x2 x3]
 .exact absurd h.1 (by simp)
def adO(r:Addr)(a b c:Int)(t u v:Tok)(n:Nat)(GN:Builtin.Range.small a b c=true)(hn:Builtin.Range.rangeSize a b c=n)(hlen:n<=sizeLine):
  Meets (Builtin.«tuple.__new__» #[[.type "tuple",.ref r],[]])
   (λA R s=>A.handled=none/\IsRange s.heap r a b c t u v/\∀(h':Heap) tk (acc:Array Value),(∀b o',s.heap.get? b=some o'->h'.get? b=some o')->ItemsOf (λi v=>∃t,v=.int (a+i*c) t) acc n->R (.ok (.ret (.ref h'.objs.size))) { s with heap:=h'.push { cls:=.type "tuple",data:=.seq acc },toks:=tk }):=
 .of_wp λprog w A R s h=>by
  let#[hp,g,d,tk,os]:=s;let#[hh,hr,h]:=h;have yr:=sub_tuple_self;have ai9:=init_tuple_lookup;have hmh:=madeHere_tuple;have hT:Shared.TypeIs #[hp,g,d,tk,os] (.ref r) "range":=#[_,hr,rfl]
  wp_walk using AutoSeq1.wpAny_loadPart' hr,aja hT,aaU (A:=A.in1) hh hr GN hn (by rw[afm] at hlen;omega)
  intro h' tO acc hk nX;show wpAny _ _ (Builtin.Tuple.tupleExact acc.toList.toArray >>= λv=>ret v) _ _ _;unfold Builtin.Tuple.tupleExact;refine aal (aeN ?_ (by show acc.toList.toArray.size<=sizeLine;rw[Array.toArray_toList,nX.1];apply hlen));refine abc #[_,rfl,?_];rw[Array.toArray_toList];apply h h' tO acc hk nX
def X5(hc:X.calm=true):gO X (.type "tuple") (λxs H Q=>∃p i j,xs=[V.ref p]/\H p=some (.cz i j)/\(-(2 ^ 20)<=i/\i<2 ^ 20/\-(2 ^ 20)<=j/\j<2 ^ 20)/\(j-i).toNat<=sizeLine/\∀l,H l=none->Q (.ref l) (upd H l (.tup ((List.range (j-i).toNat).map λn:Nat=>V.int (i+n))))):=by
 intro af s U H xs us Q I r h;let#[p,i,j,rfl,hp,hb,hz,q]:=h;let#[u,rfl,ru]:=vals1 r;ext ru;let#[t,u',v,hr]:=(show ∃t u v,s.heap.get? p=some { cls:=.type "range",data:=.fields ([.int i t,.int j u,.int 1 v].toArray) } from I.aH p _ hp)
 have e2:Builtin.Range.rangeSize i j 1=((j-i).toNat:Int):=by rw[rangeSize_one];split<;>omega
 refine callType_new F.called_tuple (by decide) (F.typeCall_tuple_1 _) (F.newCall_tuple_1 _) (λobj=>F.args_object_init_2 obj _) F.entry_tuple_new
  (adO p i j 1 t u' v (j-i).toNat (small_one (by omega) (by omega) (by omega) (by omega)) e2 hz) #[I.ok.hd hc,hr,λh' tk acc hk nX=>#[#[_,abx _ rfl,rfl],?_]]
 let#[az,av]:=nX;have vv:aT ((List.range (j-i).toNat).map λn:Nat=>V.int (i+n)) acc.toList:=by
  rw[List.range_eq_range'];refine LY (k:=0) (by simpa using az) λm w e=>?_
  let#[t,e]:=av m w (by simpa using e);apply#[t,by rw[e];simp]
 have I1:Inv X af U H { s with heap:=h',toks:=tk }:=I.kept (t':=tk) hk;apply#[.ref h'.objs.size,_,I1.laid (h':=h'.push { cls:=.type "tuple",data:=.seq acc }) (t':=tk) (λb o e=>aak _ e) (aa9 _) (show dz X.prog X.w _ _ _ (.tup _) from#[by rw[List.length_map,ajd];apply hz,acc.toList,vv,by simpa using lI.new h' acc]),rfl,q _ (I1.aH.fresh (aa9 _))]
end
end L2
namespace L2.Ev
open PySem PySem.Spec PyProof.Rows
section
variable{X:Cx}{a b e:Expr}{fa fb:EF}{p p1 p2 p3 pos:Pos}
def A7(g:AF):EF:=λY=>match g Y with
 |some [(.int i,_),(.int j,_)]=>if -(2 ^ 20)<=i/\i<2 ^ 20/\-(2 ^ 20)<=j/\j<2 ^ 20 then some (.tup ((List.range (j-i).toNat).map λn:Nat=>D.int (i+n)),.own) else none
 |_=>none
def XU{g:AF}(hc:X.calm=true)(hm:X.mg "tuple"=none)(nv:X.mg "range"=none)(ha:FA X [a,b] g)(hg:Gl X "tuple":=by rfl)(sP:Gl X "range":=by rfl)
  (hs:starEach [a,b] X.env=[(false,eval a X.env),(false,eval b X.env)]:=by rfl) (bS:starEach [b] X.env=[(false,eval b X.env)]:=by rfl)
  (yf:starEach [.Call (.Name "range" p2) [a,b] [] p3] X.env=[(false,eval (.Call (.Name "range" p2) [a,b] [] p3) X.env)]:=by rfl) :
  FP X (.Call (.Name "tuple" p) [.Call (.Name "range" p2) [a,b] [] p3] [] pos) (A7 g):=by
 let#[ta,pa,_,qa]:=ha;exists 21,xg (X5 hc) hg hm (by rfl) (eO (Ws nv pa sP hs bS) f7 yf) (he:=yf) (hpl:=rfl);unfold A7 at e
 split at e
 .rename_i i t1 j t2 h1
  by_cases hb:-(2 ^ 20)<=i/\i<2 ^ 20/\-(2 ^ 20)<=j/\j<2 ^ 20
  .rw[if_pos hb] at e;ext e;refine qa ok h1 λH1 vs fp s1 r1 _=>?_
   cases r1 with
   |cons r r1=>
    cases r1 with
    |cons r' r1=>
     ext r1;ext r;ext r';refine#[i,j,rfl,λr hr=>#[r,i,j,rfl,bI,hb,?_,λl hl=>?_]]
     .unfold sizeLine;omega
     .have s2:=aJ.new (o:=.cz i j) hr;have s3:=aJ.new (o:=.tup ((List.range (j-i).toNat).map λn:Nat=>V.int (i+n))) hl;apply k _ _ [] ((s1.trans s2).trans s3) (.tup (bK.of bI) (UC _)) .nil
  .rw[abm hb] at e;ext e
 .cases e
end
section
variable{K:Fr}
def OH(h:bK K H a (ks.map L2.kV))(ni:vB K=true)(hi:ks.all (λk=>k.isLeft)=true)(hn:ks≠[]):Tk H a (ks.map L2.kV):=by
 rcases h with(h|⟨o,h⟩)|⟨o,aA,n,hk,_,_,hd,_,rv⟩
 .exact#[.tup _,rfl,h]
 .exact#[.vC o _,rfl,h]
 .exfalso
  have q:=adR.mp ni (a,o) (AE hk);dsimp only at q;rw[hd] at q;have len:=rv.length;have go:∀{ks:List Key} {vs},ks.all (λk=>k.isLeft)=true->aT (ks.map L2.kV) vs->∀v∈vs,∃i t,v=Value.int i t:=by
   intro ks
   induction ks with
   |nil=>intro vs _ r v m;ext r;ext m
   |cons k ks ih=>
    intro vs h r v m;let#[h1,h2]:=(aaF _ _).mp (by simpa only[ajt] using h);cases r with
    |cons r1 r2=>
     rcases aat.mp m with e|m
     .subst e;cases k with
      |inr _=>ext h1
      |inl i=>let#[t,e]:=(show RelV (.int i) _ from r1);apply#[i,t,e]
     .exact ih h2 r2 v m
  rcases(ajc _ _).mp (show(aA.size==0||aA.toList.any _)=true from q) with z|z
  .have z:aA.size=0:=by simpa using z
   simp only[List.length_map,ae9] at len;apply hn (List.eq_nil_of_length_eq_zero (len.trans z))
  .let#[v,mv,e]:=adY.mp z;let#[i,t,rfl]:=go hi rv v mv;ext e
def Tk.aB(h:Tk H a xs)(i:bu H H'):Tk H' a xs:=by
 let#[t,e1,e2]:=h;cases t with
 |tup ys=>apply#[.tup ys,e1,i.1 _ _ e2]
 |vC o ys=>apply#[.vC o ys,e1,i.2.1 _ _ _ e2]
 |iH _ _=>ext e1
 |ja _=>ext e1
variable[DecidableEq κ]
theorem IE:∀{es:List (κ×α)},k∉es.map (·.1)->(es.map λkv=>if kv.1=k then(kv.1,d) else kv)=es
 |[],_=>rfl
 |(q,x)::es,n=>by
  rw[aas] at n ⊢;rw[abm (λe=>n (by rw[e];apply aap)),IE λm=>n (aao _ m)]
def aC.Ro:∀{es}{ak:List (κ×V)} {g},es.map (·.1)=ak.map (·.1)->aC K H (es.map (·.2)) (ak.map (·.2)) g->g.Nodup->(es.map (·.1)).Nodup->bC es k=some d0->
  ∃v gf,eK ak k=some v/\Rep K H d0 v gf/\gf.Nodup/\(∀a∈gf,a∈g)/\∀(H') (d1) (g1),bu H H'->(∀b o,b∉gf->b∈g->H b=some o->H' b=some o)->Rep K H' d1 v g1->g1.Nodup->(∀b∈g1,b∈gf\/H b=none)->
   ∃g',aC K H' ((putD es k d1).map (·.2)) ((putK ak k v).map (·.2)) g'/\g'.Nodup/\∀b∈g',b∈g\/H b=none
 |[],_,_,_,_,_,_,e=>by ext e
 |_::_,[],_,k,_,_,_,_=>by simp at k
 |(x,d)::es,(y,v0)::ak,_,hk,r,nd,kd,e=>by
  simp only[aas,agA] at hk;let#[rfl,hk]:=hk;rw[aas] at kd;let#[LD,U6]:=ab3.mp kd;have any:∀{α}{l:List (κ×α)}{d:α},k∈l.map (·.1)->(l.any λkv=>decide (kv.1=k))=true:=λ{α l d} m=>by
   let#[p,m1,m2]:=abG.mp m;apply adY.mpr #[p,m1,aa1 m2]
  cases r with
  | @cons _ _ _ _ f1 f2 r1 r2=>
   let#[a1,a2,a3]:=ac7.mp nd
   by_cases hx:x=k
   .subst hx;have e1:bC ((x,d)::es) x=some d:=by simp[bC,adE]
    rw[e1] at e;obtain rfl:d=d0:=acq e;refine#[v0,f1,xu rfl,r1,a1,λa m=>aaZ _ m,λH' d1 g1 im kp rr n1 fr=>?_];refine#[g1++f2,?_,ac7.mpr #[n1,a2,λa ma b mb e=>?_],λb m=>?_]
    .have er:putD ((x,d)::es) x d1=(x,d1)::es:=by
      unfold putD;rw[any (d:=d1) (by simp),if_pos rfl,aas,IE LD,if_pos rfl]
     have ev:putK ((x,v0)::ak) x v0=(x,v0)::ak:=by
      unfold putK;rw[any (d:=v0) (by simp),if_pos rfl,aas,IE (show x∉ak.map (·.1) by rw[<- hk];apply LD),if_pos rfl]
     rw[er,ev,aas,aas];refine .cons rr (r2.frame (λa m=>?_) im);let#[o,w,_]:=r2.eB a m;rw[kp a o (λq=>a3 a q a m rfl) (aaM _ m) w,w]
    .subst e;let#[o,w,_]:=r2.eB a mb;rcases fr a ma with q|q
     .exact a3 a q a mb rfl
     .rw[q] at w;ext w
    .rcases abB.mp m with m|m
     .exact(fr b m).imp (aaZ _) id
     .exact .inl (aaM _ m)
   .have e1:bC ((x,d)::es) k=bC es k:=by simp[bC,adE,hx]
    rw[e1] at e;let#[v,gf,h1,h2,h3,h4,h5]:=aC.Ro hk r2 a2 U6 e;have mk:k∈es.map (·.1):=by
     unfold bC at e;let#[p,e2,e3]:=ac3.mp e;apply abG.mpr #[p,ag3 e2,aaY (show decide (p.1=k)=true from ajv (p:=λkv:κ×D=>decide (kv.1=k)) e2)]
    refine#[v,gf,by rw[yQ hx];apply h1,h2,h3,λa m=>aaM _ (h4 a m),λH' d1 g1 im kp rr n1 fr=>?_];let#[g',c1,c2,c3]:=h5 H' d1 g1 im (λb o n m e=>kp b o n (aaM _ m) e) rr n1 fr;refine#[f1++g',?_,ac7.mpr #[a1,c2,λa ma b mb e=>?_],λb m=>?_]
    .have er:(putD ((x,d)::es) k d1)=(x,d)::putD es k d1:=by
      unfold putD;rw[any (d:=d1) (l:=(x,d)::es) (aao _ mk),any (d:=d1) mk,if_pos rfl,if_pos rfl,aas,abm hx]
     have ev:(putK ((x,v0)::ak) k v)=(x,v0)::putK ak k v:=by
      unfold putK;rw[any (d:=v) (by rw[aas,<- hk];apply aao _ mk),any (d:=v) (by rw[<- hk];apply mk),if_pos rfl,if_pos rfl,aas,abm hx]
     rw[er,ev,aas,aas];refine .cons (r1.frame (λa m=>?_) im) c1;let#[o,w,_]:=r1.eB a m;rw[kp a o (λq=>a3 a m a (h4 a q) rfl) (aaZ _ m) w,w]
    .subst e;let#[o,w,_]:=r1.eB a ma;rcases c3 a mb with q|q
     .exact a3 a ma a q rfl
     .rw[q] at w;ext w
    .rcases abB.mp m with m|m
     .exact .inl (aaZ _ m)
     .exact(c3 b m).imp (aaM _) id
def Ok.blank(ok:Ok K H0 S z aq Y U H)(h:Y[i]? = some none):Ok K H0 S z aq Y (U.set i x) H:=
 #[λj d t e=>by
  have ne:i≠j:=λz=>by rw[<- z,h] at e;ext e
  let#[v,fp,a,b,c]:=ok.sl j d t e;apply#[v,fp,by rw[ac6 ne];apply a,b,c],ok.hl,ok.zd,ok.en,by rw[ahw];apply ok.ln]
end
def wX(cn:Str):Option Slot->Option (List (Str×D))
 |some (some (.ins c es,.own))=>if c=cn then some es else none
 |_=>none
def Ak:Option Slot->Option (List D)
 |some (some (.tup ls,_))=>some ls
 |_=>none
def CY:Option Slot->Option Str
 |some (some (.str w,_))=>some w
 |_=>none
def C4:Option D->Option (List (List Key×D))
 |some (.eV l)=>some l
 |_=>none
def NY:∀{x} {es},wX cn x=some es->x=some (some (.ins cn es,.own)):=by
 rintro(_|_|⟨d,t⟩) es e
 any_goals ext e
 ext d
 any_goals ext e
 ext t
 any_goals ext e
 apply(afT.mp e).elim λa b=>by ext a;ext b;rfl
def Y7:∀{x} {ls},Ak x=some ls->∃t,x=some (some (.tup ls,t)):=by
 rintro(_|_|⟨d,t⟩) es e
 any_goals ext e
 ext d
 all_goals ext e
 apply#[_,rfl]
def ac0:∀{x} {w},CY x=some w->∃t,x=some (some (.str w,t)):=by
 rintro(_|_|⟨d,t⟩) es e
 any_goals ext e
 ext d
 all_goals ext e
 apply#[_,rfl]
def agW:∀{x} {l},C4 x=some l->x=some (.eV l):=by
 rintro(_|d) es e
 any_goals ext e
 ext d
 all_goals ext e
 rfl
def qy(cn fl gA m:Str)(ft:EF)(G:MF):SF:=λY=>
 (wX cn Y[0]?).bind λes=>(Ak Y[1]?).bind λls=>(CY Y[2]?).bind λwd=>(C4 (es.lookup fl)).bind λak=>(iB ls).bind λks=>(ft Y).bind λdn=>
  (wX gA (some (some ((bC ak ks).getD dn.1,dn.2)))).bind λgJ=>(G (.ins gA gJ) [.str wd]).bind λr=>
   if Y[3]?.any Option.isNone=true/\gJ.lookup m=none/\ks.all (λk=>k.isLeft)=true/\ks≠[]/\(ak.map (·.1)).Nodup/\ak.length<sizeLine/\aB r.1=true then some (.nx (iI (cJ Y 0 (.ins cn (eF fl (.eV (putD ak ks r.2)) es))) 4 r.1 .own)) else none
def Yl(e:qy cn fl gA m ft G Y=some w):∃es ls lt wd wt ak ks dn gJ r d1,Y[0]? = some (some (.ins cn es,.own))/\Y[1]? = some (some (.tup ls,lt))/\Y[2]? = some (some (.str wd,wt))/\Y[3]? = some none/\es.lookup fl=some (.eV ak)/\iB ls=some ks/\ft Y=some (dn,.own)/\
  (bC ak ks).getD dn=.ins gA gJ/\gJ.lookup m=none/\ks.all (λk=>k.isLeft)=true/\ks≠[]/\(ak.map (·.1)).Nodup/\ak.length<sizeLine/\G (.ins gA gJ) [.str wd]=some (r,d1)/\aB r=true/\w=.nx (iI (cJ Y 0 (.ins cn (eF fl (.eV (putD ak ks d1)) es))) 4 r .own):=by
 let#[es,h1,e]:=ac8.mp e;let#[ls,h2,e]:=ac8.mp e;let#[wd,h3,e]:=ac8.mp e;let#[ak,h4,e]:=ac8.mp e;let#[ks,h5,e]:=ac8.mp e;let#[dn,h6,e]:=ac8.mp e;let#[gJ,h7,e]:=ac8.mp e;let#[#[r,d1],h8,e]:=ac8.mp e;let#[#[a0,a1,a2,a3,a4,a5,a6],e]:=afT.mp e;let#[t2,h2]:=Y7 h2;let#[t3,h3]:=ac0 h3;have h7:=NY h7;have a0:Y[3]? = some none:=by
  rcases h:Y[3]? with _|_|_<;>rw[h] at a0<;>first|rfl|ext a0
 ext e;injection h7 with h7;injection h7 with h7;injection h7 with h7 h9;apply#[es,ls,t2,wd,t3,ak,ks,dn.1,gJ,r,d1,NY h1,h2,h3,a0,agW h4,h5,by rw[h6,<- h9],h7,a1,a2,a3,a4,a5,h8,a6,rfl]
def VD(h0:Y[0]? = some (some (.ins cn es,.own)))(h1:Y[1]? = some (some (.tup ls,lt)))(h2:Y[2]? = some (some (.str wd,wt)))(h3:Y[3]? = some none)(h4:es.lookup fl=some (.eV ak))(h5:iB ls=some ks)(h6:ft Y=some (dn,.own))(h7:(bC ak ks).getD dn=.ins gA gJ)(h8:G (.ins gA gJ) [.str wd]=some (r,d1))
  (hc:gJ.lookup m=none/\ks.all (λk=>k.isLeft)=true/\ks≠[]/\(ak.map (·.1)).Nodup/\ak.length<sizeLine/\aB r=true):qy cn fl gA m ft G Y=some (.nx (iI (cJ Y 0 (.ins cn (eF fl (.eV (putD ak ks d1)) es))) 4 r .own)):=by
 unfold qy wX Ak CY C4;simp only[h0,h1,h2,h3,h4,h5,h6,h7,h8,ac1,if_pos];apply if_pos #[rfl,hc]
section
variable{cn fl gA m x0 x1 x2 x3 x4:Str}{rest:List Stmt}
set_option maxHeartbeats 1000000 in
def adx(hu:X.A.units+1<cLine)(ni:vB X.K=true)(hC:ClsAt X.K cn C)(na:iR X.K C fl)(za:ClsAt X.K gA C2)(hm:kD X.K C2 m fa)(GG:bQ X.prog X.w X.K X.mg X.base dQ k fa fd ps (dW X.K G))(hr:bz k X.A)(hb:Binds X.K fd ps [])
  (hT:FP X tc ft) (w_:FM X rest g) (hN:X.N.Nodup) (a0:VA X 0 x0:=by walk_at "va") (a1:VA X 1 x1:=by walk_at "va") (a2:VA X 2 x2:=by walk_at "va") (a3:VA X 3 x3:=by walk_at "va") (h4:X.N[4]? = some x4:=by rfl)
  (v3:Loc X.env.scope x3:=by first|exact Or.inl rfl|exact Or.inr rfl) (v4:Loc X.env.scope x4:=by first|exact Or.inl rfl|exact Or.inr rfl)
  (wZ:attributeBase (.Name x0 p1) fl X.env (eval (.Name x0 p1) X.env)=eval (.Name x0 p1) X.env:=by rfl) (aia:attributeBase (.Name x0 q1) fl X.env (eval (.Name x0 q1) X.env)=eval (.Name x0 q1) X.env:=by rfl)
  (mm:M2 X (.Attribute (.Name x0 p1) fl p2) "get" p3 (.Name x1 p4) tc p5:=by apply#[rfl,rfl,rfl,rfl])
  (s1:swapsWith (.Call (.Attribute (.Attribute (.Name x0 p1) fl p2) "get" p3) [.Name x1 p4,tc] [] p5) (some (.Name x3 p6)) p7.line X.env=pure false:=by rfl)
  (s2:swapsWith (.Call (.Attribute (.Name x3 q2) m q3) [.Name x2 q4] [] q5) (some (.Name x4 p8)) p9.line X.env=pure false:=by rfl)
  (s3:swapsWith (.Name x3 q6) (some (.Subscript (.Attribute (.Name x0 q1) fl q7) (.Name x1 q8) q9)) r1.line X.env=pure false:=by rfl)
  (f3:X.fn x3=true\/X.env.scope.names.lookup x3=some .local:=by first|exact .inl rfl|exact .inr rfl) (f4:X.fn x4=true\/X.env.scope.names.lookup x4=some .local:=by first|exact .inl rfl|exact .inr rfl) (k3:j7 X x3=false:=by rfl) (k4:j7 X x4=false:=by rfl)
  (dJ:starEach [.Name x2 q4] X.env=[(false,eval (.Name x2 q4) X.env)]:=by rfl)
  (ht:eval (.Call (.Attribute (.Name x3 q2) m q3) [.Name x2 q4] [] q5) X.env=(do
   let ov <- eval (.Name x3 q2) X.env
   standAt q3.atName
   let(f,first) <- holding [ov] (getMethod ov m pl)
   callWith q5 f first (backTo q5 (starEach [.Name x2 q4] X.env)) (backToKw q5 (keywordEach [] X.env))):=by rfl) :
  FM X (.Assign [.Name x3 p6] (.Call (.Attribute (.Attribute (.Name x0 p1) fl p2) "get" p3) [.Name x1 p4,tc] [] p5) p7::.Assign [.Name x4 p8] (.Call (.Attribute (.Name x3 q2) m q3) [.Name x2 q4] [] q5) p9::.Assign [.Subscript (.Attribute (.Name x0 q1) fl q7) (.Name x1 q8) q9] (.Name x3 q6) r1::rest) (bY (qy cn fl gA m ft G) g):=by
 let#[tT,pT,sT]:=hT;let#[tr,pr,sr]:=w_;refine#[_,xG (B0 hN a3.N v3 (Gz hu (qR a0.pe wZ) a1.pe pT mm) s1 f3)
  (xG (B0 hN h4 v4 (A_ a3.pe za.cl hm GG hr hb .nil m_ (eO a2.pe f7 dJ) dJ rfl ht) s2 f4)
  (xG (Ep hu (qR a0.pe aia) a1.pe a3.pe s3) pr)),@λH0 S z aq Y U H E o ok e kE=>?_]
 cases hw:qy cn fl gA m ft G Y with
 |none=>unfold bY at e;rw[hw] at e;ext e
 |some w=>
  let#[es,ls,lt,wd,wt,ak,ks,dn,gJ,r,d1,e0,e1,e2,e3,elf,J5,Z3,wz,elm,yq,kK,knd,hlen,eG,hir,rfl]:=Yl hw;have e:g (iI (cJ Y 0 (.ins cn (eF fl (.eV (putD ak ks d1)) es))) 4 r .own)=some o:=by unfold bY at e;rw[hw] at e;apply e
  let#[v,aO,hs,r0,zz]:=ok.sl 0 _ _ e0;let#[vl,EA,Np,rl,_]:=ok.sl 1 _ _ e1;let#[bL,xs,rfl,F4,Je]:=rl.gY;obtain rfl:=aC.keys Je J5;have Aq:=OH F4 ni yq kK;let#[vw,fw,kh,fu,_]:=ok.sl 2 _ _ e2;let#[rfl,rfl]:=fu.vq;have l3:3<U.length:=by rw[<- ok.ln];apply(acN.mp e3).1
  let#[b0,dx,fs,u,gf,#[nb,nx],rfl,a1,a2,a3,a4,a5,a6]:=r0.Oh hC.ns zz.1 elf;cases a3 with
  | @eV l ir _ g0 hl fZ rs=>
   let#[lg,n0]:=ab3.mp a4;refine#[.ref b0,hs,b0,C,dx,fs,.ref l,rfl,a1,hC.cl,na,a2,l,rfl,.inr #[ir,.inl hl],.ref bL,Np,?_];refine sT ok Z3 λH3 zv Ke s3 rn gn=>?_
   refine#[eK ir ks,.inr #[ir,ks,bL,.inl (s3 _ _ hl),rfl,(Tk.aB Aq (.of s3)),rfl],?_];have hv:∃jx,Rep X.K H3 (.ins gA gJ) ((eK ir ks).getD zv) jx/\jx.Nodup/\(∀b∈jx,b∈g0\/H b=none)/\∀H5 aY,bu H3 H5->(∀b o,b∉jx->H3 b=some o->H5 b=some o)->Rep X.K H5 d1 ((eK ir ks).getD zv) aY->aY.Nodup->(∀b∈aY,b∈jx\/H3 b=none)->
     ∃g',aC X.K (upd H5 l (.dT (putK ir ks ((eK ir ks).getD zv)))) ((putD ak ks d1).map (·.2)) ((putK ir ks ((eK ir ks).getD zv)).map (·.2)) g'/\g'.Nodup/\l∉g'/\∀b∈g',b∈g0\/H b=none:=by
    cases tM:bC ak ks with
    |some dv=>
     rw[tM,ai5] at wz;subst wz;let#[v,gv,b1,b2,b3,b4,b5]:=aC.Ro fZ rs n0 knd tM;rw[b1,ai5];refine#[gv,b2.same s3,b3,λb m=>.inl (b4 b m),λH5 aY im kp r5 yj mz=>?_];have nl:l∉gv:=λm=>lg (b4 l m)
     have o_:=kp l _ nl (s3 _ _ hl);have A5:l∉aY:=λm=>(mz l m).elim nl λq=>by rw[s3 _ _ hl] at q;ext q
     let#[g',c1,c2,c3]:=b5 (upd H5 l (.dT (putK ir ks v))) d1 aY (((bu.of s3).trans im).trans (bu.upd o_ rfl)) (λb o n mb e=>by rw[aM (λq:b=l=>lg (q ▸ mb))];apply kp b o n (s3 b o e))
      (r5.frame (λb m=>aM (λq:b=l=>A5 (q ▸ m))) (bu.upd o_ rfl)) yj (λb m=>(mz b m).imp id s3.free)
     apply#[g',c1,c2,(λm=>(c3 l m).elim lg λq=>by rw[hl] at q;ext q),c3]
    |none=>
     rw[tM] at wz;have wz:=wz;subst wz;have hn:=(qp fZ rs).2 tM;rw[hn];show ∃jx,Rep X.K H3 (.ins gA gJ) zv jx/\jx.Nodup/\(∀b∈jx,b∈g0\/H b=none)/\∀H5 aY,bu H3 H5->(∀b o,b∉jx->H3 b=some o->H5 b=some o)->Rep X.K H5 d1 zv aY->aY.Nodup->(∀b∈aY,b∈jx\/H3 b=none)->
      ∃g',aC X.K (upd H5 l (.dT (putK ir ks zv))) ((putD ak ks d1).map (·.2)) ((putK ir ks zv).map (·.2)) g'/\g'.Nodup/\l∉g'/\∀b∈g',b∈g0\/H b=none
     refine#[Ke,rn,gn.1,λb m=>.inr (gn.2 b m),λH5 aY im kp r5 yj mz=>?_];have nl:l∉Ke:=λm=>by rw[gn.2 l m] at hl;ext hl
     have o_:=kp l _ nl (s3 _ _ hl);have wU:∀b∈aY,H b=none:=λb m=>(mz b m).elim (gn.2 b) s3.free
     have A5:l∉aY:=λm=>by rw[wU l m] at hl;ext hl
     have i6:bu H (upd H5 l (.dT (putK ir ks zv))):=((bu.of s3).trans im).trans (bu.upd o_ rfl);have n1:(ak.any λkv=>decide (kv.1=ks))=false:=by
      unfold bC at tM;rw[Option.map_eq_none_iff,ahp] at tM;apply List.any_eq_false.mpr tM
     have n2:(ir.any λkv=>decide (kv.1=ks))=false:=by
      rw[EB,hn];rfl
     refine#[g0++(aY++[]),?_,?_,λm=>?_,λb m=>?_]
     .unfold putD putK;rw[n1,n2,abm aa3,abm aa3,adK,adK];unfold putK at i6;rw[n2,abm aa3] at i6;refine aC.append (rs.frame (λb m=>?_) i6) (.cons (r5.frame (λb m=>aM (λq:b=l=>A5 (q ▸ m))) (bu.upd o_ rfl)) .nil);let#[o,w,_]:=rs.eB b m;rw[aM (λq:b=l=>lg (q ▸ m)),kp b o (λq=>by rw[gn.2 b q] at w;ext w) (s3 b o w),w]
     .rw[acU];refine ac7.mpr #[n0,yj,λa ma b mb e=>?_];let#[o,w,_]:=rs.eB a ma;rw[e,wU b mb] at w;ext w
     .rw[acU] at m;apply(abB.mp m).elim lg A5
     .rw[acU] at m;apply(abB.mp m).imp id (wU b)
   generalize(eK ir ks).getD zv=v at hv ⊢;let#[jx,rv,ndv,IT,fin]:=hv;let#[a,ZD,fsT,gT,rfl,Ly,t1,t2,t3,t4]:=rv.kQ za.ns;refine#[.ref a,ae0 l3,a,ZD,fsT,rfl,t1,tL t3 elm,.str wd,(by rw[ac6 (by decide)];apply kh),?_];refine#[a,[.str wd],_,jx,[.str wd],[],r,d1,rfl,rv,ndv,.cons (.str wd) .nil,(λb m=>nomatch m),eG,λH5 ut aY im kp r5 yj mz rr=>?_];have nl:l∉jx:=λm=>(IT l m).elim lg λq=>by rw[hl] at q;ext q
   have o_:=kp l _ nl (s3 _ _ hl);have Y0:b0∉jx:=λm=>(IT b0 m).elim (λq=>nb (aao _ q)) λq=>by rw[a1] at q;ext q
   have Y_:=kp b0 _ Y0 (s3 _ _ a1);have hlv:ir.length=ak.length:=by have:=congrArg List.length fZ;simpa using this.symm
   refine#[.ref a,(by rw[ac6 (by decide)];apply ae0 l3),.ref b0,(by rw[ac6 (by decide),ac6 (by decide)];apply hs),b0,C,dx,fs,.ref l,rfl,Y_,hC.cl,na,a2,.ref bL,(by rw[ac6 (by decide),ac6 (by decide)];apply Np),l,_,rfl,
    .inr #[ir,ks,bL,o_,rfl,(Tk.aB Aq ((bu.of s3).trans im)),(by rw[hlv];apply hlen),rfl],?_]
   let#[g',y1,y2,y3,y4]:=fin H5 aY im kp r5 yj mz;have i6:bu H (upd H5 l (.dT (putK ir ks (.ref a)))):=((bu.of s3).trans im).trans (bu.upd o_ rfl);have k6:∀b o,b∉l::g0->H b=some o->upd H5 l (.dT (putK ir ks (.ref a))) b=some o:=λb o n e=>by
    rw[aM (λq=>n (by rw[q];apply aap))];apply kp b o (λm=>(IT b m).elim (λq=>n (aao _ q)) λq=>by rw[e] at q;ext q) (s3 b o e)
   let#[ajb,z1,z2,z3]:=a6 _ (.eV (putD ak ks d1)) (l::g') i6 k6 (.eV bI (A8 fZ) y1) (ab3.mpr #[y3,y2]) (λb m=>(aat.mp m).elim (λq=>.inl (by rw[q];apply aap)) λm=>(y4 b m).imp (aao _) id);let#[z',gR]:=ok.put e0 hs zz i6 (λb o n e=>k6 b o (λm=>n (a5 b m)) e) z1 z2 z3;have e3':(cJ Y 0 (.ins cn (eF fl (.eV (putD ak ks d1)) es)))[3]? = some none:=by unfold cJ;rw[ac6 (by decide),acB,e3];rfl
   refine(gR.blank (x:=some (.ref a)) e3').stored (t:=.own) (i:=4) (aJ.refl _) (rr.frame (λa m=>nomatch m) (bu.upd o_ rfl)) .nil λz2 zI=>?_
   apply sr zI e (kE.of ((Kp.set a3.N k3).trans (Kp.set h4 k4)))
end
end L2.Ev
namespace L2
open PySem PySem.Spec PyProof.Rows
def Zl(K:Fr):V->List V->Hp->VK->Prop:=λx vs H Q=>∃(l:Addr) (ts:List Int) (i:Int) (j:Nat),x=.ref l/\vs=[.int i]/\ck K H l (ts.map V.int)/\ts[j]? = some i/\(∀m,m<j->ts[m]?≠some i)/\Q (.int j) H
def Nk(i y:Int)(t:Tok):iZ (.int i) (.int y t)=(y==i):=rfl
def WG:HL X "list.index" (Zl X.K):=by
 intro af s U H x vs v us Q I rx rv h;let#[l,ts,i,j,rfl,rfl,hq,hj,zK,q]:=h;ext rx;let#[u,rfl,ru]:=vals1 rv;let#[t,rfl]:=ru;let#[aA,r,pl,hz]:=I.list hq;have hlen:=r.length;rw[List.length_map] at hlen hz;let#[o,ho,hc,n,hd]:=pl.isList;let#[c,dd,da,sl]:=o;ext hc;ext hd;have hjl:=(acN.mp hj).1;have oA:∀(m) (hm:m<aA.toArray.size),∃y t',ts[m]? = some y/\aA.toArray[m]=.int y t':=λm hm=>by
  have pV:m<ts.length:=by simp at hm;omega
  let#[w,hw,fu]:=r.get (by rw[acB,abe pV];rfl);let#[t',rfl]:=fu;refine#[ts[m],t',abe pV,?_];have:=(acN.mp hw).2;simpa using this
 have hsz:j<aA.toArray.size:=by simp;omega
 refine call_meets F.slot_list_index #[_,ho,rfl] F.entry_list_index (F.args_list_index_2 _ _) (SeqAt.list_indexAt l aA.toArray n dd sl (.int i t) (iZ (.int i)) j hsz (by rw[afm] at hz;omega) ?_ (λm hm cI=>?_)) #[ho,λw hw=>uY (x:=.int i) #[t,rfl] rfl r (by rw[ajq];apply adR.mpr λ_ _=>rfl) w (by simpa using hw),#[.int j,H,I.tok _,#[_,rfl],q]]
 .let#[y,t',h1,h2]:=oA j hsz;rw[h2,Nk];rw[hj] at h1;ext h1;apply aij _
 .let#[y,t',h1,h2]:=oA m hm;rw[h2,Nk];refine agN.mpr λe=>zK m cI ?_
  rw[h1,eq_of_beq e]
end L2
namespace L2
def bz.m(r:bz k A cm)(h:j<=k:=by decide):bz j A cm:=r.mono h
end L2
namespace L2.Ev
open PySem PySem.Spec PyProof.Rows
def Iz:D->D->Option D
 |.lst ds,.int i=>match eU ds with
  |some ts=>(ts.findIdx? (· == i)).map λj:Nat=>.int j
  |none=>none
 |_,_=>none
def af6(ha:FP X a fa)(hb:FP X b fb)(hs:starEach [b] X.env=[(false,eval b X.env)]:=by rfl)(mG:attributeBase a "index" X.env (eval a X.env)=eval a X.env:=by rfl)
  (lK:((backTo p3 (starEach [b] X.env)).all (λx=>!x.1)&&(backToKw p3 (keywordEach [] X.env)).all (λx=>x.1.isSome)&&decide ([b].length+([]:List Keyword).length+(if([]:List Keyword).isEmpty then 0 else 1)<30))=true:=by rfl)
  (mD:(p2.endLine==p3.line)=true:=by rfl):FP X (.Call (.Attribute a "index" p2) [b] [] p3) (e2 Iz fa fb):=by
 let#[ta,pa,sa]:=ha;let#[tb,pb,sb]:=hb;exists 21,zM PySem.F.plainAttrs_list PySem.F.slot_list_index PySem.F.type_list_index WG pa (eO pb f7 hs) mG lK mD hs rfl;let#[d1,t1,d2,t2,e1,iV,e3,rfl]:=pY e;refine sa ok e1 λH1 x f1 s1 r1 _=>?_
 cases d1 with
 |lst ds=>
  cases d2 with
  |int i=>
   have e3:(match eU ds with|some ts=>(ts.findIdx? (· == i)).map λj:Nat=>D.int j|none=>none)=some d:=e3;cases h:eU ds with
   |none=>rw[h] at e3;ext e3
   |some ts=>
    rw[h] at e3;dsimp only at e3;cases h2:ts.findIdx? (· == i) with
    |none=>rw[h2] at e3;ext e3
    |some j=>
     rw[h2] at e3;ext e3;let#[l0,xs0,f0,rfl,hq0,rs0,_]:=r1.dM;refine#[.inl #[rfl,_,hq0],?_];refine sb (ok.same s1) iV λH2 y f2 s2 r2 _=>?_
     let#[rfl,_]:=r2.iG;have Lf:=r1.same s2;let#[l,xs,f,e0,hq,rs,_]:=Lf.dM;ext e0;have hx:=uq rs h;subst hx;let#[hj,hp,zK]:=List.findIdx?_eq_some_iff_getElem.mp h2;refine#[l0,ts,i,j,rfl,rfl,hq,?_,λm hm em=>?_,k H2 _ [] (s1.trans s2) (.int _) #[acv,λa m=>nomatch m]]
     .rw[abe hj,eq_of_beq hp]
     .let#[pV,e']:=acN.mp em;apply zK m hm (by rw[e'];apply aij _)
  |_=>ext e3
 |_=>ext e3
end L2.Ev
namespace L2
open PySem PySem.Spec PyProof.Rows
def HB{K:Fr}(h:yg K=true):∀r∈ji K,ji K=[r]/\PySem.W.codeHdIn K r.1 r.2.1=true/\K.lookup r.2.1=none:=λr m=>by
 have ok:=((aaF _ _).mp h).2
 split at ok
 .rename_i e;rw[e] at m;ext m
 .rename_i r' e;rw[e] at m;cases aaK.mp m;let#[a,b]:=(aaF _ _).mp ok;apply#[e,a,by simpa using b]
 .cases ok
def vZ(K:Fr):Hp:=λb=>match ji K with
 |[r]=>if b=r.2.1 then some (.iH r.2.2.1 r.2.2.2) else none
 |_=>none
def aiu{K:Fr}
  (KX:K.In cg.heap) (yo:yg K=true) (Ab:∀r∈ji K,cg.heap.get? r.2.1=some (PySem.W.tabObj ([].toArray))) (uG:cg.heap.Ns mainGlobals mg) (hb:cg.heap.Ns builtinsNs mb) (hbb:∀x:Str,x≠"__name__"->mb x=bootBuiltins x) (Vf:cg.heap.NoLimit)
  (hbm:∃bm ob,mg "__builtins__"=some (.ref bm)/\bm≠builtinsNs/\cg.heap.get? bm=some ob/\ob.cls=.type "module"/\ob.dict=some builtinsNs/\ob.data=.plain) (hg:cg.gens=([].toArray))
  (ha:cg.heap.get? a=some { cls:=.type "list",data:=.seq vs.toArray }) (hi:IntsAre vs ns) (hl:ns.length<=sizeLine) (hr:bz k callerA)
  (F:∀base:Heap,K.In base->base.Ns mainGlobals mg->bQ P w K mg base CX k fa fd [x] sp) (Yc:∀(s) (u),BindsTo s fd #[[u],[]] [(x,u)])
  (rj:∀H:Hp,Ev.qG K H a (ns.map V.int)->sp [.ref a] H (λv _=>v=.bl true) λ_ _ _=>False) (Kl:∀H e s',CX [] H cg (λ_ _ _=>False) e s'->False) :
  codeAny (model P w) callerA (.call (.ref fa) #[[.ref a],[]]) (λr s'=>r=.ok (.ret (.bool true))/\OldK cg.heap s'.heap/\s'.os=cg.os/\AllBare s'.gens) cg:=by
 have rv:=La hi;have Xp:=hi.length;have tab_of:∀{b} {u},vZ K b=some u->∃r∈ji K,b=r.2.1/\u=.iH r.2.2.1 r.2.2.2:=λ{b u} e=>by
  unfold vZ at e
  split at e
  .rename_i r er;let#[h,e]:=ci e;ext e;apply#[r,by rw[er];apply List.mem_singleton_self r,h,rfl]
  .cases e
 have SA:∀r∈ji K,vZ K r.2.1=some (.iH r.2.2.1 r.2.2.2):=λr m=>by
  unfold vZ;rw[(HB yo r m).1];apply if_pos rfl
 have na:∀r∈ji K,r.2.1≠a:=λr m z=>by
  have:=Ab r m;rw[z,ha] at this;ext this
 have core:∀H:Hp,Ev.qG K H a (ns.map V.int)->(∀b u,H b=some u->(b=a/\K.lookup a=none/\u=.cG { cls:=.type "list",data:=.seq vs.toArray } (.lst (ns.map V.int)))\/∃r∈ji K,b=r.2.1/\u=.iH r.2.2.1 r.2.2.2)->(∀r∈ji K,H r.2.1=some (.iH r.2.2.1 r.2.2.2))->
   codeAny (model P w) callerA (.call (.ref fa) #[[.ref a],[]]) (λr s'=>r=.ok (.ret (.bool true))/\OldK cg.heap s'.heap/\s'.os=cg.os/\AllBare s'.gens) cg:=by
  intro H hS hA hL;have aH:c8 P w H cg.heap:=λb u e=>by
   rcases hA b u e with⟨rfl,_,rfl⟩|⟨r,m,rfl,rfl⟩
   .exact#[ha,by rw[List.length_map];apply hl,vs,_,rv,ha]
   .exact#[([].toArray),Ab r m,.inl rfl]
  have free:∀{b} {o},cg.heap.get? b=some o->(∀xs n,o.data≠.seq xs n)->(∀xs,o.data≠.fields xs)->H b=none:=λ{b o} e d1 d2=>by
   cases q:H b with
   |none=>rfl
   |some u=>
    rcases hA b u q with⟨rfl,_,_⟩|⟨r,m,rfl,_⟩
    .rw[ha] at e;ext e;apply absurd rfl (d1 _ _)
    .rw[Ab r m] at e;ext e;apply absurd rfl (d2 _)
  have A0:∀{b} {m},cg.heap.Ns b m->(qB cg.heap H).Ns b m:=λ{b m} ⟨o,es,ep,e,d,r⟩=>#[o,es,ep,Ko e (free e (λ_ _ z=>by rw[d] at z;ext z) λ_ z=>by rw[d] at z;ext z),d,r]
  have Ra:K.In (qB cg.heap H):=λb o e=>Ko (KX b o e) (by
   cases q:H b with
   |none=>rfl
   |some u=>
    rcases hA b u q with⟨rfl,z,_⟩|⟨r,m,rfl,_⟩
    .rw[z] at e;ext e
    .rw[(HB yo r m).2.2] at e;ext e)
  let#[bm,ob,b1,b2,b3,b4,b5,b6]:=hbm;have hM:Mod K mg (qB cg.heap H):=#[Ra,A0 uG,#[mb,A0 hb,hbb],let#[mc,h1,h2]:=Vf;#[mc,A0 h1,h2],bm,ob,b1,b2,Ko b3 (free b3 (λ_ _ z=>by rw[b6] at z;ext z) λ_ z=>by rw[b6] at z;ext z),b4,b5,b6]
  have e0:sQ P w K mg (qB cg.heap H) callerA [] cg H:=#[rfl,hM,λb o e=>Zr e,Nat.le_of_eq (agB _ _),trivial,λb hb=>absurd (show b∈([]:List Addr) from hb) (by simp),aH,.of_eq hg,#[.inl rfl,yo,hL]]
  refine ai8 ((F _ Ra (A0 uG)).run callerA [] cg H #[[.ref a],[]] [.ref a] [.ref a] _ _ hr e0 (Yc cg (.ref a)) (.cons rfl .nil) (rj H hS)) λr s' h=>?_
  cases r with
  |error e=>apply(Kl H e s' h).elim
  |ok fl=>
   cases fl with
   |next=>apply False.elim h
   |brk=>apply False.elim h
   |cont=>apply False.elim h
   |ret u=>
    let#[v,H',os,bare,un,MO,r',q]:=h;have q':=q;subst q';obtain rfl:u=Value.bool true:=r';refine#[rfl,#[λb o e=>?_,λb o e=>un.there b o e (by simp)],os,bare];cases q:H b with
    |none=>apply .inl (un.keep b o e q (by intro z;apply absurd (show b∈([]:List Addr) from z) (by simp)) (by simp))
    |some u=>
     rcases hA b u q with⟨rfl,_,rfl⟩|⟨r,m,rfl,rfl⟩
     .have z2:=un.iz b _ _ q;let#[e1,_]:=aH b _ q;let#[e2,_]:=MO b _ z2;rw[e] at e1;ext e1;apply .inl e2
     .have z2:=un.iM r.2.1 (.iH _ _) q;let#[ps,e2,_]:=MO _ _ z2;rw[Ab r m] at e;ext e;apply .inr (.inl #[((PySem.W.codeHd_of_K KX (HB yo r m).2.1).tab (Ab r m)).isCodeTable,rfl,([].toArray),ps,rfl,by simpa using e2])
 cases hk:K.lookup a with
 |some o=>
  have e:=KX a o hk;rw[ha] at e;ext e;refine core (vZ K) (.inr #[_,vs.toArray,_,hk,rfl,rfl,rfl,by rw[ab0,Xp];apply hl,by simpa using rv]) (λb u z=>.inr (tab_of z)) SA
 |none=>
  refine core (λb=>if b=a then some (.cG { cls:=.type "list",data:=.seq vs.toArray } (.lst (ns.map V.int))) else vZ K b) (.inl #[{ cls:=.type "list",data:=.seq vs.toArray },if_pos rfl]) (λb u z=>?_) λr m=>(abm (na r m)).trans (SA r m)
  by_cases hb:b=a
  .have z':=(if_pos hb).symm.trans z;ext z';apply .inl #[hb,hk,rfl]
  .exact .inr (tab_of ((abm hb).symm.trans z))
def abp{l:PySem.W.OpenLaw}{K:Params->Fr}{CX:World->qX}{sp:World->Sp}
  (hn:l.most=some n) (Dw:n<=sizeLine) (yl:d.params.defaults=[]) (hr:bz k callerA) (hY:∀(w) (h),YP w h->(K w.params).In h) (hT:∀(w) (h),YP w h->∀r∈ji (K w.params),h.get? r.2.1=some (PySem.W.tabObj ([].toArray))) (hL:∀w:World,yg (K w.params)=true)
  (F:∀(w) (mg) (fa) (h),(K w.params).In h->h.Ns mainGlobals mg->mg d.name=some (.ref fa)->
   ∃fd:FuncData,(∀(s) (u),BindsTo s fd #[[u],[]] [(x,u)])/\∀base:Heap,(K w.params).In base->base.Ns mainGlobals mg->bQ l.prog w (K w.params) mg base (CX w) k fa fd [x] (sp w))
  (rj:∀(w) (H) (a) (ns:List Int),ns.length<=n->Ev.qG (K w.params) H a (ns.map V.int)->sp w [.ref a] H (λv _=>v=.bl true) λ_ _ _=>False)
  (Kl:∀(w) (H) (s) (e) (s'),CX w [] H s (λ_ _ _=>False) e s'->False) :
  PySem.W.WalkO q loose XP YP l.row.toRowW d [] (λf vs=>PySem.call f vs):=by
 refine Ql.aaT hn yl λw cZ cg mg mb fa o pm cd doc a vs ns G YY ho hd gI zL EG hints hlen hg=>?_
 let#[fd,hb,hF]:=F w mg fa _ (hY w _ YY) G.T.g zL;apply aiu (hY w _ YY) (hL w) (hT w _ YY) G.T.g G.T.b G.T.builtins G.T.nolimit G.T.bmain hg EG hints (adJ hlen Dw) hr hF hb (λH hS=>rj w H a ns hlen hS) λH e s'=>Kl w H cg e s'
end L2
namespace L2.Ev
open PySem PySem.Spec PySem.W PyProof.Rows
structure Z where
 P:Program
 w:World
 K:Frag
 mg:Str->Option Value
 base:Heap
structure En(L:Ls)(z:Z):Prop where
 b:∀{x},L.bt.contains x=true->z.mg x=none
 i:∀{x} {n},L.gi.lookup x=some n->∃t,z.mg x=some (.int n t)
 t:∀{x} {l},L.tp.lookup x=some l->∃a,z.mg x=some (.ref a)/\DS z.K a l
 c:∀c:Str,L.cl.contains c=true->ClsAt z.K c (cA z.K c)
 m:∀{c},L.cl.contains c=true->z.mg c=some (.ref (cA z.K c))
 n:∀{c a},L.na.contains (c,a)=true->iR z.K (cA z.K c) a
 ni:L.ni=true->vB z.K=true
 g:∀{c},L.ex.contains c=true->nsIn z.K mainGlobals c=some (some (.ref (cA z.K c)))
 e:∀{c},L.ex.contains c=true->z.mg c=some (.ref (cA z.K c))
 x:∀{c},L.xc.contains c=true->CP z.K (cA z.K c)
 ct:∀{c} {ns},L.ct.lookup c=some ns->afZ z.K ns (cA z.K c)
 kt:∀{c} {tb},L.kt.lookup c=some tb->AH z.K tb (kv z.K c)
 ki:∀{c} {p},L.ki.lookup c=some p->ae3 z.K p.2 (p.1.map (cA z.K))
def jY(s:Stmt):List Str:=(lZ s).args.map (·.arg)
theorem Ox:∀{l:List Str} {us},us.map strOf=l.map some->aT (l.map V.str) us
 |[],[],_=>.nil
 |[],_::_,e=>nomatch e
 |_::_,[],e=>nomatch e
 |a::l,u::us,e=>by
  let#[e1,e2]:=List.cons.inj e;refine .cons ?_ (Ox e2);ext u<;>ext e1
  apply#[_,rfl]
def Xh{K:Frag}(q:Lj K x l=true):∃a,nsIn K mainGlobals x=some (some (.ref a))/\DS K a l:=by
 unfold Lj at q
 split at q
 .rename_i a h;refine#[a,h,?_]
  split at q
  .rename_i c aA n sl h1;simp only[aaF,ahd,aiU] at q;apply#[_,aA,_,h1,q.1.1,rfl,rfl,q.1.2,Ox q.2]
  .cases q
 .cases q
theorem q_:∀{l:List (Str×β)},l.lookup x=some y->(x,y)∈l
 |[],e=>nomatch e
 |(a,b)::l,e=>by
  rw[aeU] at e
  by_cases h:(x==a)=true
  .rw[h] at e;ext e;rw[eq_of_beq h];apply .head _
  .rw[show(x==a)=false by simpa using h] at e;apply .tail _ (q_ e)
def N1{K:Frag}(h:ek K r=true):qd K (cA K r):=by
 unfold ek at h;simp only[aaF,ahd] at h;let#[#[#[#[#[#[h1,h2],h3],h4],h5],h6],h7]:=h;apply#[h1,h2,h3,h4,h5,h6,h7,agz h6]
def Xc{L:Ls}{K:Frag}(X:K.In h)(G:h.Ns mainGlobals mg)(q:sE L K=true):En L #[P,w,K,mg,base]:=by
 unfold sE at q;simp only[aaF,adR,ahd] at q;let#[#[#[#[#[#[qi,qx],q1],q2],q3],q4],q5]:=q;unfold Td at qx;simp only[aaF,adR,ahd,aet] at qx;let#[#[#[#[x1,x2],x3],x4],x5]:=qx;have cx:∀{r} {C},r∈L.ex->nsIn K mainGlobals r=some (some (.ref C))->C=cA K r:=λm e=>by
  rw[x1 _ m] at e;ext e;rfl
 have cl:∀c:Str,L.cl.contains c=true->zQ K c=true:=λc h=>q4 c (aet.mp h)
 refine#[λh=>mg_none_of X G (q1 _ (aet.mp h)),λ{x n} h=>?_,λh=>?_,λc h=>?_,λ{c} h=>?_,λh=>q5 _ (aet.mp h),λh=>?_,λh=>x1 _ (aet.mp h),λh=>mg_of X G (x1 _ (aet.mp h)),λh=>ab2 (x2 _ (aet.mp h)),λh cn C h1 hn=>?_,λh cn b C h1 hn=>?_,λh cn b C h1 hn=>?_]
 .have:=q2 _ (q_ h);unfold N6 at this
  split at this
  .rename_i m t e;cases eq_of_beq this;apply#[t,mg_of X G e]
  .cases this
 .let#[a,e,t]:=Xh (q3 _ (q_ h));apply#[a,mg_of X G e,t]
 .have:=cl c h;unfold zQ at this;simp only[aaF,ahd] at this;let#[#[#[#[#[#[h1,h2],h3],h4],h5],_],_]:=this;apply#[h1,#[h2,h3,h4,h5]]
 .have:=cl c h;unfold zQ at this;simp only[aaF,ahd] at this;apply mg_of X G this.1.1.1.1.1.1
 .rw[h] at qi;apply qi
 .let#[#[a1,a2],a3]:=x3 _ (q_ h);let#[#[b1,b2],b3]:=a3 cn (aet.mp h1);cases cx b2 hn;apply X0 (Qi (x2 _ b1)) (Qi (x2 _ a1)) b3 a2
 .let#[#[a1,a2],a3]:=x4 _ (q_ h) _ (q_ h1);cases cx a1 hn;apply#[N1 a2,a3]
 .let#[#[a1,a2],a3]:=x5 _ (q_ h) _ (q_ h1);cases cx a1 hn;apply#[N1 a2,a3]
def aeR{K:Frag}(q:sE L K=true)(h:L.cl.contains c=true):makesIn K (cA K c)=true/\keepIn K (.ref (cA K c))=true:=by
 unfold sE at q;simp only[aaF,adR] at q;have:=q.1.2 c (aet.mp h);unfold zQ at this;simp only[aaF] at this;apply#[this.1.2,this.2]
def LP{K:Frag}(e:Em K q v=some (fnOf x q (lZ s) (gS s) (c9 s) .none .none .none .none none .none .none)):∃f,v=some (some (.ref f))/\isFn K (.ref f)=true/\GL K x q s f:=by
 unfold Em at e
 split at e
 .rename_i a
  split at e
  .rename_i oc od fd sl h;let#[hc,e]:=ci e;simp only[aaF] at hc;refine#[a,rfl,hc.2,?_];let#[n,qn,pa,bo,sc,gl,cl,df,kw,dc,pm,an,cd,ct,bi]:=fd;unfold S9 at e;injection e with e;injection e with e1 e2 e3 e4 e5 e6 e7 e8 e9 e10 O_ e12 e13 e14 e15;subst e1 e2 e3 e4 e5 e6 e7 e8 e15;apply#[_,_,_,_,_,_,_,_,_,h,hc.1.1,hc.1.2]
  .cases e
 .cases e
def QV{K:Frag}{tab:List (Str×Stmt)}{i:Nat}(t:tab.map (look K)=tab.map want)(e:tab[i]? = some p):look K p=want p:=by
 have:=congrArg (·[i]?) t;simp only[acB,e,Option.map_some] at this;apply acq this
def GI{K:Frag}{tab:List (Str×Stmt)}(i:Nat){s:Stmt}(t:tab.map (look K)=tab.map want)(e:tab[i]? = some (Str.empty,s)):Ln K (gG s) s:=by
 let#[f,h,_,g]:=LP (QV t e);apply#[f,h,g]
def J_{K:Frag}{tab:List (Str×Stmt)}(i:Nat){c:Str}(t:tab.map (look K)=tab.map want)(e:tab[i]? = some (c,s))(n:(c==Str.empty)=false):GM K (cA K c) (gG s) (iC c s) s:=by
 let#[f,h,i,g]:=LP (QV t e);refine#[f,?_,i,g];rw[n] at h;apply h
section
variable(z:Z)(k:Nat)(c:Str)(s:Stmt)(sp:Frag->Sp)(cm:Bool:=true)
def Z.D:Prop:=∀(f) (fd),jD z.K (gG s) (iC c s) s f fd->bQ z.P z.w z.K z.mg z.base dQ k f fd (jY s) (sp z.K) cm
def Z.DR:Prop:=∀(f) (fd),jD z.K (gG s) (iC c s) s f fd->bQ z.P z.w z.K z.mg z.base (fm z.P z.w) k f fd (jY s) (sp z.K) cm
def Z.N:Prop:=FN z.P z.w z.K z.mg z.base dQ k (gG s) (jY s) (sp z.K) cm
def Z.M:Prop:=MT z.P z.w z.K z.mg z.base dQ k (cA z.K c) (gG s) (jY s) (sp z.K) cm
def Z.MR:Prop:=MT z.P z.w z.K z.mg z.base (fm z.P z.w) k (cA z.K c) (gG s) (jY s) (sp z.K) cm
def Z.I:Prop:=MI z.P z.w z.K z.mg z.base dQ k (cA z.K c) (jY s) (sp z.K) cm
end
section
variable{K:Frag}
def FN.G(W:FN P w K mg base CX k x ps sp cm):bQ P w K mg base CX k W.choose W.choose_spec.choose ps sp cm:=W.choose_spec.choose_spec.1
def FN.m(W:FN P w K mg base CX k x ps sp cm):mg x=some (.ref W.choose):=W.choose_spec.choose_spec.2.1
def FN.kp(W:FN P w K mg base CX k x ps sp cm):keepIn K (.ref W.choose)=true:=W.choose_spec.choose_spec.2.2.1
def FN.b(W:FN P w K mg base CX k x ps sp cm):Binds K W.choose_spec.choose ps []:=W.choose_spec.choose_spec.2.2.2
def MT.G(W:MT P w K mg base CX k C x ps sp cm):bQ P w K mg base CX k W.choose W.choose_spec.choose ps sp cm:=W.choose_spec.choose_spec.1
def MT.b(W:MT P w K mg base CX k C x ps sp cm):Binds K W.choose_spec.choose ps []:=W.choose_spec.choose_spec.2.1
def MT.t(W:MT P w K mg base CX k C x ps sp cm):kD K C x W.choose:=W.choose_spec.choose_spec.2.2
def MI.G(W:MI P w K mg base CX k C ps sp cm):bQ P w K mg base CX k W.choose W.choose_spec.choose ps sp cm:=W.choose_spec.choose_spec.1
def MI.b(W:MI P w K mg base CX k C ps sp cm):Binds K W.choose_spec.choose ps []:=W.choose_spec.choose_spec.2.1
def MI.M(W:MI P w K mg base CX k C ps sp cm):Mk K C W.choose:=W.choose_spec.choose_spec.2.2
end
def jC(s:Stmt):List Str:=(c9 s).names.filterMap λy=>if y.2 == .local||y.2 == .cell then some y.1 else none
def yU(n m:Nat)(s:Stmt):Prop:=rG (jC s) (jY s) (c9 s)/\(jY s).length=n/\(jC s).length=m/\n<=m
section
variable{z:Z}
def Z.oF(S:yU n m s)(h:∀(f) (fd:FuncData) (aU:{c:Value // c=fd.code}) (A) (o) (t) (H) (E),bz k (A.deeper (envOfC (iC c s) (c9 s) t.heap.objs.size f aU)) cm->(jC s).Nodup->FS (gb dQ z.P z.w z.K z.mg z.base (jC s) (iC c s) (c9 s) f aU A o t H E cm).f_ (gS s) b):
  z.D (k+1) c s (a_ · (bH n m b)) cm:=by
 let#[S,rfl,rfl,_]:=S;apply λ_ _ F=>SG F S λaU A o t H E hr=>h _ _ aU A o t H E hr S.nd
def Z.oQ(S:yU n m s)(h0:(jC s)[0]? = some x0)(h:∀(f) (aU) (A) (o) (t) (H) (E),bz k (A.deeper (envOfC (iC c s) (c9 s) t.heap.objs.size f aU))->(jC s).Nodup->Au im ((gb dQ z.P z.w z.K z.mg z.base (jC s) (iC c s) (c9 s) f aU A o t H E).f_.m7 [x0]) (gS s) b):
  z.D (k+1) c s (AW im · (runM n m b)):=by
 let#[S,rfl,rfl,l]:=S;apply λ_ _ F=>ah0 F S h0 λaU A o t H E hr=>h _ aU A o t H E hr S.nd
def Z.oM(S:yU n m s)(h0:(jC s)[0]? = some x0)(h:∀(f) (aU) (A) (o) (t) (H) (E),bz k (A.deeper (envOfC (iC c s) (c9 s) t.heap.objs.size f aU))->(jC s).Nodup->Au true ((gb dQ z.P z.w z.K z.mg z.base (jC s) (iC c s) (c9 s) f aU A o t H E).f_.m7 [x0]) (gS s) b):
  z.D (k+1) c s (dW · (runM n m b)):=λ_ _ F=>(Z.oQ S h0 h _ _ F).imp Zc
def Z.oP(S:yU n m s)(h0:(jC s)[0]? = some x0)(h:∀(f) (aU) (A) (o) (t) (H) (E),bz k (A.deeper (envOfC (iC c s) (c9 s) t.heap.objs.size f aU))->(jC s).Nodup->Au false ((gb dQ z.P z.w z.K z.mg z.base (jC s) (iC c s) (c9 s) f aU A o t H E).f_.m7 [x0]) (gS s) b):
  z.D (k+1) c s (kY · (runM n m b)):=λ_ _ F=>(Z.oQ S h0 h _ _ F).imp acp
def Z.oR(S:yU n m s)(h:∀(f) (aU) (A) (o) (t) (H) (E),bz k (A.deeper (envOfC (iC c s) (c9 s) t.heap.objs.size f aU))->(jC s).Nodup->FS (gb (fm z.P z.w) z.P z.w z.K z.mg z.base (jC s) (iC c s) (c9 s) f aU A o t H E) (gS s) b):
  z.DR (k+1) c s (iX · (jb n m b)):=by
 let#[S,rfl,rfl,l]:=S;apply λ_ _ F=>ZI F S l λaU A o t H E hr=>h _ aU A o t H E hr S.nd
end
section
variable{K:Frag}{tab:List (Str×Stmt)}
def dX(X:K.In h)(G:h.Ns mainGlobals mg)(t:tab.map (look K)=tab.map want)(i:Nat)(o:Z.D #[P,w,K,mg,base] k Str.empty s sp cm)(b:BA (gG s) (gG s) s (jY s):=by walk_at "ba")(e:tab[i]? = some (Str.empty,s):=by rfl):Z.N #[P,w,K,mg,base] k s sp cm:=Q4 X G (GI i t e) (λF=>o _ _ F) b
def dg(t:tab.map (look K)=tab.map want)(i:Nat)(o:Z.D #[P,w,K,mg,base] k c s sp cm)(b:BA (gG s) (iC c s) s (jY s):=by walk_at "ba")(e:tab[i]? = some (c,s):=by rfl)(n:(c==Str.empty)=false:=by rfl):Z.M #[P,w,K,mg,base] k c s sp cm:=RZ (J_ i t e n) (λF=>o _ _ F) b
def Ad(t:tab.map (look K)=tab.map want)(i:Nat)(o:Z.DR #[P,w,K,mg,base] k c s sp cm)(b:BA (gG s) (iC c s) s (jY s):=by walk_at "ba")(e:tab[i]? = some (c,s):=by rfl)(n:(c==Str.empty)=false:=by rfl):Z.MR #[P,w,K,mg,base] k c s sp cm:=RZ (J_ i t e n) (λF=>o _ _ F) b
def JN(t:tab.map (look K)=tab.map want)(q:sE L K=true)(i:Nat)(o:Z.D #[P,w,K,mg,base] k c s sp cm)(b:BA (gG s) (iC c s) s (jY s):=by walk_at "ba")(e:tab[i]? = some (c,s):=by rfl)(n:(c==Str.empty)=false:=by rfl)(y:gG s="__init__":=by rfl)(v:L.cl.contains c=true:=by rfl):Z.I #[P,w,K,mg,base] k c s sp cm:=by
 have l:=J_ i t e n;let#[a,b']:=aeR q v;let#[f,e1,i,l]:=l;let#[kp,fd,F]:=GQ l;rw[y] at e1;apply#[f,fd,o _ _ F,F.binds b,#[a,e1,i,b']]
end
section
variable{st:Stmt}
def ba_n(n:Nat)(h:ps.length=n)(e:∀(kV doc pm) (an) (aU ct) (f:Fin n->Value),bindArgs (fnOf x q (lZ st) (gS st) (c9 st) .none kV doc pm an aU ct) #[List.ofFn f,[]]=pure (ps.zip (List.ofFn f))):BA x q st ps:=λkV doc pm an aU ct us hl=>by
 obtain rfl:=hl.trans h;have:=e kV doc pm an aU ct λi=>us[(i:Nat)]
 rwa [List.ofFn_getElem] at this
end
def oX(h:∃t,X.mg x=some (.int n t))(hg:GD X x:=by apply#[rfl,by decide]):FP X (.Name x pos) (eC (.int n)):=let#[_,h]:=h;Wh h hg
def Kr(h:∃t,X.mg x=some (.ref t)/\DS X.K t ys)(hg:GD X x:=by apply#[rfl,by decide]):FP X (.Name x pos) (eC (.tup (ys.map D.str))):=let#[_,h,t]:=h;aa4 h t hg
def gX(h3:X.env.kindOf=λx=>X.env.scope.names.lookup x)(h:ym X.N X.env.scope sc M js=true):mh X M js sc:=ZM rfl rfl h3 h
section
variable{A:Z->Prop}
abbrev wF{F:List D->Option D}(_:∀z,A z->z.D k c s (a_ · F) cm)(z:Z):Prop:=z.N k s (a_ · F) cm
abbrev wP{F:MF}(_:∀z,A z->z.D k c s (kY · F) cm)(z:Z):Prop:=z.N k s (kY · F) cm
abbrev wG{F:List D->Option D}(_:∀z,A z->z.D k c s (a_ · F) cm)(z:Z):Prop:=z.M k c s (a_ · F) cm
abbrev wO{F:MF}(_:∀z,A z->z.D k c s (dW · F) cm)(z:Z):Prop:=z.M k c s (dW · F) cm
abbrev wI{F:MF}(_:∀z,A z->z.D k c s (dW · F) cm)(z:Z):Prop:=z.I k c s (dW · F) cm
abbrev wR{F:List D->Option Rz}(_:∀z,A z->z.DR k c s (iX · F) cm)(z:Z):Prop:=z.MR k c s (iX · F) cm
abbrev fF{F:List D->Option D}(_:∀z,A z->z.D k c s (a_ · F) cm):List D->Option D:=F
abbrev fO{F:MF}(_:∀z,A z->z.D k c s (dW · F) cm):MF:=F
abbrev fP{F:MF}(_:∀z,A z->z.D k c s (kY · F) cm):MF:=F
abbrev fR{F:List D->Option Rz}(_:∀z,A z->z.DR k c s (iX · F) cm):List D->Option Rz:=F
end
end L2.Ev
namespace L2
open PySem PySem.Spec PyProof.Rows
def adl{P:Program}{w:World}{k:Key}{u:Value}(h:(fQ P w).is k u=true):RelV (kV k) u:=by
 rcases l_ h with⟨i,t,rfl,rfl⟩|⟨x,t,rfl,rfl⟩
 .exact#[t,rfl]
 .exact#[t,rfl]
theorem KV.at{κ:Type}:∀{ak:List (κ×V)}{vs:List (κ×Value)}{i:Nat}{p:κ×V},KV ak vs->ak[i]? = some p->∃q,vs[i]? = some q/\p.1=q.1
 |_,_,i,p,.nil,e=>by simp at e
 |_,_,0,p,.cons r _,e=>by ext e;apply#[_,rfl,r.1]
 |_,_,i+1,p,.cons _ t,e=>KV.at (i:=i) t e
def Ub(a:Addr)(o:Obj)(ak:List (Key×V)):It:=#[λi H=>i<ak.length/\H a=some (.cG o (.dK ak)),λi H x H'=>H'=H/\∃p,ak[i]? = some p/\x=kV p.1,λi H=>ak.length<=i/\H a=some (.cG o (.dK ak)),false]
def aer{P:Program}{w:World}{K:Fr}{tg:Expr}(a it:Addr){o:Obj}{es:Array DictEntry}{ep:Nat}{ak:List (Key×V)}{vs:List (Key×Value)}(kv:KV ak vs)(h1:o.ExactDict)(h2:o.data=.dict es ep)(h3:KeysOf (fQ P w) es)(h4:Pairs (fQ P w) es.toList vs)(h5:(vs.map (·.1)).Nodup):
  Turn P w K tg (Ub a o ak) [it] it (λi h=>h.IsKeyIter it a i vs.length ep) where
 mem:=by simp
 obj:=λi h st b hb=>by
  have e:b=it:=by simpa using hb
  subst e;let#[o,e,c,d]:=st;apply#[o,e,λv z=>by rw[d] at z;ext z]
 keep:=λi h h' st k=>by
  let#[o,e,c,d]:=st;apply#[o,k it (by simp) o e,c,d]
 item:=by
  intro X hP hw hK hc i af s U H E I hf st hg;subst hP hw hK;let#[hi,hH]:=hg;let#[ho,_]:=(show s.heap.get? a=some o/\dz X.prog X.w H s.heap a (.dK ak) from I.aH a _ hH)
  let#[f0,f1,f2,f3,f4,f5]:=hf it (by simp);let#[q,hq,e]:=kv.at (abe hi);refine wpAny_pyNext_dict_item st #[o,es,ho,h1,h2,h3,h4,h5] hq λkey h' hk kU sb=>?_
  have I1:Inv X af U H { s with heap:=h' }:=I.turned (λb o hb e=>(sb.2 b hb).trans e) f0 f1 f3 f4 f5;let#[o',e',c,d]:=id kU;apply#[key,rfl,Bv e' c d (by decide) #[kV q.1,H,I1,adl hk,#[rfl,_,abe hi,by rw[e]],kU,λb hb=>(hf b hb).1]]
 done:=by
  intro X hP hw hK hc i af s U H E I hf st hg;subst hP hw hK;let#[hi,hH]:=hg;let#[ho,_]:=(show s.heap.get? a=some o/\dz X.prog X.w H s.heap a (.dK ak) from I.aH a _ hH)
  let#[f0,f1,f2,f3,f4,f5]:=hf it (by simp);have hl:=Paired.length kv;apply wpAny_pyNext_dict_end (I.ok.hd (hc.resolve_right λz=>aa3 z)) st #[o,es,ho,h1,h2,h3,h4,h5] (aiN (by omega)) λh' eb=>#[rfl,I.turned (λb o hb e=>eb b o hb e) f0 f1 f3 f4 f5]
 self:=λ_ _ _ _ _ st h=>wpAny_pyIter_keyiter st h
def ZR(X:Cx)(tl:TE):TI:=λU H R=>tl U H λx H1=>∃a ak,x=.ref a/\H1 a=some (.dK ak)/\∀o,(∀o u,X.oY a≠some (.cG o u))->R (Ub a o ak) (upd H1 a (.cG o (.dK ak)))
def ag6{tg l:Expr}{tl:TE}(hl:PE X l tl):PI X tg l (ZR X tl):=by
 intro af s U H R I h;refine hl.n I h λv s1 x H1 I1 r1 q1=>?_
 let#[a,ak,e,ha,q]:=q1;subst e;ext r1;let#[_,aeK,vs,kv,od]:=(show ak.length<=sizeLine/\(a==sysModules)=false/\∃vs,KV ak vs/\s1.heap.DictOf (fQ X.prog X.w) a vs from I1.aH a _ ha)
 let#[ep,oA]:=od.dictAt;let#[o,es,ho,h1,h2,h3,h4,h5]:=id oA;refine wpAny_pyIter_dict aeK oA ?_;have I2:=I1.Yb ha ho;refine#[s1.heap.objs.size,[s1.heap.objs.size],_,_,_,rfl,I2.kept λb o e=>aak _ e,aer a _ kv h1 h2 h3 h4 h5,#[_,abx _ rfl,rfl,rfl],λb hb=>?_,q o λo u z=>by rw[I1.base.iz a o u z] at ha;ext ha];have e:b=s1.heap.objs.size:=by simpa using hb
 subst e;apply I2.pN (aa9 _) (I2.aH.fresh (aa9 _))
def S_(K:Fr)(f c:Str):TT:=Ul (rm Kf (rm (Cf K) (Tg (G3 K (oG 1) f) (oG 0)) (tC (.int 0))) (tC (.str c)))
def jH(c:Str)(ps:List ((Key×V)×Str)):List V:=(ps.filter λp=>decide (p.2=c)).map λp=>kV p.1.1
def ahq(K:Fr)(i:Nat)(f c:Str):TE:=λU H Q=>∃b C dx fs a ak ss,U[i]? = some (some (.ref b))/\H b=some (.ins C dx fs)/\jO K C/\iR K C f/\fs.lookup f=some (.ref a)/\H a=some (.dK ak)/\(ak.map (·.1)).Nodup/\ak.length<sizeLine/\ak.length=ss.length/\
 (∀(j:Nat) (p:Key×V) (s:Str),ak[j]? = some p->ss[j]? = some s->∃t xs,p.2=.ref t/\bK K H t xs/\d7 xs 0=some (.str s))/\∀D,H D=none->Q (.ref D) (upd H D (.lst (jH c (ak.zip ss))))
def afX{ak:List (Key×V)}{j:Nat}{p:Key×V}(nd:(ak.map (·.1)).Nodup)(e:ak[j]? = some p):eK ak p.1=some p.2:=by
 induction ak generalizing j with
 |nil=>simp at e
 |cons q r ih=>
  let#[n1,n2]:=ab3.mp nd;unfold eK;cases j with
  |zero=>ext e;rw[ahG (by simp)];rfl
  |succ j=>
   have e:=e;rw[afP (by simpa using λz:q.1=p.1=>n1 (abG.mpr #[p,aiS e,z.symm]))];apply ih n2 e
def ahg{i:Nat}{f c:Str}{tg iter elt:Expr}{ifs:List Expr}{sc:Scope}{pos:Pos}{M:List Str}(S:mh X M [none,some i] sc)(hc:X.calm=true)(hl:PE X iter (G3 X.K (oG i) f))
  (hb:∀s3 H3 fp,PG (eE X M sc s3 H3 fp) tg (tQ 0)/\tE (eE X M sc s3 H3 fp) ifs (S_ X.K f c)/\PE (eE X M sc s3 H3 fp) elt (oG 0)) (hs:∀x,foldedSetIterable iter X.env x=pure x:=by intro _;rfl) :
  PE X (.ListComp elt [#[tg,iter,ifs,0]] sc pos) (ahq X.K i f c):=by
 intro af s U H Q I h;let#[b,C,dx,fs,a,ak,ss,Dh,hB,cl,na,hf,ha,nd,hz,wg,hv,k]:=h;have nba:b≠a:=λz=>by rw[z,ha] at hB;ext hB
 refine cL (SW S hc (ag6 hl) hb hs af s U H (λv H'=>∃o D,(∀o u,X.oY a≠some (.cG o u))/\v=.ref D/\H D=none/\H'=upd (upd H a (.cG o (.dK ak))) D (.lst (jH c (ak.zip ss)))) I ?_) λv s1 #[x,H',I',r,o,D,h0,e1,hD,e2]=>?_
 .refine#[.ref b,Dh,b,C,dx,fs,.ref a,rfl,hB,cl,na,hf,a,ak,rfl,ha,λo h0 D hD=>?_];have kK:D≠a:=λz=>by rw[z,bI] at hD;ext hD
  rw[aM kK] at hD;have hnb:D≠b:=λz=>by rw[z,hB] at hD;ext hD
  refine#[λj m aE H'=>m=ak.length-j/\j<=ak.length/\(∃s0,aE=[s0,some (.ref b)])/\H'=upd (upd H a (.cG o (.dK ak))) D (.lst (jH c ((ak.zip ss).take j))),#[_,rfl,adN _,#[none,by show[none,(U[i]?).join]=_;rw[Dh];rfl],rfl],?_]
  rintro j m aE H' ⟨rfl,hj,⟨s0,rfl⟩,rfl⟩
  have ga:upd (upd H a (.cG o (.dK ak))) D (.lst (jH c ((ak.zip ss).take j))) a=some (.cG o (.dK ak)):=by rw[aM (afW kK),bI]
  by_cases cI:j<ak.length
  .refine .inr #[#[cI,ga],?_]
   rintro x H2 ⟨rfl,p,hp,rfl⟩
   have M9:=abe (wg ▸ cI);let#[t,xs,e1,hq,e2]:=hv j p _ hp M9;have zj:(ak.zip ss)[j]? = some (p,ss[j]'(wg ▸ cI)):=aiP.mpr #[hp,M9];have tk:(ak.zip ss).take (j+1)=(ak.zip ss).take j++[(p,ss[j]'(wg ▸ cI))]:=by
    let#[l,e]:=acN.mp zj;rw[List.take_succ_eq_append_getElem l,e]
   have gq:bK X.K (upd (upd H a (.cG o (.dK ak))) D (.lst (jH c ((ak.zip ss).take j)))) t xs:=by
    have n1:∀{u:HO}{ad:Addr},H ad=some u->(∀z,u≠.dK z)->upd (upd H a (.cG o (.dK ak))) D (.lst (jH c ((ak.zip ss).take j))) ad=some u:=λ{u ad} e n=>by
     rw[aM (λz=>by rw[z,hD] at e;ext e),aM (λz=>by rw[z,ha] at e;ext e;apply n _ rfl)];apply e
    rcases hq with(h|⟨o',h⟩)|h
    .exact .inl (.inl (n1 h λ_ z=>by ext z))
    .exact .inl (.inr #[o',n1 h λ_ z=>by ext z])
    .exact .inr h
   refine#[.ref b,rfl,b,C,dx,fs,.ref a,rfl,by rw[aM (afW hnb),aM nba];apply hB,cl,na,hf,kV p.1,rfl,a,p.2,rfl,.inl #[ak,p.1,.inr #[o,ga],rfl,(afX nd hp).symm],?_];refine#[t,xs,0,_,e1,rfl,gq,e2,rfl,?_];refine#[_,rfl,?_]
   by_cases oZ:ss[j]'(wg ▸ cI)=c
   .have:decide (V.str (ss[j]'(wg ▸ cI))=V.str c)=true:=aa1 (by rw[oZ]);rw[this];dsimp only;rw[if_pos rfl];refine#[_,rfl,_,bI,?_,ak.length-(j+1),by omega,rfl,cI,#[_,rfl],?_]
    .refine ahn ?_ hz;unfold jH;rw[List.length_map];refine adJ (ahb _ _) ?_;rw[ahs];omega
    .rw[tk];unfold jH;rw[List.filter_append,adK,ai3 (by simpa using oZ)]
     funext z
     by_cases h1:z=D
     .rw[h1,bI,bI];rfl
     .rw[aM h1,aM h1,aM h1]
   .have:decide (V.str (ss[j]'(wg ▸ cI))=V.str c)=false:=abS (λz=>oZ (by injection z));rw[this];dsimp only;rw[abm aa3];refine#[ak.length-(j+1),by omega,rfl,cI,#[_,rfl],?_];rw[tk];unfold jH;rw[List.filter_append,ai4 (by simpa using oZ),List.filter_nil,acU]
  .have ej:j=ak.length:=by omega
   refine .inl #[#[by omega,ga],o,D,h0,rfl,hD,?_];rw[ej,List.take_of_length_le (by rw[ajw];omega)]
 .subst e1 e2;have kK:D≠a:=λz=>by rw[z,ha] at hD;ext hD
  have I2:=I'.YW (by rw[aM (afW kK),bI]) h0 (I.ok.hd hc);have e:upd (upd (upd H a (.cG o (.dK ak))) D (.lst (jH c (ak.zip ss)))) a (.dK ak)=upd H D (.lst (jH c (ak.zip ss))):=by
   funext z
   by_cases h1:z=a
   .subst h1;rw[bI,aM (afW kK),ha]
   .rw[aM h1]
    by_cases h2:z=D
    .subst h2;rw[bI,bI]
    .rw[aM h2,aM h2,aM h1]
  rw[e] at I2;apply#[_,_,I2,r,k D hD]
end L2
namespace L2.Ev
open PySem PySem.Spec PyProof.Rows
def nq:D->Option Str
 |.tup (.str s::_)=>some s
 |_=>none
def ad9:Key->D
 |.inl k=>.int k
 |.inr x=>.str x
def xB(c:Str)(ak:List (Key×D)):List D:=(ak.filter λp=>decide ((nq p.2).getD Str.empty=c)).map λp=>ad9 p.1
def EM(i:Nat)(cn f c:Str):EF:=λY=>match Y[i]? with
 |some (some (.ins OZ es,_))=>match es.lookup f with
  |some (.bZ ak)=>if OZ=cn/\(ak.map (·.1)).Nodup/\ak.length<sizeLine/\∀p∈ak,(nq p.2).isSome=true then some (.lst (xB c ak),.own) else none
  |_=>none
 |_=>none
theorem Qa{K:Fr}{H:Hp}{c:Str}:∀{ak:List (Key×D)}{vs:List (Key×V)},ak.map (·.1)=vs.map (·.1)->aC K H (xB c ak) (jH c (vs.zip (ak.map λp=>(nq p.2).getD Str.empty))) []
 |[],[],_=>.nil
 |[],_::_,e=>nomatch e
 |_::_,[],e=>nomatch e
 |p::ak,q::vs,e=>by
  let#[e1,e2]:=List.cons.inj e;have ih:=Qa (K:=K) (H:=H) (c:=c) e2;unfold xB jH at ih ⊢;rw[aas,List.zip_cons_cons]
  by_cases h:(nq p.2).getD Str.empty=c
  .rw[ai3 (by simpa using h),ai3 (by simpa using h),aas,aas];refine .cons (f1:=[]) ?_ ih;have e1:p.1=q.1:=e1;rw[e1];cases q.1 with
   |inl k=>apply .int k
   |inr x=>apply .str x
  .rw[ai4 (by simpa using h),ai4 (by simpa using h)];apply ih
def Vo{X:Cx}{pos:Pos}(i:Nat){x cn f c:Str}{C:Addr}{p1 p2:Pos}{tg elt:Expr}{ifs:List Expr}{sc:Scope}{M:List Str}(S:mh X M [none,some i] sc)(hc:X.calm=true)(hC:ClsAt X.K cn C)(na:iR X.K C f)
  (hb:∀s3 H3 fp,PG (eE X M sc s3 H3 fp) tg (tQ 0)/\tE (eE X M sc s3 H3 fp) ifs (S_ X.K f c)/\PE (eE X M sc s3 H3 fp) elt (oG 0)) (va:VA X i x:=by walk_at "va") (wZ:attributeBase (.Name x p1) f X.env (eval (.Name x p1) X.env)=eval (.Name x p1) X.env:=by rfl) (hs:∀v,foldedSetIterable (.Attribute (.Name x p1) f p2) X.env v=pure v:=by intro _;rfl) :
  FP X (.ListComp elt [#[tg,.Attribute (.Name x p1) f p2,ifs,0]] sc pos) (EM i cn f c):=by
 exists 21,ahg S hc (qR va.pe wZ) hb hs;unfold EM at e
 split at e
 .rename_i OZ es t h1
  split at e
  .rename_i ak h2
   split at e
   .rename_i h3;let#[rfl,nd,hz,hS]:=h3;ext e;let#[v,fp,Dh,r,_]:=ok.sl i _ _ h1;let#[b,dx,fs,g,rfl,rfl,h1,l7,h3,h4]:=r.kQ hC.ns;let#[u,gf,h5,h6,_]:=aC.look h3 h4 h2;cases h6 with
    | @bZ a vs _ g0 ha fZ rs=>
     refine#[b,C,dx,fs,a,vs,ak.map λp=>(nq p.2).getD Str.empty,Dh,h1,hC.cl,na,h5,ha,fZ ▸ nd,?_,?_,λj p s hp hs=>?_,λD hD=>?_]
     .have:=congrArg List.length fZ;rw[List.length_map,List.length_map] at this;omega
     .have:=congrArg List.length fZ;rw[List.length_map,List.length_map] at this;rw[List.length_map,this]
     .rw[acB] at hs;let#[q,hq,rfl]:=ac3.mp hs;let#[w,fw,hw,fu,_]:=rs.get (d:=q.2) (by rw[acB,hq];rfl);rw[acB,hp] at hw;have hw:=acq hw;have hq:=hS q (aiS hq);cases hd:q.2 with
      |tup ds=>
       rw[hd] at hq fu;cases ds with
       |nil=>ext hq
       |cons d0 ds=>
        cases d0 with
        |str s=>
         let#[tt,xs,e1,lQ,r2]:=fu.gY;cases r2 with
         |cons r3 _=>
          let#[e3,_]:=r3.vq;apply#[tt,_,hw.trans e1,lQ,by rw[e3];unfold d7 lR;rw[if_pos (by omega),if_pos (by rw[acK];omega)];rfl]
        |_=>ext hq
      |_=>rw[hd] at hq;ext hq
     .have s2:aJ H (upd H D (.lst (jH c (vs.zip (ak.map λp=>(nq p.2).getD Str.empty))))):=λb o e=>by rw[aM (cO e hD)];apply e
      refine k _ _ [D] s2 (.lst bI (Qa fZ)) #[ab3.mpr #[(λm=>by ext m),acv],λa m=>?_];cases aaK.mp m;apply hD
   .cases e
  .cases e
 .cases e
def pgn{X:Cx}(i:Nat){x:Str}{pos:Pos}(hN:X.N.Nodup)(hi:X.N[i]? = some x:=by rfl)(hx:Loc X.env.scope x:=by first|exact Or.inl rfl|exact Or.inr rfl)(hf:X.fn x=true\/X.env.scope.names.lookup x=some .local:=by first|exact .inl rfl|exact .inr rfl):PG X (.Name x pos) (tQ i):=QF hN hi hx hf
open PySem PySem.Spec PySem.W PyProof.Rows
section
variable{A:Z->Prop}
abbrev Mb{F:MR}(_:∀z,A z->z.DR k c s (lJ · F) cm):MR:=F
end
def Z.NR(z:Z)(k:Nat)(s:Stmt)(sp:Frag->Sp)(cm:Bool:=true):Prop:=FN z.P z.w z.K z.mg z.base (fm z.P z.w) k (gG s) (jY s) (sp z.K) cm
def Bu{K:Frag}{tab:List (Str×Stmt)}(X:K.In h)(G:h.Ns mainGlobals mg)(t:tab.map (look K)=tab.map want)(i:Nat)(o:Z.DR #[P,w,K,mg,base] k Str.empty s sp cm)(b:BA (gG s) (gG s) s (jY s):=by walk_at "ba")(e:tab[i]? = some (Str.empty,s):=by rfl):Z.NR #[P,w,K,mg,base] k s sp cm:=Q4 X G (GI i t e) (λF=>o _ _ F) b
end L2.Ev
namespace L2
open PySem PySem.Spec PyProof.Rows
def YT(x y:Str)(te:TE):TE:=λU H Q=>te U H λv H1=>∃n:Int,v=.int n/\n.natAbs.log2<1920/\Q (.str (Str.empty++x++Str.ofString (toString n)++y)) H1
def afh(hx:x.length<=1000)(hy:y.length<=1000)(he:PE X e te):PE X (.JoinedStr [.Constant (.str x) j p1,.FormattedValue e (-1) none p2,.Constant (.str y) j2 p4] p3) (YT x y te):=by
 intro af s U H Q I h;have l0:(Str.empty++x).length=x.length:=by rw[ajx];show 0+_=_;omega
 refine JoinedStr_many (joinParts_cons (Calls.Constant_str #[by rw[l0,afm];omega,?_]));refine joinParts_cons (FormattedValue_plain (wH (he af _ U H _ (I.tok _) h) λu s1 v H1 I1 r q=>?_));let#[n,e1,e2,q]:=q;subst e1;let#[t,rfl]:=r;have l1:=int_text_length_le (by decide) e2;have l2:(Str.empty++x++Str.ofString (toString n)).length<=sizeLine:=by
  rw[ajx,l0,PySem.ofString_length,afm];omega
 have l3:(Str.empty++x++Str.ofString (toString n)++y).length<=sizeLine:=by
  rw[ajx,ajx,l0,PySem.ofString_length,afm];omega
 refine formatField_int_small e2 #[l2,?_];refine joinParts_cons (Calls.Constant_str #[l3,?_]);apply joinParts_nil #[.str _,H1,(I1.tok _).tok _,#[_,rfl],q] l3
end L2
namespace L2.Ev
open PySem PySem.Spec PySem.W PyProof.Rows
def E3(x y:Str):D->Option D
 |.int n=>if n.natAbs<2 ^ 64 then some (.str (Str.empty++x++Str.ofString (toString n)++y)) else none
 |_=>none
def ZQ(hx:x.length<=1000)(hy:y.length<=1000)(h:FP X e f):FP X (.JoinedStr [.Constant (.str x) j p1,.FormattedValue e (-1) none p2,.Constant (.str y) j2 p4] p3) (e1 (E3 x y) f):=by
 let#[t,p,q]:=h;refine#[_,afh hx hy p,@λH0 S z aq Y U H Q d tg ok e0 k=>?_];let#[d1,t1,h1,h2,rfl]:=oB e0;unfold E3 at h2
 split at h2
 .rename_i n;let#[hn,h2]:=afT.mp h2;ext h2;refine q ok h1 λH1 v fp s1 r1 _=>?_
  ext r1;apply#[n,rfl,NS hn,k H1 _ [] s1 (.str _) .nil]
 .cases h2
def abJ{K:Frag}(h:bQ P w K mg base dQ k f fd ps sp cm):bQ P w K mg base (fm P w) k f fd ps sp cm:=by
 refine#[h.len,λA outer s H args us vs Q E hr e0 hb hv q=>?_];refine ai8 (h.run A outer s H args us vs Q E hr e0 hb hv q) λr s' hq=>?_
 cases r with
 |error e=>apply hq.elim
 |ok fl=>ext fl<;>apply hq
def jo(F:MF)(R:List D->Option Rz):MR:=λd ds=>match F d ds with
 |some (r,d1)=>if aB r=true then some (.ok r d1) else none
 |none=>(R (d::ds)).bind fun
  |.er cn=>some (.er cn d)
  |.ok _=>none
def aav{K:Frag}{sp:Sp}(h1:bQ P w K mg base dQ k f fd ps sp cm)(h2:bQ P w K mg base (fm P w) k f fd ps (iX K R) cm)
  (hs:∀a ws H Q E d0 aO ds cP r d1,Rep K H d0 (.ref a) aO->aO.Nodup->aC K H ds ws cP->(∀b∈cP,b∉aO)->F d0 ds=some (r,d1)->aB r=true->(∀H' v aY,bu H H'->(∀b o,b∉aO->H b=some o->H' b=some o)->Rep K H' d1 (.ref a) aY->aY.Nodup->(∀b∈aY,b∈aO\/H b=none)->Rep K H' r v []->Q v H')->sp (V.ref a::ws) H Q E) :
  bQ P w K mg base (fm P w) k f fd ps (lJ K (jo F R)) cm:=by
 have key:∀vs H Q E,lJ K (jo F R) vs H Q E->sp vs H Q E\/iX K R vs H Q E:=λvs H Q E #[a,ws,d0,aO,ds,cP,r,hv,r0,n0,rs,dj,e,q]=>by
  unfold jo at e;cases hF:F d0 ds with
  |some p=>
   let#[r1,d1]:=p;rw[hF] at e;dsimp only at e
   by_cases hi:aB r1=true
   .rw[if_pos hi] at e;ext e;rw[hv];apply .inl (hs a ws H Q E d0 aO ds cP r1 d1 r0 n0 rs dj hF hi q)
   .rw[abm hi] at e;ext e
  |none=>
   rw[hF] at e;let#[z,hR,e]:=ac8.mp e;ext z<;>ext e
   apply .inr #[d0::ds,aO++cP,_,hv ▸ .cons r0 rs,hR,λH' C sm hC=>q H' C aO (bu.of sm) (λb o _ e=>sm b o e) (r0.same sm) n0 (λb m=>.inl m) hC]
 refine#[λvs H Q E q=>(key vs H Q E q).elim (h1.len vs H Q E) (h2.len vs H Q E),λA outer s H args us vs Q E hr e0 hb hv q=>?_];apply(key vs H Q E q).elim ((abJ h1).run A outer s H args us vs Q E hr e0 hb hv) (h2.run A outer s H args us vs Q E hr e0 hb hv)
def Xq{K:Frag}(h1:bQ P w K mg base dQ k f fd ps (kY K F) cm)(h2:bQ P w K mg base (fm P w) k f fd ps (iX K R) cm):bQ P w K mg base (fm P w) k f fd ps (lJ K (jo F R)) cm:=
 aav h1 h2 λa ws H Q E d0 aO ds cP r d1 r0 n0 rs dj hF hi q=>#[.ref a,ws,d0,aO,ds,cP,r,d1,rfl,r0,n0,rs,dj,hF,λH' v aY eX im kp r1 nd fr rr _ _=>q H' v aY im kp r1 nd fr (by
  have hn:=rr.aB hi;subst hn;apply rr)]
def v8(i:Nat)(G:MR)(g:AF):XR:=λY=>(Y[i]?).bind fun
 |some (.ins c es,.own)=>(g Y).bind λqs=>if apart i qs=true then(G (.ins c es) (qs.map (·.1))).map fun
  |.ok r d1=>.ok r (cJ Y i d1)
  |.er en d1=>.er en (cJ Y i d1) else none
 |_=>none
def MN(i:Nat)(GG:bQ X.prog X.w X.K X.mg X.base (fm X.prog X.w) k f fd ps (lJ X.K G))(hr:bz k X.A)(hm:X.mg x=some (.ref f))(hk:PySem.W.keepIn X.K (.ref f)=true)(hb:Binds X.K fd ps [])(ha:FA X.f_ es g)
  (hx:X.ex=[]:=by rfl) (va:VA X i xn:=by walk_at "va")
  (hg:GD X x:=by apply#[rfl,by decide]) (he:starEach (.Name xn p1::es) X.env=(false,eval (.Name xn p1) X.env)::starEach es X.env:=by rfl) (hpl:(backTo pos (starEach es X.env)).any (·.1)=false:=by rfl) :
  FE X (.Call (.Name x p) (.Name xn p1::es) [] pos) (v8 i G g):=by
 let#[t,pa,_,sa]:=ha;refine#[_,abu GG hr hx hg.1 hm hk hb .nil (eO (Lu va.N va.v va.d va.c) pa he) hg.2 he hpl,@λH0 S z aq Y U H Q E r ok e0 kk=>?_];let#[w,h1,e1]:=ac8.mp e0
 split at e1
 .rename_i c es1;let#[qs,h2,e2]:=ac8.mp e1
  by_cases j_:apart i qs=true
  .rw[if_pos j_] at e2;let#[w,h3,e3]:=ac3.mp e2;let#[v,aO,hs,r0,zz]:=ok.sl i _ _ h1;refine#[v,hs,?_];refine sa ok h2 λH2 vs i8 s2 r2 g2=>?_
   show lJ X.K G ((v::vs)++[]) H2 Q E;rw[acU];have nY:=ok.same s2;obtain⟨b,rfl⟩:∃b,v=.ref b:=by ext r0;apply#[_,rfl]
   refine#[b,vs,_,aO,_,i8,w,rfl,r0.same s2,zz.1,r2,yy ok j_ g2 zz,h3,?_];cases w with
   |ok r1 d1=>
    ext e3;intro H3 u aY im kp r1 nd fr rr;let#[z',gR]:=nY.put h1 hs zz im kp r1 nd fr;apply kk z' H3 H3 u [] gR (aJ.refl H3) rr .nil
   |er en d1=>
    ext e3;intro H3 C3 aY im kp r1 nd fr hn;let#[z',gR]:=nY.put h1 hs zz im kp r1 nd fr;apply kk z' H3 C3 gR hn
  .rw[abm j_] at e2;ext e2
 .cases e1
def u_(fx:XR)(fb:EF):XR:=λY=>(fx Y).bind fun
 |.ok d Y'=>(fb Y').bind λp=>if(aB d&&aB p.1)=true then some (.ok (.tup [d,p.1]) Y') else none
 |.er en Y'=>some (.er en Y')
def OM{x1}(ha:FE X a fx)(hb:FP X.f_ b fb)(hs:starEach [a,b] X.env=(false,eval a X.env)::starEach [b] X.env:=by rfl)(bS:starEach [b] X.env=(false,eval b X.env)::starEach [] X.env:=by rfl):FE X (.Tuple [a,b] x1 pos) (u_ fx fb):=by
 let#[t,p,q]:=ha;let#[t',p',q']:=hb;refine#[_,abD (MS p (MS (adg p') afN bS) hs),@λH0 S z aq Y U H Q E r ok e0 kk=>?_];let#[w,h1,e1]:=ac8.mp e0;refine q ok h1 ?_;cases w with
 |ok d aP=>
  let#[p1,h2,e2]:=ac8.mp e1
  by_cases hi:(aB d&&aB p1.1)=true
  .rw[if_pos hi] at e2;ext e2;let#[i1,i2]:=(aaF _ _).mp hi;intro z1 H1 H2 v fp cM s1 rv tg;have n1:=rv.aB i1;subst n1;refine q' (cM.same s1) h2 λH3 v2 i8 s2 r2 _=>?_
   have n2:=r2.aB i2;subst n2;refine#[by show 2<=sizeLine;decide,λa ha=>?_];have s3:aJ H3 (upd H3 a (.tup [v,v2])):=λb o e=>by rw[aM (cO e ha)];apply e
   apply kk z1 H1 _ _ [] cM ((s1.trans s2).trans s3) (.tup (bK.of bI) (.cons ((rv.same s2).same s3) (.cons (r2.same s3) .nil))) .nil
  .rw[abm hi] at e2;ext e2
 |er en aP=>
  ext e1;apply kk
def DL(fo fk fd:EF):EF:=λY=>match fo Y,fk Y,fd Y with
 |some (.eV es,.sh o),some (.tup ls,_),some (dn,.own)=>(iB ls).bind λks=>if ks.all (λk=>k.isLeft)=true/\ks≠[] then some ((bC es ks).getD dn,.sh o) else none
 |_,_,_=>none
def acP(hu:X.A.units+1<cLine)(ni:vB X.K=true)(ha:FP X o fo)(hb:FP X e fk)(hc:FP X f fd)(mm:M2 X o "get" apos e f fT:=by apply#[rfl,rfl,rfl,rfl]):FP X (.Call (.Attribute o "get" apos) [e,f] [] fT) (DL fo fk fd):=by
 let#[ta,pa,sa]:=ha;let#[tb,pb,sb]:=hb;let#[tc,pc,sc]:=hc;exists 20,Gz hu pa pb pc mm;unfold DL at e
 split at e
 .rename_i es o ls t2 dn e1 iV e3;let#[ks,J5,e]:=ac8.mp e;let#[#[yq,kK],e]:=afT.mp e;ext e;refine sa ok e1 λH1 x f1 s1 r1 g1=>?_
  cases r1 with
  | @eV l ak _ g0 h fZ rs=>
   refine#[l,rfl,.inr #[ak,.inl h],?_];refine sb (ok.same s1) iV λH2 y f2 s2 r2 _=>?_
   let#[bL,xs,rfl,F4,Je]:=r2.gY;obtain rfl:=aC.keys Je J5;have Aq:=OH F4 ni yq kK;refine sc (ok.same (s1.trans s2)) e3 λH3 zv f3 s3 r3 g3=>?_
   refine#[eK ak ks,.inr #[ak,ks,bL,.inl (s3 _ _ (s2 _ _ h)),rfl,(Tk.aB Aq (.of s3)),rfl],?_];let#[h1,h2]:=qp (k:=ks) fZ rs;cases hv:bC es ks with
   |some dv=>
    let#[v,f,mU,rv,sub]:=h1 _ hv;rw[mU];apply q H3 v f ((s1.trans s2).trans s3) (by rw[hv];apply(rv.same s2).same s3) (dh.sub (λa j e=>(ok.zd a j e).1) g1 λa m=>aao _ (sub a m))
   |none=>
    rw[h2 hv];refine q H3 zv f3 ((s1.trans s2).trans s3) (by rw[hv];apply r3) λa m j e=>?_
    let#[w,ew]:=(ok.zd a j e).1;have:=g3.2 a m;rw[s2 _ _ (s1 _ _ ew)] at this;ext this
 .cases e
def FI.or(h1:FI X tg e f)(h2:FI X tg e g):FI X tg e (λY=>(f Y).or (g Y)):=by
 let#[t1,p1,q1]:=h1;let#[t2,p2,q2]:=h2;refine#[λU H R=>t1 U H R\/t2 U H R,λaf s U H R I h=>h.elim (p1 af s U H R I) (p2 af s U H R I),@λH0 S z aq Y U H R ds tg ok e k=>?_];rcases Option.or_eq_some_iff.mp e with e|⟨_,e⟩
 .exact .inl (q1 ok e k)
 .exact .inr (q2 ok e k)
def DA(fa fb:EF):IF:=λY=>match fa Y,fb Y with
 |some (.bX ds,t1),some (.lst es,t2)=>if(aK ds&&aK es)=true then some ((ds.zip es).map λp=>.tup [p.1,p.2],iU [(.bX ds,t1),(.lst es,t2)]) else none
 |_,_=>none
def U_{K:Fr}{f1 f2:List Addr}(c1:aK ds=true)(c2:aK es=true):
  n6 K (y_ K l1 l2) ((ds.zip es).map λp=>.tup [p.1,p.2]) [#[.bX ds,.ref l1,f1],#[.lst es,.ref l2,f2]]:=by
 intro H i hh;let#[p1,xs,e1,q1,r1]:=(hh _ aap).nU;let#[p2,ys,g2,e2,q2,r2,_]:=(hh _ (aao _ aap)).dM;ext e1;ext e2;have n1:=r1.aB c1;have n2:=r2.aB c2;dsimp only at n1 r1;subst n1 n2;refine#[λd hd=>?_,λhl=>?_]
 .rw[acB] at hd;cases hz:(ds.zip es)[i]? with
  |none=>rw[hz] at hd;ext hd
  |some pr=>
   rw[hz] at hd;ext hd;let#[k1,k2]:=aiP.mp hz;let#[x,hx,rx]:=r1.uz k1;let#[y,hy,ry]:=r2.uz k2;refine#[#[xs,ys,x,y,q1,q2,hx,hy],λv H1 hv=>?_];let#[T,a,b,hT,rfl,rfl,ha,hb]:=hv;have ea:=ha xs q1;have eb:=hb ys q2;rw[hx] at ea;rw[hy] at eb;ext ea;ext eb;have s2:aJ H (upd H T (.tup [x,y])):=λb o e=>by rw[aM (cO e hT)];apply e
   apply#[s2,[],.tup (bK.of bI) (aC.cons (f1:=[]) (f2:=[]) (rx.same s2) (aC.cons (f1:=[]) (f2:=[]) (ry.same s2) .nil)),λa m=>nomatch m]
 .rw[List.length_map,ajw,r1.length,r2.length] at hl;apply#[xs,ys,q1,q2,by omega]
def aep{x1}(hm:X.mg "zip"=none)(ha:FP X a fa)(hb:FP X b fb)(hg:Gl X "zip":=by rfl)(hs:starEach [a,b] X.env=[(false,eval a X.env),(false,eval b X.env)]:=by rfl)(bS:starEach [b] X.env=[(false,eval b X.env)]:=by rfl):
  FI X (.Tuple elts x1 tp) (.Call (.Name "zip" p) [a,b] [] pos) (DA fa fb):=by
 let#[t,pa,hlen,q]:=ai ha (ai hb ay bS) (by rw[hs,bS]);exists 24,P8 hg hm pa hs bS;unfold DA at e
 split at e
 .rename_i d1 t1 d2 t2 h1 h2;let#[hc,e]:=afT.mp e;ext e;let#[c1,c2]:=(aaF _ _).mp hc;refine q ok (by unfold au aD;rw[h1,h2]) λH1 vs fp s1 r g=>?_
  cases r with
  | @cons _ v1 _ _ f1 _ r1 r=>
   cases r with
   | @cons _ v2 _ _ f2 _ r2 r=>
    ext r;let#[l1,xs,rfl,q1,_]:=r1.nU;let#[l2,ys,g2,rfl,q2,_,_]:=r2.dM;refine#[l1,l2,xs,ys,rfl,q1,q2,k H1 _ [#[.bX d1,.ref l1,f1],#[.lst d2,.ref l2,f2]] s1 (λh m=>?_) (U_ c1 c2)];have go:=g.over ok;rcases aat.mp m with rfl|m
    .exact#[r1,λa ma=>go a (aaZ _ ma)]
    .cases aaK.mp m;apply#[r2,λa ma=>go a (aaM _ (aaZ _ ma))]
 .cases e
def Ek(fa fb:EF):IF:=λY=>(DZ fa fb Y).or (DA fa fb Y)
def aeB{x1}(hm:X.mg "zip"=none)(ha:FP X a fa)(hb:FP X b fb)(hg:Gl X "zip":=by rfl)(hs:starEach [a,b] X.env=[(false,eval a X.env),(false,eval b X.env)]:=by rfl)(bS:starEach [b] X.env=[(false,eval b X.env)]:=by rfl):
  FI X (.Tuple elts x1 tp) (.Call (.Name "zip" p) [a,b] [] pos) (Ek fa fb):=(Ve hm ha hb hg hs bS).or (aep hm ha hb hg hs bS)
section
variable{A:Z->Prop}
abbrev Qu{F:MR}(_:∀z,A z->z.DR k Str.empty s (lJ · F) cm)(z:Z):Prop:=z.NR k s (lJ · F) cm
end
def Rh{z:Z}{F:MF}{R:List D->Option Rz}(h1:z.D j c s (kY · F))(h2:z.DR i c s (iX · R))(l1:j<=k:=by decide)(l2:i<=k:=by decide):z.DR k c s (lJ · (jo F R)):=λa b G=>Xq ((h1 a b G).mono l1) ((h2 a b G).mono l2)
end L2.Ev
namespace K61
open PySem L2 L2.Ev
local macro_rules | `(tactic| walk_at "s")=>`(tactic| apply #[#[rfl,rfl,rfl,by decide +kernel,rfl,by decide +kernel,by decide +kernel],rfl,rfl,by decide])
set_option hygiene false
local macro_rules | `(tactic| exists 1,$a)=>`(tactic| apply Z.oF (by walk_at "s") fun _ _ _ _ _ _ _ _ hr nd=>by apply $a)
local macro_rules | `(tactic| exists 2,$a)=>`(tactic| apply Z.oM (by walk_at "s") rfl fun _ _ _ _ _ _ _ hr nd=>by apply $a)
local macro_rules | `(tactic| exists 3,$a)=>`(tactic| apply Z.oP (by walk_at "s") rfl fun _ _ _ _ _ _ _ hr nd=>by apply $a)
local macro_rules | `(tactic| exists 5,$a)=>`(tactic| apply Z.oR (by walk_at "s") fun _ _ _ _ _ _ _ hr nd=>by apply $a)
set_option hygiene true
def e_{z:Z}(E:En L z):ClsAt z.K "Changes" (cA z.K "Changes"):=E.c _ rfl
def aG{z:Z}(E:En L z):ClsAt z.K "Gate" (cA z.K "Gate"):=E.c _ rfl
def iA{z:Z}(E:En L z):ClsAt z.K "Tally" (cA z.K "Tally"):=E.c _ rfl
set_option hygiene false
local macro_rules|`($s:str $a*)=>do
 let r:="ƊÞ+þÿß$# ƉšőōŊ$ř ƈŌ;(? Ƈ-6Y0%7Ūş' Ɔ?.=I# ƅ%0% Ƅť9ņ ƃ3â+Ţ$#jň( Ƃ3Ü+ĀāÝ$# Ɓ7#&' ƀŠ<$'$E#*'(( ſń$ žŊ$Y0% ŽcxÚŜ¡ÒTUŜ żÅ&TU, ŻŇ#& źŋœ&( Ź-6[? Ÿ§%Z ŷ¾0%'E Ŷ#2´'' ŵ-6Yś ŴŅō ų.=ÃíŮ;Ů-6;? Ų$'$7K$'ňŉ2ň( ű'ň$@$'ň(1?ŎE' Ű7#&EX'#*' ůBqR9 Ů8aŔ& ŭōM, Ŭ9>Û&,)/%' ū>£h&, ŪVOŇ ũœ2$#< Ũ0%Œ ŧ0%k%ō» Ŧ¶TU#*#& ť9ņK( Ť-6@$ ţ1.: Ţùúã$#ª$3à+ûüá š;-³¤ ŠŅ# şō#*( Ş3m+ÁÂn$ ŝ3e+¿Àf$ Ŝ#*ń ś0%ń Ś)º®+¯ řŊ(?.=I ŘŊ(R9PI ŗ;Bps«& Ŗ,)©m+n ŕ$'$vw%( Ŕ)/%# œ#*$# Œ0%# ő,)oe+f ŐŅE#&XX'#2#2ň ŏA&S% Ŏ.=I#<'-:]K$@$ ō#&$ Ō-°%±%²%k%$ ŋ)WF+G Ŋ7#*' ŉ3F+_`G$# ň$'$'( Ň)J4+5 ņ>N&,)/% Ņ34+CD5$ ń8,)/%#&".splitOn " "|>.foldl (init:=s.getString) fun s e=>match e.toList with|c::w=>s.replace (toString c) (String.ofList w)|_=>s
 let T:="#ah1 $ai2 %rfl0 &00 'ao0 (ay0 )E0 *10 +hr.m0 ,aG1 -aL1 .aN2 /E.n1 0E.b1 1nd0 220 3aX6 4p.G0 5p.b0 6aZ1 7aV2 8bx3 9bG2 :bO3 ;bU0 <30 =bV3 >b_1 ?cj0 @cE1 AcK2 BcN1 Cp.m0 Dp.kp0 Edw2 Fq.G0 Gq.b0 H40 IdF2 Jp.t0 KdR1 L50 MeT6 NfL4 Oe_1 PeW3 QfJ1 RfY0 SaaY1 TfW1 Uhr0 VfC7 Wq.t0 XgZ2 Yia2 Zig2 [iK0 ]60 ^jg2 _q.m0 `q.kp0 aiA1 bju1 cFW.ft1 dgm1 eu.G0 fu.b0 gjq0 hj46 ij62 j80 kE.e1 ll54 mv.G0 nv.b0 ou.t0 plU1 qm80 rhr.units0 sFY.fz1 tnI0 uou2 voX1 wE.i1 xpI2 y70 zqP2 {qu4 |rq2 }qL2 ~qA1 ¡qC1 ¢rB1 £rA1 ¤qV7 ¥tX1 ¦rZ1 §ud2 ¨t_0 ©v.t0 ª90 «sM7 ¬vU1 ­uT2 ®y.G0 ¯y.b0 °vg5 ±E.x1 ²E.g1 ³uK1 ´zD2 µzg2 ¶xZ3 ·Ac3 ¸zx2 ¹xW2 ºy.t0 »zB4 ¼BV3 ½DP4 ¾AY3 ¿u.m0 Àu.kp0 Áv.m0 Âv.kp0 ÃB62 ÄCT4 ÅC16 ÆBl3 Ç100 È110 É120 ÊHt0 ËFL0 ÌIU2 ÍEh0 ÎKz0 ÏvJ1 ÐIY3 ÑFe2 ÒJO3 ÓKr1 ÔE.t1 ÕEU2 Ö40000 ×Fv2 ØF22 ÙK33 ÚIu2 ÛEX4 Üm.G0 Ým.b0 Þj.G0 ßj.b0 àh.G0 áh.b0 âg.G0 ãg.b0 ä130 åMt0 æQs2 çMA4 èRr2 éOd3 êQG2 ëPF0 ìLQ1 íT92 îNO3 ïQh2 ðM83 ñS12 òTv3 óE.ni1 ôDq3 õMP0 öpv1 ÷l.G0 øl.b0 ùg.m0 úg.kp0 ûh.m0 üh.kp0 ýNC7 þj.m0 ÿj.kp0 Ām.m0 ām.kp0 ĂZ_1 ăaau3 ĄY80 ąabt4 ĆXU4 ćaeB3 Ĉab82 ĉYG2 ĊacC3 ċaeH3 ČXQ4 čafF2 ĎadD4 ďagY4 ĐXT2 đaaf3 ĒUX2 ēWi3 ĔVi2 ĕagJ3 Ėah43 ėaaQ3 Ęaew2 ęaeS2 ĚaeO3 ěacI2 ĜagO1 ĝahO9 Ğaf62 ğahB2 Ġadx< ġZ72 ĢZQ3 ģacP5 Ĥaii4 ĥaf26 ĦE.ct1 ħVF1 Ĩpgn2 ĩRb1 ĪRx4 īHK0 ĬLc4 ĭPh0 ĮMX4 įqR2 İFj0 ıSj0 Ĳjk1 ĳa1.t0 Ĵa1.G0 ĵa1.b0 Ķa0.t0 ķa0.G0 ĸa0.b0 Ĺm.t0 ĺl.t0 Ļj.t0 ļh.t0 Ľg.t0 ľabA2 Ŀy.m0 ŀy.kp0 Łl.m0 łl.kp0 Ńabz3".splitOn " "|>.map (·.toList);let mut k:=a.toList.reverse;let mut t:List Lean.Term:=[]
 for c in r.toList.reverse do
  if c=='!' then t:=k.head!::t;k:=k.tail! else if let some (_::e):=T.find? (·.head?==some c) then
   let n:=String.ofList e.dropLast;let m:=e.getLast!.toNat-48;let h:Lean.Term:=if e.head!.isDigit then ⟨Lean.Syntax.mkNumLit n⟩ else ⟨Lean.mkIdent n.toName⟩
   t:=(if m==0 then h else ⟨Lean.Syntax.mkApp h (t.take m).toArray⟩)::t.drop m
 pure t.head!
set_option hygiene true
def JQ:=λ(z:Z) (E:En L z)=>(by exists 1,".=z#*^Œ&-67#&#*?-6'" 0:z.D 1 Str.empty (top 51) (a_ · (bH 2 2 _)))
abbrev CU:=fF JQ
def Jq:=wF JQ
def KS:=λ(z:Z) (E:En L z)=>(by exists 1,"-6iiXi#&''#*#2" 0:z.D 1 Str.empty (top 52) (a_ · (bH 3 3 _)))
abbrev wL:=fF KS
def uB:=wF KS
def D7:=λ(z:Z) (E:En L z/\Jq z/\uB z)=>(by let#[E,p,q]:=E;exists 1,".:*Ŵ'(ţ2Ŵ'(ţ<E'ŉ*$'$7K$'$'ňŉ*ň(ţHE'ŉ*ŲţLE'ŉ2Ų1Ť#<$#H$#L$E#Lŉ2ň(" 0:z.D 2 Str.empty (top 55) (a_ · (bH 1 6 _)))
abbrev aaN:=fF D7
def Zp:=wF D7
def IW:=λ(z:Z) (E:En L z)=>(by exists 1,"-6u{ÊŨ&uĂ{ËŨ&¥ă#*#&#2" 0:z.D 1 Str.empty (top 12) (a_ · (bH 3 3 _)))
abbrev nG:=fF IW
def zk:=wF IW
def Jw:=λ(z:Z) (E:En L z/\zk z)=>(by let#[E,p]:=E;exists 1,"-6uŠ*ŕ¥Ŵ'$#*(" 0:z.D 2 Str.empty (top 42) (a_ · (bH 2 2 _)))
abbrev aaz:=fF Jw
def Pj:=wF Jw
def SD:=λ(z:Z) (E:En L z)=>(by exists 2,"B>N&O)/%K(" 0:z.D 1 "Changes" (inClass (top 26) 0) (dW · (runM 1 1 _)))
def agj:=wI SD
def Lp:=λ(z:Z) (E:En L z/\Pj z/\zk z/\agj z)=>(by let#[E,p,q,u]:=E;exists 2,"9Pbc|Qŉ*ŕ|Qŉ2ŕ¦QŠ<$#H(ůņ@$ũ$#H(9ņ!ťƄå9ņĄƄ[ťƄ'Bņ'" (ZT (e_ E).ns u.M u.G hr.m (E.m rfl) u.b):z.D 3 "Gate" (inClass (top 47) 0) (dW · (runM 5 5 _)))
abbrev Er:=fO Lp
def abK:=wI Lp
def Ef:=λ(z:Z) (E:En L z/\uB z/\Jq z)=>(by let#[E,p,q]:=E;exists 1,".:*ąƅæ}^Œ&''Ņŉ&$'(ň1-6çƅ'#*" 0:z.D 2 Str.empty (top 53) (a_ · (bH 1 2 _)))
abbrev aaq:=fF Ef
def Vy:=wF Ef
def Jh:=λ(z:Z) (E:En L z/\Jq z)=>(by let#[E,p]:=E;exists 1,".=zEX'#*'^Œ&ŤŰ$Ű$Ű(?.:2EŴi#*'(XX'#*#*1Ť#2$E#2X'#*$E#2XX'#*#*(" 0:z.D 2 Str.empty (top 54) (a_ · (bH 2 3 _)))
abbrev WN:=fF Jh
def ahl:=wF Jh
def G7:=λ(z:Z) (E:En L z)=>(by exists 1,"ŵ" 0:z.D 1 "Gate" (inClass (top 47) 10) (a_ · (bH 1 1 _)))
abbrev adF:=fF G7
def NB:=wG G7
def Ic:=λ(z:Z) (E:En L z/\uB z)=>(by let#[E,p]:=E;exists 1,".:<Š*ňţHŠ*ňţLèK$@ň$@$E#&'($@$'($@ň$@($@($@($@($@($@($@((#<ţ]K(1Ŏűi#2űiŶň(1?Ŏ'$E'i#2'$E'i#2'((1?Ŏi#2'$'$EE´'''iŶ((1Ɔ<'-!Ɔ<'-:HE'iŶ1?Ť;$#H$#L$µŒ](" (DN 6 (hN:=nd) (M:=["_law_k"]) (js:=[none]) (gX rfl (by kernel_rfl)) rfl ("Ì0%'" 0) (by decide) λs3 H3 fp=>#["ŏ" 0,kP,"@$#&ň" 0]):z.D 2 Str.empty (top 57) (a_ · (bH 3 7 _)))
abbrev aac:=fF Ic
def V6:=wF Ic
def Km:=λ(z:Z) (E:En L z/\uB z)=>(by let#[E,p]:=E;exists 1,".:*å1.l%Ì0%Š&ňA21-=IŠ&ň'.:<ŐţHiEE#<'Ő'1-½*TUŐ@$#<$#H(-½*TUŐ@$'$E'iE#&Ŷ(-6!" (je (M:=["_law_slot","_law_edits_here"]) (js:=[none,some 1]) (gX rfl (by kernel_rfl)) rfl ("d¼%Œ*" 0) (by decide) λs3 H3 fp=>#["ŏ" 0,kP,"@$ō7Ŧ'$7Ŧ'(" 0]):z.D 2 Str.empty (top 56) (a_ · (bH 1 5 _)))
abbrev Zh:=fF Km
def acD:=wF Km
def Fo:=λ(z:Z) (E:En L z/\uB z/\NB z/\V6 z/\acD z)=>(by let#[E,p,q,u,v]:=E;exists 1,".:LŠ2ňţ]M,ŋ#&1.=cxI#*'¡z#L'.:yéÍÎ!1.=c|I#L'¦IŠHň'-6ŝœ<$#H(?Ť;$Š<ň$µŒy$µ0%Ş#H((?.=z#L'.:jĆƅ0%$'$E'ƀ1.=c|z#L'¦·r#]K(-:j7#]Š<$'$^Œ](1?Ť;$#j$7K$;$;$;$;$;$;$;(ŠHň(ƆL'Ť;$ƀ?-6èK$@$;($@$;((}#L'" (je (M:=["_law_one","_law_b"]) (js:=[none,some 3]) (gX rfl (by kernel_rfl)) rfl ("ŷ#*'" 0) (by decide) λs3 H3 fp=>#["ŏ" 0,"~IŅE#*X#&#&ň'" 0,ah 0]):z.D 3 Str.empty (top 58) (a_ · (bH 5 9 _)))
abbrev ahV:=fF Fo
def aix:=wF Fo
def J7:=λ(z:Z) (E:En L z)=>(by exists 1,".=c|IƁ;¦I#*'Ť;$Ɓ$ÏY0%Ɓ$Ï!(?-¬&" (je (M:=["_law_edit"]) (js:=[none]) (gX rfl (by kernel_rfl)) rfl ("dƁ" 0) (by decide) λs3 H3 fp=>#["ŏ" 0,kP,ah 0]):z.D 1 Str.empty (top 59) (a_ · (bH 2 2 _)))
abbrev GS:=fF J7
def VR:=wF J7
def FQ:=λ(z:Z) (E:En L z)=>(by exists 1,"-6Ðƅ!" (je (M:=["low","high"]) (js:=[none,none]) (gX rfl (by kernel_rfl)) rfl ("ćŒ&éÎÍ#&" 0) (by decide) λs3 H3 fp=>#["ŸŏZA*S%¨" 0,kP,"Ĉ#&#*" 0]):z.D 1 Str.empty (top 13) (a_ · (bH 1 1 _)))
abbrev acr:=fF FQ
def LV:=wF FQ
def Kq:=λ(z:Z) (E:En L z)=>(by exists 1,"-6^0%8OŔ&" 0:z.D 1 "Changes" (inClass (top 26) 2) (a_ · (bH 1 1 _)))
abbrev IM:=fF Kq
def Eg:=wG Kq
def Gs:=λ(z:Z) (E:En L z/\zk z/\Eg z)=>(by let#[E,p,q]:=E;exists 1,"-6Š*$'$MOŋ#&(" 0:z.D 2 "Changes" (inClass (top 26) 9) (a_ · (bH 2 2 _)))
abbrev Dn:=fF Gs
def BC:=wG Gs
def Hu:=λ(z:Z) (E:En L z/\zk z/\LV z)=>(by let#[E,p,q]:=E;exists 1,".l%d#&ŸA*1ZA21ZA<1¨.=bc|QŠ*ŕ¦QŠ2ŕŹ-=cxbQŠ<ŕ¡I#2#<Ź-63F+_`G$!(" (je (M:=["edit"]) (js:=[none]) (gX rfl (by kernel_rfl)) rfl (gm (ah 0)) (by decide) λs3 H3 fp=>#["ŏ" 0,kP,"Ɓ" 0]):z.D 2 Str.empty (top 19) (a_ · (bH 1 4 _)))
abbrev VO:=fF Hu
def X_:=wF Hu
def Lq:=λ(z:Z) (E:En L z/\zk z/\LV z/\BC z/\X_ z)=>(by let#[E,p,q,u,v]:=E;exists 1,".=bQŠ*ŕŹ.=cxbQÐƅ!¡bQŉ2(Ź-6uĉ^Œ<vw%¥Ş#<(" (je (M:=["lean","self"]) (js:=[none,some 0]) (gX rfl (by kernel_rfl)) rfl (gm (ah 2)) (by decide) λs3 H3 fp=>#["ŏ" 0,kP,"VO)oe+fœ&(" 0]):z.D 3 "Changes" (inClass (top 26) 11) (a_ · (bH 4 4 _)))
abbrev QX:=fF Lq
def S4:=wG Lq
def Hr:=λ(z:Z) (E:En L z/\S4 z/\Eg z)=>(by let#[E,p,q]:=E;exists 2,"9PbQŪōũ(ůPÃMOŋ#&vw%ů>Ä&O)/%@$#*$ÑŒ2$Ñ0%!(B¢MOŋ#&" (je (M:=["edit"]) (js:=[none]) (gX rfl (by kernel_rfl)) rfl (gm (ah 3)) (by decide) λs3 H3 fp=>#["ŏ" 0,kP,"ÑŒ&" 0]):z.D 4 "Changes" (inClass (top 26) 1) (dW · (runM 4 4 _)))
abbrev qf:=fO Hr
def Ye:=wO Hr
def Kc:=λ(z:Z) (E:En L z)=>(by exists 1,"-6uêŜuêŜ¥ĊTUŜ" 0:z.D 1 "Gate" (inClass (top 47) 19) (a_ · (bH 2 2 _)))
abbrev XH:=fF Kc
def aiF:=wG Kc
def J9:=λ(z:Z) (E:En L z/\Eg z/\aiF z)=>(by let#[E,p,q]:=E;exists 1,"-6!" (je (M:=["number","self"]) (js:=[none,some 0]) (gX rfl (by kernel_rfl)) rfl ("ŷMOŇń'" 0) (by decide) λs3 H3 fp=>#["ŏ" 0,"~QV,ź" 0,ah 0]):z.D 2 "Gate" (inClass (top 47) 8) (a_ · (bH 1 1 _)))
abbrev CL:=fF J9
def Du:=wG J9
def F3:=λ(z:Z) (E:En L z/\BC z)=>(by let#[E,p]:=E;exists 1,".=bQŪş-ë?-678OŔ&}#*'" 0:z.D 3 "Changes" (inClass (top 26) 10) (a_ · (bH 2 2 _)))
abbrev ZJ:=fF F3
def Jc:=wG F3
def K4:=λ(z:Z) (E:En L z/\Jc z)=>(by let#[E,p]:=E;exists 1,"Ƈ" 0:z.D 4 "Changes" (inClass (top 26) 4) (a_ · (bH 2 2 _)))
abbrev GY:=fF K4
def SR:=wG K4
def Ft:=λ(z:Z) (E:En L z/\Du z/\SR z)=>(by let#[E,p,q]:=E;exists 2,"B>l%dM,ŻA*1.!-=ì#2-żŔ*@$;$7#2'(?" (DN 2 (hN:=nd) (M:=["lean","self"]) (js:=[none,some 0]) (gX rfl (by kernel_rfl)) rfl ("dVOŋſ#*(" 0) (by decide) λs3 H3 fp=>#["ŏ" 0,"~ÒTU#&8,Ŕ*" 0,ah 0]):z.D 5 "Gate" (inClass (top 47) 24) (dW · (runM 1 3 _)))
abbrev Ku:=fO Ft
def ad2:=wO Ft
def G9:=λ(z:Z) (E:En L z)=>(by exists 1,"ųų.=Ã^0%ŮŮ-6;?-6;" 0:z.D 1 "Tally" (inClass (top 41) 3) (a_ · (bH 1 1 _)))
abbrev K0:=fF G9
def EZ:=wG G9
def Jv:=λ(z:Z) (E:En L z/\EZ z)=>(by let#[E,p]:=E;exists 1,"-6îċTUŜMaŇČTUń#*!;" (by apply λ_ _=>rfl):z.D 2 "Gate" (inClass (top 47) 21) (a_ · (bH 2 2 _)))
abbrev De:=fF Jv
def FU:=wG Jv
def KU:=λ(z:Z) (E:En L z)=>(by exists 1,"-6µ0%¸ńïń#*" 0:z.D 1 "Gate" (inClass (top 47) 20) (a_ · (bH 2 2 _)))
abbrev xA:=fF KU
def Le:=wG KU
def Jp:=λ(z:Z) (E:En L z/\FU z/\Le z)=>(by let#[E,p,q]:=E;exists 1,".l%ŷ^ś'A*1-=čV,ŇōV,ŋş(ÓÔ%-¬*?-6g" 0:z.D 3 "Gate" (inClass (top 47) 11) (a_ · (bH 1 2 _)))
abbrev By:=fF Jp
def A9:=wG Jp
def ED:=λ(z:Z) (E:En L z)=>(by exists 1,"-6ďƅ!g" (je (M:=["slot","old","new","values"]) (js:=[none,none,none,some 0]) (gX rfl (by kernel_rfl)) rfl (gm (ah 1)) (by decide) λs3 H3 fp=>#["ŸŏZA*S%ZA2S%¨" 0,"~¹ĎTU#<#&'#*" 0,ah 0]):z.D 1 Str.empty (top 20) (a_ · (bH 2 2 _)))
abbrev Hy:=fF ED
def Jk:=wF ED
def JJ:=λ(z:Z) (E:En L z)=>(by exists 1,"-6!" (je (M:=["slot","values"]) (js:=[none,some 0]) (gX rfl (by kernel_rfl)) rfl ("d¼%Œ&" 0) (by decide) λs3 H3 fp=>#["ŏ" 0,"~¹Ŧ'" 0,"@$ōŦ(" 0]):z.D 1 Str.empty (top 21) (a_ · (bH 1 1 _)))
abbrev abH:=fF JJ
def ZW:=wF JJ
def PK:=λ(z:Z) (E:En L z/\Jk z/\ZW z)=>(by let#[E,p,q]:=E;exists 1,".:2Æ%Œ&1.l%d#*A<ţHŠ2$#<(1.=Đ#Hg-ë?-l%d#<ŸAL1ZA]1ZAy1¨-½2TU#L#y-6ŉ2(" 0:z.D 2 Str.empty (top 18) (a_ · (bH 2 8 _)))
def agt:=wF PK
def GU:=λ(z:Z) (E:En L z/\Jc z)=>(by let#[E,p]:=E;exists 1,"Ƈ" 0:z.D 4 "Changes" (inClass (top 26) 5) (a_ · (bH 2 2 _)))
abbrev DC:=fF GU
def AM:=wG GU
def JM:=λ(z:Z) (E:En L z/\agt z/\AM z)=>(by let#[E,p,q]:=E;exists 1,"-6ŅK($!(" (je (M:=["number","changes"]) (js:=[none,some 0]) (gX rfl (by kernel_rfl)) rfl (gm (ah 1)) (by decide) λs3 H3 fp=>#["ŏ" 0,kP,"VOź" 0]):z.D 5 Str.empty (top 27) (a_ · (bH 2 2 _)))
abbrev aa7:=fF JM
def OA:=wF JM
def H_:=λ(z:Z) (E:En L z/\OA z)=>(by let#[E,p]:=E;exists 1,"-6ÆƅŴ¸YŒ*YŒ2(" 0:z.D 6 Str.empty (top 33) (a_ · (bH 3 3 _)))
abbrev agS:=fF H_
def Zw:=wF H_
def KO:=λ(z:Z) (E:En L z/\Jc z)=>(by let#[E,p]:=E;exists 1,"-67Ūş'" 0:z.D 4 "Changes" (inClass (top 26) 3) (a_ · (bH 2 2 _)))
abbrev Ao:=fF KO
def VL:=wG KO
def afp:SF:=(kR (Lx 0 (aj 1) (h_ (au (e1 Ar (cR "Changes" "rank_of" Ao (aj 1) (au (aj 0) aD))) (au (aj 0) aD)))))
def E6:=λ(z:Z) (E:En L z/\VL z)=>(by let#[E,p]:=E;intro f fd F;let#[oc,od,kV,doc,pm,an,cd0,ct,qm,rfl,lk,_]:=id F.ex;apply SG (N:=["changes","numbers"]) F #[rfl,rfl,rfl,by decide +kernel,rfl,by decide +kernel,by decide +kernel] λaU A outer s H E' hr=>by apply(aL (aZ (Yi (x:="number") (y:="changes") 0 (E.b rfl) (ah 1) #[rfl,rfl,rfl,by decide +kernel,rfl,rfl,by decide +kernel,λ_ _ _ _ _ _ _=>rfl] lk (congrArg (λc=>some (c,_,_)) aU.2.symm) (bz.depth (k:=0) (bz.in1 (bz.in1 hr.m))) (λf c' s H=>(cE (ai (afv (fC (e_ E) p.t p.G (bz.deeper (bz.in1 (bz.in1 hr.m)) _) p.b (ah 1) (ai (ah 0) ay))) (ai (ah 0) ay))))))):z.D 8 Str.empty (top 32) (a_ · (bH 2 2 afp)))
abbrev MJ:=fF E6
def Z2:=wF E6
def GO:=λ(z:Z) (E:En L z/\Jk z/\AM z)=>(by let#[E,p,q]:=E;exists 1,"-6ÕŠ*$VOŋō#2((g" 0:z.D 5 Str.empty (top 34) (a_ · (bH 3 3 _)))
abbrev JY:=fF GO
def UN:=wF GO
def Gf:=λ(z:Z) (E:En L z/\Z2 z/\UN z)=>(by let#[E,p,q]:=E;exists 1,".l%dŴ#2(A<1-=Qŉ&$œ<(-¬<?-6g" 0:z.D 9 Str.empty (top 31) (a_ · (bH 3 4 _)))
abbrev Cp:=fF Gf
def ab5:=wF Gf
def Fb:=λ(z:Z) (E:En L z/\SR z)=>(by let#[E,p]:=E;exists 1,".:HÆƅ!1-6!" (je (M:=["number"]) (js:=[none]) (gX rfl (by kernel_rfl)) rfl ("d¸YŒ*YŒ2" 0) (by decide) λs3 H3 fp=>#["ŏ" 0,kP,"@$ō[(" 0]) (je (M:=["number","changes","here"]) (js:=[none,some 0,some 4]) (gX rfl (by kernel_rfl)) rfl (gm (ah 3)) (by decide) λs3 H3 fp=>#["ŏ" 0,"~QÐƅ!" (je (M:=["lean","here"]) (js:=[none,some 2]) (ad7 (by decide +kernel)) rfl ("dŪœ&(" 0) (by decide) λs3 H3 fp=>#["ŏ" 0,kP,"đTU#&#*" 0]),ah 0]):z.D 5 Str.empty (top 29) (a_ · (bH 4 5 _)))
abbrev C_:=fF Fb
def Na:=wF Fb
def E7:=λ(z:Z) (E:En L z/\Zw z/\ab5 z/\Na z/\AM z)=>(by let#[E,p,q,u,v]:=E;exists 1,".:LYŒ2ţ]YŒ<ţyŴœ2(1.ðÖz^ŒL#H.:jŉ&$#y$ŝōœL$#]((1.=­#jg-¬L?.×L#j.Ē]#j-l%dVO)©m+nō#j(ŸAª1ZAÇ1ZAÈ1¨-½yTU#ª#È-¬L" 0:z.D 10 Str.empty (top 30) (a_ · (bH 5 12 _)))
abbrev Io:=fF E7
def adf:=wF E7
def KL:=λ(z:Z) (E:En L z/\A9 z/\Le z/\FU z)=>(by let#[E,p,q,u]:=E;exists 2,"9P·rM,Ż'B¢[R9>:*V,ŋō'(19>ż)/%7ń'@$;$µś$#*$Vőş(ťB¢[" 0:z.D 4 "Gate" (inClass (top 47) 26) (dW · (runM 1 2 _)))
abbrev Qq:=fO KL
def WA:=wO KL
def FD:=λ(z:Z) (E:En L z/\OA z)=>(by let#[E,p]:=E;exists 1,"-6Ņſń(" 0:z.D 6 "Gate" (inClass (top 47) 13) (a_ · (bH 1 1 _)))
abbrev T7:=fF FD
def Rv:=wG FD
def EH:=λ(z:Z) (E:En L z/\Jk z)=>(by let#[E,p]:=E;exists 1,"-6ŅÆƅş" 0:z.D 2 Str.empty (top 17) (a_ · (bH 2 2 _)))
abbrev OJ:=fF EH
def afl:=wF EH
def Fx:=λ(z:Z) (E:En L z/\Na z/\Du z/\Rv z/\afl z/\AM z)=>(by let#[E,p,q,u,v,y]:=E;exists 2,"9PìńB¢[R9>:*ŅſſK($M,ŋ#&(19>:2Mő#&19>l%d#*A<1-żŔ<@$;$Ş#2$VOŚſ#<(((B¢ēr#*K(" 0:z.D 7 "Gate" (inClass (top 47) 27) (dW · (runM 1 4 _)))
abbrev FH:=fO Fx
def Wo:=wO Fx
def K_:=λ(z:Z) (E:En L z/\A9 z/\adf z/\Du z/\WA z/\Wo z)=>(by let#[E,p,q,u,v,y]:=E;exists 2,"9P­M,ŻgBņ3F+_`G$ſſſMőō7ń'(RBpĔh&Ŗh&,Ś" 0:z.D 11 "Gate" (inClass (top 47) 25) (dW · (runM 1 1 _)))
abbrev l8:=fO K_
def XE:=wO K_
def JD:=λ(z:Z) (E:En L z/\FU z)=>(by let#[E,p]:=E;exists 1,"-6uĕrŜ¥ØV,Ňş;" 0:z.D 3 "Gate" (inClass (top 47) 29) (a_ · (bH 2 2 _)))
abbrev aax:=fF JD
def UL:=wG JD
def GB:SF:=(bY (eS 1 (e2 cC (aj 0) (eC (.int 0)))) (bY (eS 2 (aj 1)) (bY (jc (v7 (aj 0) (e1 (sL (some 1) none) (aj 0))) (gT (fV (gN 3) (fV (gN 4) pU))) (dZ (tV (e2 Dz (e2 jv (aj 4) (aj 3)) (e2 jv (aj 2) (aj 1)))) (bY (eS 1 (aj 3)) (eS 2 (aj 4))) fB)) (kR (e2 oDiv (e2 iN (aj 1) (aj 2)) (eC (.int 2)))))))
def Hg:=λ(z:Z) (E:En L z)=>(by exists 1,".:*Ɓţ2#*1.l%ĖŒ&ėÎÍ#&ŸA<1ZAH1¨-=Ę}#H#<}#2#*.:*#<1-:2#H1?-6æE#*#2'" 0:z.D 1 Str.empty (top 37) (a_ · (bH 1 5 GB)))
abbrev yF:=fF Hg
def aho:=wF Hg
def IA:SF:=(bY (eS 4 (oS (tV (e2 jf (aj 1) (eC .aI))) (e2 iN (aj 0) (eC (.int 1))) (aj 1))) (bY (eS 5 (iW [none,some 4] (iu (aj 2)) (gN 0) (tV (e2 oLt (aj 0) (aj 1))) (aj 0))) (bY (iD (tV (e2 oLt (e1 f9 (aj 5)) (e2 CZ (aj 3) (e2 jv (aj 4) (eC (.int 1)))))) (bY (dZ (kg (tV (e2 jf (aj 1) (eC .aI))) (tV (e2 (jl true) (aj 0) (aj 5)))) (lH 5 (aj 0)) (lH 5 (cQ yF (au (e2 gW (e2 gW (gz (au (eC (.int 0)) aD)) (aj 5)) (gz (au (aj 4) aD))) aD)))) (eS 5 (e1 mV (aj 5)))) 4000) (tR 5))))
def Ii:=λ(z:Z) (E:En L z/\aho z)=>(by let#[E,p]:=E;exists 1,".:Hî­#*gE#&'#*1.!.ðÖz^ŒLç%Œ<}#H'.=c|­#*g¦ę#&#L-×L#&-×LŅ¸¸K$'(#LK$#H((-:L¼%ŒL1-¬L" (DN 5 (hN:=nd) (M:=["place","end"]) (js:=[none,some 4]) (gX rfl (by kernel_rfl)) rfl (gm (ah 2)) (by decide) λs3 H3 fp=>#["ŏ" 0,"~z#&#*" 0,ah 0]):z.D 2 Str.empty (top 36) (a_ · (bH 4 6 IA)))
abbrev Gv:=fF Ii
def YY:=wF Ii
def Lk:=λ(z:Z) (E:En L z/\UL z/\Le z/\YY z/\A9 z)=>(by let#[E,p,q,u,v]:=E;exists 1,".:*^ś1.!-6!" (DN 2 (hN:=nd) (M:=["place","self"]) (js:=[none,some 0]) (gX rfl (by kernel_rfl)) rfl ("ŷ#*'" 0) (by decide) λs3 H3 fp=>#["ŏ" 0,"~QV,Ň#*$V,ź(" 0,ah 0]) (je (M:=["place","self"]) (js:=[none,some 0]) (gX rfl (by kernel_rfl)) rfl ("dŝ#*$MŖō#2$7ń'(" 0) (by decide) λs3 H3 fp=>#["ŏ" 0,kP,"V,ź" 0]):z.D 4 "Gate" (inClass (top 47) 28) (a_ · (bH 1 3 _)))
abbrev abI:=fF Lk
def Y4:=wG Lk
def EC:=λ(z:Z) (E:En L z/\ad2 z/\XE z/\Y4 z)=>(by let#[E,p,q,u]:=E;exists 2,"9ūŇ9>ĚÖěbQńĜh&,ŋ-£h&,ŇBņMő#&" 0:z.D 12 "Gate" (inClass (top 47) 23) (dW · (runM 1 1 _)))
abbrev qE:=fO EC
def xD:=wO EC
def JT:=λ(z:Z) (E:En L z/\Ye z/\xD z)=>(by let#[E,p,q]:=E;exists 2,"9>ÙHsĝ&,)/%OŇ$ũ(19ūŋB¢#H" 0:z.D 13 "Gate" (inClass (top 47) 1) (dW · (runM 4 5 _)))
abbrev vH:=fO JT
def BF:=wO JT
def Lm:=λ(z:Z) (E:En L z/\BC z/\xD z)=>(by let#[E,p,q]:=E;exists 2,"9PbQŪſ#*(ůPŽůPÚŜBņïńĞń#*R9>żŔ*@$;(ŬBūŋ" 0:z.D 13 "Gate" (inClass (top 47) 2) (dW · (runM 2 2 _)))
abbrev r_:=fO Lm
def Bt:=wO Lm
def Ho:=λ(z:Z) (E:En L z/\EZ z)=>(by let#[E,p]:=E;exists 2,"9Pñ#*ÓÔ%ůP¹MaŻ;ů>Ä&aŔ*B¢MaŻ" 0:z.D 2 "Tally" (inClass (top 41) 1) (dW · (runM 2 2 _)))
abbrev EO:=fO Ho
def adh:=wO Ho
def HF:=λ(z:Z) (E:En L z/\Pj z)=>(by let#[E,p]:=E;exists 2,"9PbQŅœ2(ů>N&aŔ*9>N&aŔ2B>N&a)/%K(" 0:z.D 3 "Tally" (inClass (top 41) 0) (dW · (runM 3 3 _)))
abbrev rL:=fO HF
def RA:=wI HF
def F0:=λ(z:Z) (E:En L z)=>(by exists 2,"9ņğń}^Œ*^ś9ņYŒ*B>Ä&,Ŕ*" 0:z.D 1 "Gate" (inClass (top 47) 22) (dW · (runM 2 2 _)))
abbrev uw:=fO F0
def aiH:=wO F0
def ID:=λ(z:Z) (E:En L z/\adh z/\RA z/\aiH z/\xD z)=>(by let#[E,p,q,u,v]:=E;exists 2,"9PòrŜBqRĠTUó%,)/%aŇ!Ŭ9P¹#H;B>Ä&,)/%@$œH(R9PI#H;B>£s«&ő$#*(R9>£h&ŖB¢#H1" (BW (iA E).ns q.M q.G hr.m (E.m rfl) q.b (ai (aV (bx (aG E) (E.n rfl) (ah 0)) ao) (ai (aV (bx (aG E) (E.n rfl) (ah 0)) ao) ay))):z.D 13 "Gate" (inClass (top 47) 3) (dW · (runM 3 5 _)))
abbrev sR:=fO ID
def AU:=wO ID
def Lh:=λ(z:Z) (E:En L z/\xD z)=>(by let#[E,p]:=E;exists 2,"Ƅ[ŬBūŇ" 0:z.D 13 "Gate" (inClass (top 47) 4) (dW · (runM 1 1 _)))
abbrev yu:=fO Lh
def Ba:=wO Lh
def Iw:=λ(z:Z) (E:En L z/\xD z)=>(by let#[E,p]:=E;exists 2,"9ņ[BūŇ" 0:z.D 13 "Gate" (inClass (top 47) 5) (dW · (runM 1 1 _)))
abbrev zw:=fO Iw
def AR:=wO Iw
def E1:=λ(z:Z) (E:En L z/\BF z/\Bt z/\AU z/\Ba z/\AR z)=>(by let#[E,p,q,u,v,y]:=E;exists 3,"9>:2Ŋ19PI#2ŗ,Ň$Ŋ$Ŋ$Ř#2ŗ,ŋ$Ř#2ŗő$Ŋ$Ř#2;Bph&ŖR9PI#2;Bph&,ŚRBq" 0:z.D 14 Str.empty (top 49) (kY · (runM 2 3 _)))
abbrev GA:=fP E1
def Fc:=λ(z:Z) (E:En L z/\S4 z)=>(by let#[E,p]:=E;exists 5,".=bQŪōũ(ƈt" 0:z.DR 4 "Changes" (inClass (top 26) 1) (iX · (jb 4 4 _)))
abbrev OU:=fR Fc
def agv:=wR Fc
def Ld:=λ(z:Z) (E:En L z/\agv z)=>(by let#[E,p]:=E;exists 5,".ôH¤OŇſũ(1t" 0:z.DR 5 "Gate" (inClass (top 47) 1) (iX · (jb 4 5 _)))
abbrev Cj:=fR Ld
def C8:=wR Ld
def Ka:=λ(z:Z) (E:En L z/\BC z)=>(by let#[E,p]:=E;exists 5,".=bQŪſ#*(Ōġ!#*(?.=ŽŌĢ!!#*(?t" (by decide) (by decide +kernel) (by decide +kernel):z.DR 3 "Gate" (inClass (top 47) 2) (iX · (jb 2 2 _)))
abbrev xY:=fR Ka
def Bp:=wR Ka
def Hx:=λ(z:Z) (E:En L z/\EZ z)=>(by let#[E,p]:=E;exists 5,".=ñ#*ÓÔ%ƈ.=¹MaŻ;ƈt" 0:z.DR 2 "Tally" (inClass (top 41) 1) (iX · (jb 2 2 _)))
abbrev Tp:=fR Hx
def ag2:=wR Hx
def EY:=λ(z:Z) (E:En L z/\RA z/\ag2 z)=>(by let#[E,p,q]:=E;exists 5,".=òrŜƈ.:<ģTUó%ń#*!1.ôH¤aŋ#<$#2(1t" (BW (iA E).ns p.M p.G hr.m (E.m rfl) p.b (ai (aV (bx (aG E) (E.n rfl) (ah 0)) ao) (ai (aV (bx (aG E) (E.n rfl) (ah 0)) ao) ay))):z.DR 5 "Gate" (inClass (top 47) 3) (iX · (jb 3 5 _)))
abbrev xR:=fR EY
def Dj:=wR EY
def G8:=λ(z:Z) (E:En L z/\C8 z/\Bp z/\Dj z)=>(by let#[E,p,q,u]:=E;exists 5,".:2Ŋ1.=I#2š,ŇōŊ$Ŋ$ř#2š,ŋōř#2Ɖ#2;tƆ2;t?t" 0:z.DR 6 Str.empty (top 49) (iX · (jb 2 3 _)))
abbrev G5:=fR G8
def HP:=λ(z:Z) (E:(En L z/\BF z/\Bt z/\AU z/\Ba z/\AR z)/\(En L z/\C8 z/\Bp z/\Dj z))=>(Rh (E1 z E.1) (G8 z E.2):z.DR 14 Str.empty (top 49) (lJ · (jo GA G5)))
abbrev T5:=Mb HP
def VW:=Qu HP
def Fg:=λ(z:Z) (E:En L z/\BF z/\Bt z/\AU z/\Ba z/\AR z)=>(by let#[E,p,q,u,v,y]:=E;exists 3,"9PIŊŗ,Ň$žžŘŊŗ,ŋ$ŘŊŗő$Ŋ$ŘŊ;Bph&ŖRBph&,Ś" 0:z.D 14 Str.empty (top 60) (kY · (runM 2 2 _)))
abbrev Gi:=fP Fg
def Ej:=λ(z:Z) (E:En L z/\C8 z/\Bp z/\Dj z)=>(by let#[E,p,q,u]:=E;exists 5,".=IŊš,ŇōžžřŊš,ŋōřŊƉŊ;t?t" 0:z.DR 6 Str.empty (top 60) (iX · (jb 2 2 _)))
abbrev Gc:=fR Ej
def Jm:=λ(z:Z) (E:(En L z/\BF z/\Bt z/\AU z/\Ba z/\AR z)/\(En L z/\C8 z/\Bp z/\Dj z))=>(Rh (Fg z E.1) (Ej z E.2):z.DR 14 Str.empty (top 60) (lJ · (jo Gi Gc)))
abbrev TQ:=Mb Jm
def ahX:=Qu Jm
def LB:=λ(z:Z) (E:En L z)=>(by exists 1,".=bQĤ!Ũ&-6K(?-6K$»!ŧ!ŧ!ŧ!ŧ!0%k%#&(" (E.kt (c:="ValueError") rfl) (E.kt (c:="NoChange") rfl) (E.kt (c:="TooMany") rfl) (E.kt (c:="TooLate") rfl) (E.kt (c:="NoLook") rfl) (E.kt (c:="NoAnswer") rfl):z.D 1 Str.empty (top 61) (a_ · (bH 1 1 _)) false)
abbrev Az:=fF LB
def afK:=wF LB
def HR:=λ(z:Z) (E:En L z/\VW z/\ahX z/\afK z)=>(by let#[E,p,q,u]:=E;exists 3,"9>:<@$g$ÏK((19>ĥH!!Ħ%k%1Bħ<" (λaf R=>(aL (bV (fJ (ah 2)) (aL (Dq 3 (OM (MN 0 p.G hr.m p.m p.kp p.b (ai (ah 1) ay)) (vJ (dR ay))) nd)) (aL (Dq 3 (OM (MN 0 q.G hr.m q.m q.kp q.b (ai (ah 1) ay)) (vJ (dR ay))) nd))))) (λa=>(aL (bO 3 (cE (ai jq (ai (vJ (aX u.G (bz.mark hr.m _) u.m u.kp u.b (ai (ah 4) ay))) ay))) nd))):z.D 15 Str.empty (top 62) (kY · (runM 3 5 _)))
abbrev Am:=fP HR
def ahZ:=wP HR
def HG:=λ(z:Z) (E:En L z)=>(by exists 1,".=cx­#&g¡­#*g-6uÕ#&g¥Õ#*g?.=cxQ{ËŨ&¡Q{ËŨ*Ź-6uØ{õŨ&{õŨ*¥Ø{ÊŨ&{ÊŨ*" 0:z.D 1 Str.empty (top 64) (a_ · (bH 2 2 _)))
abbrev abT:=fF HG
def ahj:=wF HG
def Lv:=λ(z:Z) (E:En L z)=>(by exists 1,".:*^śţ2^0%!1Ť#*$}^ś#*$ſ#2$ń(" (Vo (M:=["number","self"]) 0 (gX rfl (by kernel_rfl)) rfl (aG E) (E.n rfl) λs3 H3 fp=>#["Ĩ&S%" 0,"ĩĪīĬĭĮTUįö*!ö&!İ!ıĲ!" (by rfl) (by apply λ_ _=>rfl) (by apply λ_ _=>rfl) _,pv 0]):z.D 1 "Gate" (inClass (top 47) 18) (a_ · (bH 1 3 _)))
abbrev Yh:=fF Lv
def aeQ:=wG Lv
def Hh:=λ(z:Z) (E:En L z)=>(by exists 1,"-6ń" 0:z.D 1 "Gate" (inClass (top 47) 16) (a_ · (bH 1 1 _)))
abbrev ain:=fF Hh
def ail:=wG Hh
def HX:=λ(z:Z) (E:En L z)=>(by exists 1,"ŵ" 0:z.D 1 "Gate" (inClass (top 47) 15) (a_ · (bH 1 1 _)))
abbrev afx:=fF HX
def aaV:=wG HX
def K8:=λ(z:Z) (E:En L z)=>(by exists 1,"ŵ" 0:z.D 1 "Gate" (inClass (top 47) 14) (a_ · (bH 1 1 _)))
abbrev Vp:=fF K8
def acg:=wG K8
def JB:=λ(z:Z) (E:En L z)=>(by exists 1,"-6ń" 0:z.D 1 "Gate" (inClass (top 47) 12) (a_ · (bH 1 1 _)))
abbrev acM:=fF JB
def aey:=wG JB
def KZ:=λ(z:Z) (E:En L z)=>(by exists 1,"-6!" (je (M:=["number","self"]) (js:=[none,some 0]) (gX rfl (by kernel_rfl)) rfl ("d¼%ś" 0) (by decide) λs3 H3 fp=>#["ŏ" 0,kP,"@$ō¶TU8,Ŕ*#&(" 0]):z.D 1 "Gate" (inClass (top 47) 9) (a_ · (bH 1 1 _)))
abbrev ado:=fF KZ
def afk:=wG KZ
def D9:=λ(z:Z) (E:En L z)=>(by exists 1,"ŵ" 0:z.D 1 "Gate" (inClass (top 47) 7) (a_ · (bH 1 1 _)))
abbrev ahQ:=fF D9
def Y6:=wG D9
def Gy:=λ(z:Z) (E:En L z)=>(by exists 1,"ŵ" 0:z.D 1 "Gate" (inClass (top 47) 6) (a_ · (bH 1 1 _)))
abbrev ab4:=fF Gy
def adj:=wG Gy
def F_:=λ(z:Z) (E:En L z/\aeQ z/\ail z/\aaV z/\acg z/\Rv z/\aey z/\A9 z/\NB z/\afk z/\Du z/\Y6 z/\adj z)=>(by let#[E,p,q,u,v,y,g,h,j,l,m,a0,a1]:=E;exists 1,"ŤM,)ĳĴ+ĵŭ)Ķķ+ĸŭ)ĹÜ+Ýŭ)ĺ÷+øŭ)ĻÞ+ßŭ)ļà+áŭ)Ľâ+ãŭŚōMŖōMőŭŋŭŻ(" 0:z.D 7 Str.empty (top 63) (a_ · (bH 1 1 _)))
abbrev abR:=fF F_
def VT:=wF F_
def o_law:=λ(z:Z) (E:En L z/\Zp z/\abK z/\Vy z/\ahl z/\aix z/\VR z/\uB z/\ahZ z/\ahj z/\VT z)=>(by let#[E,p,q,u,v,y,g,h,j,l,m]:=E;exists 1,".:*Š&(ţ2!ţ<!ţH'1.l%Ì0%ŝ#&(AL1.ľŞō#L(ŸA]1ZAy1ZAj1¨.:ª3®+Ŀŀ¯$#<$#H$#]$#y$#j(ţÇƃţÈƃ1.ÙÉsý<Ɗª$[(1.Ùäsý2ƊÇ$[(1.=cx·r#ä#ÉxbQ3÷+Łłø$7#ä'$7#É'(¡·r#Ç#ÈŹ.=·rƂ2(Ƃ<(Ź-=c|I7#ª';¦Ńr7#É'K(-:HE#H'1?-6[" (BW (aG E).ns q.M q.G hr.m (E.m rfl) q.b (ai (aV (ah 1) ao) (ai (aV (ah 1) ao) (ai (aV (ah 1) ao) (ai (aV (ah 1) ao) ay))))) (BW (aG E).ns q.M q.G hr.m (E.m rfl) q.b (ai (aV (ah 1) ao) (ai (aV (ah 1) ao) (ai (aV (ah 1) ao) (ai (aV (ah 1) ao) ay))))):z.D 16 Str.empty (top 65) (a_ · (bH 1 14 _)))
abbrev xU:=fF o_law
end K61
namespace K61
open PySem L2 L2.Ev
def cH(h:f Y=some (d,.own)):kR f Y=some (.rt d):=by rw[xN,h];rfl
def Bj:nG [.int v,.int a,.int b]=some (.bl (decide (a<=v)&&decide (v<=b))):=by
 refine bR rfl (cH ?_);show(match some (D.bl (decide (a<=v))) with|some (.bl true)=>some (D.bl (decide (v<=b)),Tag.own)|some (.bl false)=>some (.bl false,.own)|_=>none)=_;cases decide (a<=v)<;>rfl
def iL(l:List Int):D:=.lst (l.map D.int)
abbrev Ed:=Int×Int×Int
def dT(p:Ed):D:=.tup [.int p.1,.int p.2.1,.int p.2.2]
def eL(E:List Ed):D:=.lst (E.map dT)
theorem zT:∀E:List Ed,aK (E.map dT)=true
 |[]=>rfl
 |p::r=>by rw[aas];unfold aK;rw[zT r];rfl
theorem LU:∀bs:List Bool,ng (bs.map D.bl)=some bs
 |[]=>rfl
 |b::r=>by rw[aas];unfold ng;rw[LU r];rfl
def QZ{bs:List Bool}:zE (.lst (bs.map D.bl))=some (.bl (bs.all id)):=by
 show(ng (bs.map D.bl)).map (λbs=>D.bl (bs.all id))=_;rw[LU];rfl
theorem lS{α β:Type}(f:α->β):∀l:List α,l.filterMap (λx=>some (f x))=l.map f
 |[]=>rfl
 |a::l=>by rw[aeX,aas];show _::_=_;rw[lS f l]
abbrev g2:GF:=gT (fV (gN 0) (fV (gN 1) pU))
def size_le{n:Nat}(h:n<=10000):n<sizeLine:=by unfold sizeLine;lia
def S3{k:Nat}(hk:k<=ds.length):cutD ds (some (k:Int)) none=ds.drop k:=by
 unfold cutD;rw[HT.Ji,HT.JV,Nat.min_eq_left hk,List.take_of_length_le (by rw[ajj];apply aa9 _)]
def Sf{k:Nat}(hk:k<=ds.length):cutD ds none (some (k:Int))=ds.take k:=by
 unfold cutD;rw[HT.Ji,HT.JV,Nat.min_eq_left hk];rfl
def ahR{ds:List D}:cutD ds (some 1) none=ds.drop 1:=by
 cases ds with
 |nil=>rfl
 |cons a r=>apply S3 (by simp)
def uv:List Int->Bool
 |x::y::r=>decide (x<y)&&uv (y::r)
 |_=>true
theorem LH:∀l:List Int,((l.zip (l.drop 1)).map λp=>decide (p.1<p.2)).all id=uv l
 |[]=>rfl
 |[_]=>rfl
 |x::y::r=>by
  have ih:=LH (y::r);show(decide (x<y)&&(((y::r).zip ((y::r).drop 1)).map λp=>decide (p.1<p.2)).all id)=_;rw[ih];rfl
def Wf(w:List D->D):Prop:=w=.lst\/w=.tup\/w=.bX
def D0:Wf .lst:=.inl rfl
def Mh:Wf .tup:=.inr (.inl rfl)
def wf_:Wf .bX:=.inr (.inr rfl)
def Wf.seq(hw:Wf w)(h:e Y=some (w ds,t)):iu e Y=some (ds,t):=by rcases hw with rfl|rfl|rfl<;>(unfold iu;rw[h])
def Wf.tup(hw:Wf w)(h:aK ds=true):IL (w ds)=some (.tup ds):=by rcases hw with rfl|rfl|rfl<;>apply if_pos h
def Wf.len(hw:Wf w):f9 (w ds)=some (.int ds.length):=by rcases hw with rfl|rfl|rfl<;>rfl
def Wf.zip(hw:Wf w)(l:List Int):∃t,Ek (aj 0) (e1 (xQ (some 1) none) (aj 0)) [some (w (l.map D.int),.sh [])]=some (((l.zip (l.drop 1)).map λp=>D.tup [.int p.1,.int p.2]),t):=by
 have e:cutD (l.map D.int) (some 1) none=(l.drop 1).map D.int:=by rw[ahR,List.map_drop]
 have q:∀w v:List D->D,xQ (some 1) none (w (l.map D.int))=(if aK (l.map D.int)=true then some (v (cutD (l.map D.int) (some 1) none)) else none)->e1 (xQ (some 1) none) (aj 0) [some (w (l.map D.int),.sh [])]=some (v ((l.drop 1).map D.int),.own):=λw v h=>cB rfl (by rw[h,if_pos (c_ l),e])
 have z:∀{α:Type} (x:α),(if(aK (l.map D.int)&&aK ((l.drop 1).map D.int))=true then some x else none)=some x:=λx=>if_pos (by rw[c_,c_];rfl)
 have m:((l.map D.int).zip ((l.drop 1).map D.int)).map (λp=>D.tup [p.1,p.2])=(l.zip (l.drop 1)).map λp=>D.tup [.int p.1,.int p.2]:=by rw[List.zip_map,adw];rfl
 unfold Ek DZ DA;rw[<- m];rcases hw with rfl|rfl|rfl
 .rw[q .lst .lst rfl];apply#[_,congrArg (Option.or · _) (z _)]
 .rw[q .tup .tup rfl];apply#[_,congrArg (Option.or · _) (z _)]
 .rw[q .bX .lst rfl];apply#[_,z _]
def P7{l:List Int}(hw:Wf w)(hl:l.length<=100):acr [w (l.map D.int)]=some (.bl (uv l)):=by
 let#[t,hz]:=hw.zip l;refine bR rfl (cH (cB (jE (k:=λd=>match d with | .tup [.int a,.int b]=>some (.bl (decide (a < b))) | _=>none) hz (by rw[List.length_map,ajw];apply size_le (by lia)) (λd m=>by
  let#[#[a,b],mi,rfl]:=abG.mp m;apply uo rfl rfl (aF rfl rfl BP))) ?_))
 rw[ae7,<- LH,<- QZ,adw];apply congrArg (λz=>zE (.lst z)) (lS (λp:Int×Int=>D.bl (decide (p.1<p.2))) _)
def KD(hi:it Y=some (ds,.sh []))(h:cY g (.sh []) f ds Y=some (.nx Y')):jc it g f Y=some (.nx Y'):=uZ hi h
def YS(hi:it Y=some (ds,.sh []))(h:cY g (.sh []) f ds Y=some (.rt r)):jc it g f Y=some (.rt r):=Bb hi h
def inR(v a b:Int):Bool:=decide (a<=v)&&decide (v<=b)
def wN(p:Ed):Bool:=inR p.1 0 999&&inR p.2.1 0 1000000000&&inR p.2.2 0 1000000000&&!(p.2.1==p.2.2)
def ye(E:List Ed):Bool:=E.all wN&&uv (E.map (·.1))
abbrev gE:GF:=gT (fV (gN 1) (fV (gN 2) (fV (gN 3) pU)))
def bE:SF:=(bY (dZ (k8 (kg (tV (cQ nG (au (aj 1) (au (eC (.int 0)) (au (eC (.int 999)) aD))))) (tV (cQ nG (au (aj 2) (au (eC (.int 0)) (au (eC (.int 1000000000)) aD))))))) (kR (eC (.bl false))) fB) (dZ (o9 (k8 (tV (cQ nG (au (aj 3) (au (eC (.int 0)) (au (eC (.int 1000000000)) aD)))))) (tV (e2 oEq (aj 2) (aj 3)))) (kR (eC (.bl false))) fB))
def yO(h:aj i Y=some (.int v,t)):tV (cQ nG (au (aj i) (au (eC (.int a)) (au (eC (.int b)) aD)))) Y=some (inR v a b):=
 bJ (cV (ps:=[(.int v,t),(.int a,.own),(.int b,.own)]) (by rw[bN,h];rfl) Bj)
def rE(L:D)(a b c:Int):aR:=[some (L,.sh []),some (.int a,.own),some (.int b,.own),some (.int c,.own)]
def b_E{L:D}{a b c:Int}:bE (rE L a b c)=some (if wN (a,b,c)=true then .nx (rE L a b c) else .rt (.bl false)):=by
 have w1:tV (cQ nG (au (aj 1) (au (eC (.int 0)) (au (eC (.int 999)) aD)))) (rE L a b c)=some (inR a 0 999):=yO rfl;have w2:tV (cQ nG (au (aj 2) (au (eC (.int 0)) (au (eC (.int 1000000000)) aD)))) (rE L a b c)=some (inR b 0 1000000000):=yO rfl;have w3:tV (cQ nG (au (aj 3) (au (eC (.int 0)) (au (eC (.int 1000000000)) aD)))) (rE L a b c)=some (inR c 0 1000000000):=yO rfl;have w4:tV (e2 oEq (aj 2) (aj 3)) (rE L a b c)=some (b==c):=rfl;have c1:=xS w1 w2;have c2:=vf (show k8 (tV (cQ nG (au (aj 3) (au (eC (.int 0)) (au (eC (.int 1000000000)) aD))))) (rE L a b c)=some (!inR c 0 1000000000) by rw[GP,w3];rfl) w4;unfold bE wN;rw[iF,gP,GP,c1];cases inR a 0 999<;>cases inR b 0 1000000000<;>try rfl
 show uA _ (fB _)=_;rw[aaP,o8,gP,c2];cases inR c 0 1000000000<;>cases(b==c)<;>rfl
theorem Uk{L:D}:∀{E:List Ed} {s1 s2 s3},∃qU zq ux,cY gE (.sh []) bE (E.map dT) [some (L,.sh []),s1,s2,s3]=some (if E.all wN=true then .nx [some (L,.sh []),qU,zq,ux] else .rt (.bl false))
 |[],s1,s2,s3=>#[s1,s2,s3,rfl]
 |(a,b,c)::E,s1,s2,s3=>by
  let#[t1,t2,t3,ih]:=Uk;refine#[t1,t2,t3,?_];rw[aas];show(match bE (rE L a b c) with|some (.nx aQ)=>cY gE (.sh []) bE (E.map dT) aQ|some (.ct aQ)=>cY gE (.sh []) bE (E.map dT) aQ|some (.bk aQ)=>some (.nx aQ)|some (.rt r)=>some (.rt r)|some (.er raw cn aQ)=>some (.er raw cn aQ)|none=>none)=_;rw[b_E,ajt];cases wN (a,b,c) with
  |true=>rw[if_pos rfl,Bool.true_and];apply ih
  |false=>rfl
def i9(h:sf Y=some (.rt d)):bY sf sg Y=some (.rt d):=by rw[iF,h];rfl
def Mu{js:List (Option Nat)}{it:IF}{g:GF}{te:EF}{Y:aR}{t:Tag}{l:List Int}{p:Int->Bool}(hi:it Y=some (l.map D.int,t))(hl:l.length<=10000)(h:∀x∈l,jF g nH te (jw js Y) (.int x)=some (some (.bl (p x)))):
  e1 zE (iW js it g nH te) Y=some (.bl (l.all p),.own):=by
 have hc:=jE (k:=λd=>match d with | .int x=>some (.bl (p x)) | _=>none) hi (by rw[List.length_map];apply size_le hl) (λd m=>by
  let#[x,mx,rfl]:=abG.mp m;apply h x mx)
 rw[zS,hc,Q6,ae7];have e:l.filterMap ((λd=>match d with|D.int x=>some (D.bl (p x))|_=>none) ∘ D.int)=(l.map p).map D.bl:=by
  rw[adw];apply lS (λx=>D.bl (p x)) _
 rw[e,QZ,ajq];rfl
def f_are{E:List Ed}(hw:Wf w)(hl:E.length<=100):VO [w (E.map dT)]=some (.bl (ye E)):=by
 let#[t1,t2,t3,vA]:=Uk;refine bR rfl ?_;unfold ye;cases ha:E.all wN with
 |false=>
  rw[ha] at vA;apply i9 (YS (hw.seq rfl) vA)
 |true=>
  rw[ha] at vA;refine sq (KD (hw.seq rfl) vA) (cH (cV (ps:=[(iL (E.map λp:Ed=>p.1),.own)]) ?_ (P7 D0 (by rw[List.length_map];apply hl))));rw[bN,jE (k:=λd=>match d with | .tup [.int a,.int _,.int _]=>some (.int a) | _=>none) (hw.seq rfl) (by rw[List.length_map];apply size_le (by lia)) (λd m=>by
   let#[#[a,b,c],mi,rfl]:=abG.mp m;apply uo rfl rfl rfl),ae7]
  unfold iL;rw[adw,show E.filterMap ((λd=>match d with|D.tup [.int a,.int _,.int _]=>some (D.int a)|_=>none) ∘ dT)=E.map (D.int ∘ (·.1)) from lS (λp:Ed=>D.int p.1) _];rfl
abbrev Ch:=Int×List Int×List Ed
def ent(c:Ch):D:=.tup [.int c.1,.tup (c.2.1.map D.int),.tup (c.2.2.map dT)]
def obj(C:List Ch):D:=.ins "Changes" [("entries",.lst (C.map ent))]
def Ky(c:Ch):aB (ent c)=true:=by
 unfold ent;show aK [.int c.1,.tup (c.2.1.map D.int),.tup (c.2.2.map dT)]=true;unfold aK;unfold aK;unfold aK;unfold aK;show(aB (.int c.1)&&(aK (c.2.1.map D.int)&&(aK (c.2.2.map dT)&&true)))=true;rw[c_,zT];rfl
theorem Pp:∀C:List Ch,aK (C.map ent)=true
 |[]=>rfl
 |c::r=>by rw[aas];unfold aK;rw[Pp r,Ky];rfl
def lV{F:List D->Option D}{ps:List (D×Tag)}(h:fo Y=some (.ins cn es,t))(hm:es.lookup m=none)(hg:g Y=some ps)(hF:F (.ins cn es::ps.map (·.1))=some d):
  cR cn m F fo g Y=some (d,.own):=by
 unfold cR;rw[h];dsimp only;rw[if_pos #[rfl,hm],hg,ac1,hF];rfl
def Aw(h:(mm==("entries":Str))=false):([("entries",d)]:List (Str×D)).lookup mm=none:=by simp only[List.lookup,h]
def TJ(C:List Ch):IM [obj C]=some (.int C.length):=bR rfl (cH (cB rfl (by rw[Cs,List.length_map])))
def Jz(h:aj i Y=some (obj C,t)):cR "Changes" "many" IM (aj i) aD Y=some (.int C.length,.own):=
 lV h (Aw (by decide)) yT (TJ C)
def mZ{F:List D->Option D}(h:aj i Y=some (obj C,t))(ha:fa Y=some (x,t2))(hF:F [obj C,x]=some d)(hm:(mm==("entries":Str))=false:=by decide):
  cR "Changes" mm F (aj i) (au fa aD) Y=some (d,.own):=
 lV (ps:=[(x,t2)]) h (Aw hm) (by rw[bN,ha,yT,Ck]) hF
def DI(C:List Ch)(m:Int):Dn [obj C,.int m]=some (.bl (inR m 1 C.length)):=
 bR rfl (cH (cV (ps:=[(.int m,.sh []),(.int 1,.own),(.int C.length,.own)]) (by rw[bN,bN,bN,Jz rfl];rfl) Bj))
def kZ(n:Nat)(r:Int)(l:List Int)(E:List Ed):Bool:=inR r 0 9&&(l.all (λx=>inR x 1 n)&&uv l)&&(decide ((E.length:Int)<=20)&&ye E)
def zu(h1:fa Y=some (.bl b,t))(h2:fb Y=some (.bl c,.own)):yb fa fb Y=some (.bl (b&&c),.own):=by
 rw[acd,h1];ext b
 .rfl
 .exact h2
def TL{w v:List D->D}(hw:Wf w)(hv:Wf v){C:List Ch}{r:Int}{l:List Int}{E:List Ed}(hl:l.length<=100)(hE:E.length<=100):QX [obj C,.int r,w (l.map D.int),v (E.map dT)]=some (.bl (kZ C.length r l E)):=by
 have q1:=kN (yO (Y:=[some (obj C,.sh []),some (.int r,.sh []),some (w (l.map D.int),.sh []),some (v (E.map dT),.sh [])]) (i:=1) (a:=0) (b:=9) rfl);have q2:=vf (kN (bJ (Mu (js:=[none,some 0]) (it:=iu (aj 2)) (g:=gN 0) (te:=cR "Changes" "has" Dn (aj 1) (au (aj 0) aD)) (Y:=[some (obj C,.sh []),some (.int r,.sh []),some (w (l.map D.int),.sh []),some (v (E.map dT),.sh [])]) (hw.seq rfl) (by lia) (λx mx=>uo rfl rfl (mZ rfl rfl (DI C x)))))) (kN (bJ (cV (g:=au (aj 2) aD) rfl (P7 hw hl))));refine bR rfl ?_;unfold kZ;cases h0:inR r 0 9 with
 |false=>rw[h0] at q1;apply pX q1 (i9 rfl)
 |true=>
  rw[h0] at q1;refine bP q1 ?_;cases h1:l.all λx=>inR x 1 C.length with
  |false=>rw[h1] at q2;apply pX q2 (i9 rfl)
  |true=>
   cases h2:uv l with
   |false=>rw[h1,h2] at q2;apply pX q2 (i9 rfl)
   |true=>
    rw[h1,h2] at q2;apply bP q2 (cH (zu (c:=ye E) (aF (cB rfl (by rw[hv.len,List.length_map])) rfl acX) (cV rfl (f_are hv hE))))
def Cc(h1:fv Y=some (d,t))(h2:Y[i]? = some (some (.ins cn es,.own)))(hl:es.lookup f=some (.lst ds))(hc:(aB d&&aK ds&&decide (ds.length<sizeLine))=true):
  A4 i cn f fv Y=some (.nx (cJ Y i (.ins cn (eF f (.lst (ds++[d])) es)))):=by
 unfold A4;rw[h1,h2];dsimp only;rw[if_pos rfl,hl];dsimp only;rw[if_pos hc]
def iS(h:f Y=some (.nx Y')):jL f Y=some (.nx Y'):=by unfold jL;rw[h]
def jX(hl:ds.length+1=n)(h:b (uS N d0 ds)=some (.rt (.tup [r,d1]))):runM n N b d0 ds=some (r,d1):=by unfold runM;rw[if_pos hl,h]
def ah5{w v:List D->D}(hw:Wf w)(hv:Wf v){C:List Ch}{r:Int}{l:List Int}{E:List Ed}(hl:l.length<=100)(hE:E.length<=100)(hm:kZ C.length r l E=true)(hC:C.length<60):qf (obj C) [.int r,w (l.map D.int),v (E.map dT)]=some (.int (C.length+1),obj (C++[(r,l,E)])):=by
 refine jX rfl ?_;refine bP (kN (b:=true) (bJ (lV rfl (Aw (by decide)) rfl ((TL hw hv hl hE).trans (by rw[hm]))))) ?_;refine bP (bJ (aF (Jz rfl) rfl (by rw[UO,abS (by lia)]))) ?_;refine sq (Y':=[some (obj (C++[(r,l,E)]),.own),some (.int r,.sh []),some (w (l.map D.int),.sh []),some (v (E.map dT),.sh [])]) ((iS (Cc (d:=ent (r,l,E)) (t:=.sh []) ?_ rfl rfl (by rw[Ky,Pp,aa1 (by rw[List.length_map];apply size_le (by lia))];rfl))).trans ?_) ?_
 .rw[p_,bN,bN,bN,cB rfl (hw.tup (c_ l)),cB (d:=eL E) (t:=.own) ?_ (if_pos (zT E))]
  .rfl
  .refine(jE (hv.seq rfl) (by rw[List.length_map];apply size_le (by lia)) (λd m=>by
    let#[#[a,b,c],mx,rfl]:=abG.mp m;apply uo rfl rfl rfl)).trans ?_
   rw[lS (λd:D=>d),List.map_id'];rfl
 .unfold obj;rw[adK];rfl
 .show uL _ _ _=_;unfold uL;rw[Jz rfl,abE];rfl
def pS{i:Int}(h1:-1000<=i)(h2:i<=1000):small i=true:=by
 unfold small;rw[aa1 (show -(2 ^ 62)<=i by lia),aa1 (show i<2 ^ 62 by lia)];rfl
def cz(a:Int)(n:Nat):List Int:=(List.range n).map λi:Nat=>a+(i:Int)
def kF{a x:Int}{n:Nat}:x∈cz a n↔a<=x/\x<a+n:=by
 unfold cz;rw[abG];constructor
 .rintro⟨i,m,rfl⟩
  have:=ajD.mp m
  lia
 .intro h;apply#[(x-a).toNat,ajD.mpr (by lia),by lia]
def OO(a:Int)(n:Nat):(cz a n).Pairwise (· < ·):=by
 unfold cz;rw[aiV];apply List.pairwise_lt_range.imp (λh=>by lia)
def CO(h:f Y=some (.int i,t))(h2:g Y=some (.int j,t2))(hi:small i=true)(hj:small j=true):qO f g Y=some ((cz i (j-i).toNat).map D.int,.own):=by
 unfold qO;rw[h,h2];dsimp only;rw[if_pos (by rw[hi,hj];rfl)];unfold cz;rw[adw];rfl
theorem eW(p:Int->Bool)(f:Int->Int):∀l:List Int,l.filterMap (λx=>if p x=true then some (D.int (f x)) else none)=((l.filter p).map f).map D.int
 |[]=>rfl
 |a::r=>by
  rw[aeX]
  by_cases hp:p a=true
  .rw[ai3 hp,if_pos hp,eW p f r];rfl
  .rw[ai4 hp,abm hp,eW p f r]
def ahY{js:List (Option Nat)}{it:IF}{g:GF}{tt:TF}{te:EF}{Y:aR}{t:Tag}{l:List Int}{p:Int->Bool}{f:Int->Int}(hi:it Y=some (l.map D.int,t))(hl:l.length<=10000)(h:∀x∈l,jF g tt te (jw js Y) (.int x)=some (if p x=true then some (.int (f x)) else none)):
  iW js it g tt te Y=some (iL ((l.filter p).map f),.own):=by
 have hc:=jE (k:=λd=>match d with | .int x=>if p x=true then some (.int (f x)) else none | _=>none) hi (by rw[List.length_map];apply size_le hl) (λd m=>by
  let#[x,mx,rfl]:=abG.mp m;apply h x mx)
 rw[hc]
 congr 3
 clear hc h hi hl;rw[ae7];apply eW p f l
def lean(L:List (List Int))(m:Int):List Int:=if 1<=m then(L[(m-1).toNat]?).getD [] else[]
abbrev sec(C:List Ch):List (List Int):=C.map (·.2.1)
def afE{α:Type}{f:α->D}{L:List α}{m:Int}{l:α}(h1:1<=m)(h2:m<=L.length)(h:L[(m-1).toNat]? = some l):d7 (L.map f) (m-1)=some (f l):=by
 unfold d7 lR;rw[List.length_map];rw[if_pos (by omega),if_pos (by omega),ac1,acB,h];rfl
def ch(L:List Ch)(m:Int):Ch:=(L[(m-1).toNat]?).getD (0,[],[])
def aaE{L:List Ch}{m:Int}(h1:1<=m)(h2:m<=L.length):L[(m-1).toNat]? = some (ch L m):=by
 unfold ch;rw[abe (by lia)];rfl
def ur{L:List Ch}{m:Int}(h1:1<=m)(h2:m<=L.length):(ch L m).2.1=lean (sec L) m:=by
 unfold ch lean sec;rw[if_pos h1,acB,abe (by lia)];rfl
def Eb{L:List Ch}{m:Int}(h1:1<=m)(h2:m<=L.length):ZJ [obj L,.int m]=some (ent (ch L m)):=
 bR rfl (bP (kN (b:=true) (bJ (mZ rfl rfl ((DI L m).trans (by unfold inR;rw[aa1 h1,aa1 h2];rfl))))) (cH (aF rfl rfl (zh (afE h1 h2 (aaE h1 h2)) (Ky _)))))
def Qt{L:List Ch}{m:Int}(h1:1<=m)(h2:m<=L.length):GY [obj L,.int m]=some (iL (lean (sec L) m)):=
 bR rfl (cH (cB (aF (mZ rfl rfl (Eb h1 h2)) rfl (if_pos (show aB (D.tup _)=true by simp only[aB,c_]))) (by rw[Pg,ur h1 h2];rfl)))
def dO(L:List Ch)(m:Int):List Ed:=(ch L m).2.2
def BO{L:List Ch}{m:Int}(h1:1<=m)(h2:m<=L.length):DC [obj L,.int m]=some (eL (dO L m)):=
 bR rfl (cH (cB (aF (mZ rfl rfl (Eb h1 h2)) rfl (if_pos (show aB (D.tup _)=true from zT _))) (if_pos (zT _))))
def HS{e:EF}{Y:aR}{n:Nat}{t:Tag}(h:e Y=some (.int n,t))(hs:n<=1000):yW e Y=some ((cz 0 n).map D.int,.own):=by
 rw[We h (pS (by lia) (by lia)),ajA];unfold cz;rw[adw];rfl
def Dp{l:List Int}:l.any (· == m)=decide (m∈l):=by
 by_cases h:m∈l
 .rw[aa1 h];apply adY.mpr #[m,h,by simp]
 .rw[abS h,agN];intro e;let#[y,my,ey]:=adY.mp e;apply h (by rw[<- (ahd.mp ey)];apply my)
def Ci:x∈dY l↔x∈l:=(vL l).mem_iff
structure KP(E:List Ed)(n:Nat):Prop where
 so:(E.map (·.1)).Pairwise (·<=·)
 ln:E.length<=n
def Im(h:n<4096):n<sizeLine:=by unfold sizeLine;lia
theorem m5:∀ps:List (Int×Int×Int),aK (ps.map dT)=true
 |[]=>rfl
 |p::r=>by rw[aas];unfold aK;rw[m5 r];rfl
def qv(es:List (Int×Int))(p:Int×Int×Int):Bool:=!((cu es p.1).getD 0==p.2.1)
def bad(es:List (Int×Int))(E:List (Int×Int×Int)):List Int:=(E.filter (qv es)).map (·.1)
def tK:List Int->D
 |[]=>.aI
 |x::_=>.int x
def agm:∀{x} {l},(x::l).Pairwise (·<=·)->kq (x::l)=x
 |x,l,h=>by
  let#[h1,h2]:=F7 (l:=x::l) (by simp);have h3:=h2 x aap;rcases aat.mp h1 with e|m
  .exact e
  .have:=(aeh.mp h).1 _ m;lia
def kW(es:List (Int×Int)):D->Option D
 |.tup [.int a,.int b,.int c]=>if qv es (a,b,c)=true then some (.int a) else none
 |_=>none
def agd:∀p,kW es (dT p)=if qv es p=true then some (D.int p.1) else none
 |(_,_,_)=>rfl
def Ir(hE:KP E n)(hn:n<64)(w:List D->D)(hw:iu (aj 1) [some (cU es,.sh []),some (w (E.map dT),.sh [])]=some (E.map dT,.sh [])):Hy [cU es,w (E.map dT)]=some (tK (bad es E)):=by
 have hc:=jE (js:=[none,none,none,some 0]) (g:=gT (fV (gN 0) (fV (gN 1) (fV (gN 2) pU)))) (tt:=tV (e2 lF (e3 u0 (aj 3) (aj 0) (eC (.int 0))) (aj 1))) (te:=aj 0) (k:=kW es) hw (by rw[List.length_map];apply Im (by have:=hE.ln;lia)) (λd m=>by
  let#[#[a,b,c],mi,rfl]:=abG.mp m;show _=some (if qv es (a,b,c)=true then some (D.int a) else none);have ht:(tV (e2 lF (e3 u0 (aj 3) (aj 0) (eC (.int 0))) (aj 1))) [some (.int a,.own),some (.int b,.own),some (.int c,.own),some (cU es,.sh [])]=some (qv es (a,b,c)):=by
   rw[yp,j8,ZL];show Ev.kV (k2 lF ((u0 (cU es) (.int a) (.int 0)).map _) _)=_;rw[af3];rfl
  by_cases h:qv es (a,b,c)=true
  .rw[if_pos h];apply n9 (aP:=[some (.int a,.own),some (.int b,.own),some (.int c,.own),some (cU es,.sh [])]) rfl (by rw[ht,h]) rfl rfl
  .rw[abm h];apply D3 (aP:=[some (.int a,.own),some (.int b,.own),some (.int c,.own),some (cU es,.sh [])]) rfl (by rw[ht,agN.mpr h]))
 have hb:(E.map dT).filterMap (kW es)=(bad es E).map D.int:=by
  clear hc hw hE;unfold bad
  induction E with
  |nil=>rfl
  |cons p r ih=>
   rw[aas,aeX,ajk,agd]
   by_cases h:qv es p=true
   .rw[if_pos h,if_pos h];dsimp only;rw[ih];rfl
   .rw[abm h,abm h];apply ih
 rw[hb] at hc;have hs:(bad es E).Pairwise (·<=·):=by
  unfold bad;have:=hE.so;rw[aiV] at this ⊢;apply this.filter _
 refine bR rfl (cH (aF hc rfl ?_));show(match eU ((bad es E).map D.int) with|some []=>if aB .aI=true then some D.aI else none|some (n::r)=>some (D.int (kq (n::r)))|none=>none)=_;rw[uH];cases e:bad es E with
 |nil=>rfl
 |cons x l=>
  dsimp only;rw[agm (by rw[<- e];apply hs)];rfl
def uc(es:List (Int×Int)):List Int:=(dY (es.map (·.1))).filter λk=>!((cu es k).getD 0==0)
def nz(es:List (Int×Int)):List (Int×Int):=(uc es).map λk=>(k,(cu es k).getD 0)
def kS(es:List (Int×Int)):D->Option D
 |.int i=>if(!((cu es i).getD 0==0))=true then some (dP (i,(cu es i).getD 0)) else none
 |_=>none
def adn(hl:es.length<64):abH [cU es]=some (.lst ((nz es).map dP)):=by
 have hs:(e1 mV (aj 0)) [some (cU es,.sh [])]=some (.lst ((dY (es.map (·.1))).map D.int),.own):=by
  rw[zS];show(mV (cU es)).map _=_;rw[afQ (by omega)];rfl
 have hc:=jE (js:=[none,some 0]) (g:=gN 0) (tt:=tV (e2 lF (e2 kH (aj 1) (aj 0)) (eC (.int 0)))) (te:=h_ (au (aj 0) (au (e2 kH (aj 1) (aj 0)) aD))) (k:=kS es)
   (kr hs) (by rw[List.length_map,yI,List.length_map];apply Im (by omega)) (λd m=>by
  let#[i,mi,rfl]:=abG.mp m;let#[w,hw]:=tW.mpr (Ci.mp mi);have hg:=afJ hw;show _=some (if(!((cu es i).getD 0==0))=true then some (dP (i,(cu es i).getD 0)) else none);have ht:(tV (e2 lF (e2 kH (aj 1) (aj 0)) (eC (.int 0)))) [some (.int i,.sh []),some (cU es,.sh [])]=some (!((cu es i).getD 0==0)):=by
   rw[yp,j8,j8];show Ev.kV (k2 lF ((kH (cU es) (.int i)).map _) _)=_;rw[hg,hw];rfl
  by_cases h:(!((cu es i).getD 0==0))=true
  .rw[if_pos h];refine n9 (aP:=[some (.int i,.sh []),some (cU es,.sh [])]) (tg:=.sh []) rfl (by rw[ht,h]) ?_ rfl;rw[p_,bN,bN,j8];show Option.map _ (mC _ (mC ((kH (cU es) (.int i)).map _) _))=_;rw[hg,hw];rfl
  .rw[abm h];apply D3 (aP:=[some (.int i,.sh []),some (cU es,.sh [])]) rfl (by rw[ht,agN.mpr h]))
 refine(bR rfl (cH hc)).trans ?_
 congr 2
 unfold nz uc;generalize dY (es.map (·.1))=l;clear hs hc
 induction l with
 |nil=>rfl
 |cons x r ih=>
  rw[aas,aeX,ajk]
  by_cases h:(!((cu es x).getD 0==0))=true
  .rw[if_pos h,show kS es (.int x)=some (dP (x,(cu es x).getD 0)) from if_pos h];dsimp only;rw[ih];rfl
  .rw[abm h,show kS es (.int x)=none from abm h];apply ih
def gQ(es:List (Int×Int))(E:List (Int×Int×Int)):List (Int×Int):=E.foldl (λm p=>gK m p.1 p.2.2) es
theorem RN:∀(E) (es),(es.map (·.1)).Nodup->((gQ es E).map (·.1)).Nodup
 |[],_,h=>h
 |p::r,es,h=>RN r _ (Mr h)
theorem IB:∀(E) (es) (k),(E.map (·.1)).Nodup->(∀p∈E,p.1=k->cu (gQ es E) k=some p.2.2)/\(k∉E.map (·.1)->cu (gQ es E) k=cu es k)
 |[],es,k,_=>#[λp m=>(nomatch m),λ_=>rfl]
 |q::r,es,k,h=>by
  let#[h1,h2]:=ab3.mp h;let#[a,b]:=IB r (gK es q.1 q.2.2) k h2;refine#[λp m e=>?_,λm=>?_]
  .rcases aat.mp m with rfl|m
   .show cu (gQ (gK es p.1 p.2.2) r) k=_;rw[b (by rw[<- e];apply h1),B8,if_pos e.symm]
   .exact a p m e
  .show cu (gQ (gK es q.1 q.2.2) r) k=_;rw[aas] at m;rw[b λx=>m (aao _ x),B8,abm λx=>m (by rw[x];apply aap)]
abbrev lM:=List (Int×Int)
theorem K9(S:lM->Slot->Slot->Slot->aR)(hg:∀v x y z (p:Ed),g (dT p) t (S v x y z)=some (S v (some (.int p.1,.own)) (some (.int p.2.1,.own)) (some (.int p.2.2,.own))))(hf:∀v (p:Ed),v.length<sizeLine->f (S v (some (.int p.1,.own)) (some (.int p.2.1,.own)) (some (.int p.2.2,.own)))=some (.nx (S (gK v p.1 p.2.2) (some (.int p.1,.own)) (some (.int p.2.1,.own)) (some (.int p.2.2,.own))))):
  ∀{E} {v} {x y z},v.length+E.length<4096->∃x' y' z',cY g t f (E.map dT) (S v x y z)=some (.nx (S (gQ v E) x' y' z'))
 |[],_,x,y,z,_=>#[x,y,z,rfl]
 |p::E,v,x,y,z,hl=>by
  rw[acK] at hl;let#[x',y',z',ih]:=K9 S hg hf (E:=E) (v:=gK v p.1 p.2.2) (by have:=ab6 (es:=v) (k:=p.1) (v:=p.2.2);lia);apply#[x',y',z',(pA (hg ..) (hf _ _ (Im (by lia)))).trans ih]
def xm(S L:D)(es:List (Int×Int))(s3 s4 s5 s6 s7:Slot):aR:=[some (S,.sh []),some (L,.sh []),some (cU es,.own),s3,s4,s5,s6,s7]
abbrev RB:GF:=gT (fV (gN 5) (fV (gN 6) (fV (gN 7) pU)))
abbrev MH:SF:=nu 2 (aj 5) (aj 7)
def Nm:k∈uc es↔(cu es k).getD 0≠0:=by
 unfold uc;rw[ad3];refine#[λh=>by simpa using h.2,λh=>#[Ci.mpr (tW.mp ?_),by simpa using h]];cases e:cu es k with
 |none=>rw[e] at h;apply absurd rfl h
 |some v=>apply#[v,rfl]
def LW(h:(es.map (·.1)).Nodup):(uc es).Nodup:=((vL _).nodup_iff.mpr h).sublist ahE
def MD:(nz es).map (·.1)=uc es:=by
 unfold nz;rw[adw];apply List.map_id' _
theorem F6(f:Int->Int)(k:Int):∀l:List Int,cu (l.map λk=>(k,f k)) k=if k∈l then some (f k) else none
 |[]=>rfl
 |x::r=>by
  have ih:=F6 f k r;rw[aas];unfold cu at ih ⊢;rw[adE]
  by_cases hx:x=k
  .rw[aa1 hx,if_pos (by rw[hx];apply aap),hx];rfl
  .rw[abS hx];dsimp only;rw[ih];have:(k∈x::r)↔k∈r:=#[λm=>(aat.mp m).elim (λe=>absurd e.symm hx) id,aao _]
   simp only[this]
def afg(k:Int):(cu (nz es) k).getD 0=(cu es k).getD 0:=by
 unfold nz;rw[F6]
 by_cases h:k∈uc es
 .rw[if_pos h];rfl
 .rw[abm h];have:=mt Nm.mpr h;simp only[ne_eq,Decidable.not_not] at this;rw[this];rfl
def Tf(h:(es.map (·.1)).Nodup)(k:Int):(cu (jS (nz es)) k).getD 0=(cu es k).getD 0:=by
 rw[R_ (by rw[MD];apply LW h),afg]
def YD(ps:List (Int×Int)):((jS ps).map (·.1)).Nodup:=by
 have go:∀(ps m:List (Int×Int)),(m.map (·.1)).Nodup->((ps.foldl (λm p=>gK m p.1 p.2) m).map (·.1)).Nodup:=by
  intro ps
  induction ps with
  |nil=>intro m h;apply h
  |cons p r ih=>intro m h;apply ih _ (Mr h)
 apply go ps [] acv
theorem sub_len[DecidableEq α]:∀{l m:List α},l.Nodup->(∀x∈l,x∈m)->l.length<=m.length
 |[],m,_,_=>adN _
 |a::l,m,h,s=>by
  let#[ha,hl]:=ab3.mp h;have ma:=s a aap;have:=sub_len (m:=m.erase a) hl λx mx=>(List.mem_erase_of_ne λe=>ha (by rw[<- e];apply mx)).mpr (s x (aao _ mx))
  rw[List.length_erase_of_mem ma] at this;have:=List.length_pos_of_mem ma;rw[acK];omega
def aem(h:k∈(gK es a c).map (·.1)):k=a\/k∈es.map (·.1):=by
 let#[w,e]:=tW.mpr h;rw[B8] at e
 split at e
 .rename_i q;apply .inl q
 .exact .inr (tW.mp #[w,e])
theorem Q7{S:List Int}:∀{E} {es},(∀p∈E,p.1∈S)->(∀k∈es.map (·.1),k∈S)->∀k∈(gQ es E).map (·.1),k∈S
 |[],es,_,h=>h
 |p::E,es,hE,h=>Q7 (es:=gK es p.1 p.2.2) (λq m=>hE q (aao _ m)) λk m=>(aem m).elim (λe=>by rw[e];apply hE p aap) (h k)
def fU:lM->List (List Ed)->Option lM
 |v,[]=>some v
 |v,E::r=>if bad v E=[] then fU (gQ v E) r else none
structure Kb(Sl:List Int)(v:lM):Prop where
 sl:Sl.length<=60
 nd:(v.map (·.1)).Nodup
 ks:∀k∈v.map (·.1),k∈Sl
def Kb.len{v:lM}(h:Kb Sl v):v.length<=60:=by
 have:=sub_len h.nd h.ks;rw[List.length_map] at this;apply adJ this h.sl
def Kb.nil(h:Sl.length<=60):Kb Sl []:=#[h,.nil,λk m=>nomatch m]
structure Ee(Sl:List Int)(E:List Ed):Prop where
 ed:KP E 20
 nd:(E.map (·.1)).Nodup
 sl:∀p∈E,p.1∈Sl
theorem Kb.gQ{v:lM}(h:Kb Sl v)(e:Ee Sl E):Kb Sl (gQ v E):=#[h.sl,RN E v h.nd,Q7 e.sl h.ks]
abbrev PD(Z:SF):SF:=bY (eS 4 (cQ Hy (au (aj 2) (au (aj 3) aD)))) (bY (dZ (tV (e2 DV (aj 4) (eC .aI))) Z fB) (jc (iu (aj 3)) RB MH))
def XO{Z:SF}{S L:D}(hE:KP E 20)(hb:bad v E=[])(hl:v.length<=3000):∃t5 t6 t7,PD Z (xm S L v (some (eL E,.sh [])) s4 s5 s6 s7)=some (.nx (xm S L (gQ v E) (some (eL E,.sh [])) (some (.aI,.own)) t5 t6 t7)):=by
 have hle:=hE.ln;let#[t5,t6,t7,lp]:=K9 (g:=RB) (f:=MH) (λv x y z=>xm S L v (some (eL E,.sh [])) (some (.aI,.own)) x y z) (λ_ _ _ _ _=>rfl) (λv p h=>N7 rfl rfl rfl h) (E:=E) (v:=v) (by lia);apply#[t5,t6,t7,gU (d:=.aI) (cV rfl (by show Hy [cU v,.lst (E.map dT)]=_;rw[Ir hE (by lia) D.lst rfl,hb];rfl)) (sq rfl (KD rfl lp))]
theorem Nh{Z:SF}{S L:D}:∀{Es} {v v'} {s3 s4 s5 s6 s7},(∀E∈Es,Ee Sl E)->fU v Es=some v'->Kb Sl v->
  ∃t3 t4 t5 t6 t7,cY (gN 3) (.sh []) (PD Z) (Es.map eL) (xm S L v s3 s4 s5 s6 s7)=some (.nx (xm S L v' t3 t4 t5 t6 t7))/\Kb Sl v'
 |[],v,v',s3,s4,s5,s6,s7,_,h,k=>by
  ext h;apply#[s3,s4,s5,s6,s7,rfl,k]
 |E::Es,v,v',s3,s4,s5,s6,s7,hE,h,k=>by
  unfold fU at h
  by_cases hb:bad v E=[]
  .rw[if_pos hb] at h;have Mw:=hE E aap;let#[t5,t6,t7,hs]:=XO Mw.ed hb (by have:=k.len;lia);let#[u3,u4,u5,u6,u7,ih,k']:=Nh (λE' m=>hE E' (aao _ m)) h (k.gQ Mw);apply#[u3,u4,u5,u6,u7,(pA rfl hs).trans ih,k']
  .rw[abm hb] at h;ext h
def dS(ps:lM):D:=.lst (ps.map dP)
def fX(C:List Ch)(row:List Int):List (List Ed):=row.map (dO C)
abbrev Row(C:List Ch)(ns:List Int):Prop:=∀x∈ns,1<=x/\x<=(C.length:Int)
structure GoodC(Sl:List Int)(C:List Ch):Prop where
 ln:C.length<=60
 sl:Sl.length<=60
 ed:∀m,Ee Sl (dO C m)
 bd:∀m x,1<=m->m<=(C.length:Int)->x∈lean (sec C) m->1<=x/\x<m
 few:∀m,(lean (sec C) m).length<=60
def Cv{C:List Ch}{row:List Int}(g:GoodC Sl C)(hb:Row C row)(hl:row.length<=100)(h:fU [] (fX C row)=some v):aa7 [obj C,iL row]=some (dS (nz v))/\Kb Sl v:=by
 have hE:∀E∈fX C row,Ee Sl E:=λE m=>by
  let#[x,_,rfl]:=abG.mp m;apply g.ed x
 let#[t3,t4,t5,t6,t7,vA,kv]:=Nh hE h (Kb.nil g.sl);have hc:=jE (js:=[none,some 0]) (it:=iu (aj 1)) (Y:=[some (obj C,.sh []),some (iL row,.sh [])]) (g:=gN 0) (tt:=nH) (te:=cR "Changes" "edits_of" DC (aj 1) (au (aj 0) aD)) (k:=λd=>match d with | .int x=>some (eL (dO C x)) | _=>none) (kr rfl) (by rw[List.length_map];apply size_le (by lia)) (λd m=>by
  let#[x,mx,rfl]:=abG.mp m;let#[h1,h2]:=hb x mx;apply uo rfl rfl (mZ rfl rfl (BO h1 h2)))
 rw[ae7,show(row.filterMap ((λd=>match d with|D.int x=>some (eL (dO C x))|_=>none) ∘ D.int))=(fX C row).map eL from(lS _ _).trans (by unfold fX;rw[adw];rfl)] at hc;apply#[bR rfl (cH (cV (by rw[bN,bN];show mC _ (mC (iW _ _ _ _ _ [some (obj C,.sh []),some (iL row,.sh [])]) _)=_;rw[hc];rfl) (bR rfl (gU rfl (sq (KD rfl vA) (cH (cV (ps:=[(cU v,.sh [2])]) rfl (adn (by have:=kv.len;lia))))))))),kv]
abbrev gV(es:lM)(k:Int):Int:=(cu es k).getD 0
def iQ(C:List Ch)(v:lM)(m:Int):Bool:=(bad v (dO C m)).isEmpty
def Ym:iQ C v m=true↔bad v (dO C m)=[]:=List.isEmpty_iff
def Xs:jf (tK l) .aI=some (.bl l.isEmpty):=by ext l<;>rfl
def y9{l:List Int}(hi:it Y=some (l.map D.int,t))(hl:l.length<=10000)(hr:∀x,gN 0 (.int x) (.sh []) (jw js Y)=some (some (.int x,.sh [])::r))(h:∀x∈l,tt (some (.int x,.sh [])::r)=some (p x)):
  iW js it (gN 0) tt (aj 0) Y=some (iL (l.filter p),.own):=by
 have:=ahY (tt:=tt) (te:=aj 0) hi hl (λx mx=>by
  by_cases hp:p x=true
  .rw[if_pos hp];apply n9 (hr x) (by rw[h x mx,hp]) rfl rfl
  .rw[abm hp];apply D3 (hr x) (by rw[h x mx,agN.mpr hp]))
 rw[List.map_id'] at this;apply this
def abv(h1:fv Y=some (.int n,t))(h2:Y[i]? = some (some (iL ns,.own)))(hm:n∈ns):zU i fv Y=some (.nx (cJ Y i (iL (ns.erase n)))):=by
 unfold zU;rw[h1,h2];unfold iL;dsimp only;rw[uH];dsimp only;rw[if_pos hm]
def kB(k:Int):Key×D:=(Sum.inl k,.bl true)
def dB(ks:List Int):D:=.bZ (ks.map kB)
def add(ks:List Int)(k:Int):List Int:=if k∈ks then ks else ks++[k]
def V3:x∈add ks k↔x∈ks\/x=k:=by
 unfold add
 by_cases h:k∈ks
 .rw[if_pos h];apply#[.inl,λe=>e.elim id λe=>by rw[e];apply h]
 .rw[abm h,abB,aaK]
def PJ{ks:List Int}:((ks.map kB).any λkv=>decide (kv.1=(Sum.inl k:Key)))=decide (k∈ks):=by
 induction ks with
 |nil=>simp
 |cons a r ih=>
  rw[aas,aiY,ih];have:decide ((kB a).1=(Sum.inl k:Key))=decide (a=k):=by
   apply ajl.mpr uC
  rw[this]
  by_cases h:a=k
  .subst h;simp
  .simp[h,afW h]
def YR{ks:List Int}:pZ false (.int x) (dB ks)=some (.bl (decide (x∈ks))):=by
 show some (D.bl (if false=true then _ else(bC (ks.map kB) (Sum.inl x:Key)).isSome))=_;rw[abm aa3,<- PJ];unfold bC;rw[aht]
 congr 2
 rw[ajs,List.find?_isSome,adY]
def acQ{ks:List Int}:putD (ks.map kB) (Sum.inl k:Key) (.bl true)=(add ks k).map kB:=by
 unfold putD add;rw[PJ]
 by_cases h:k∈ks
 .rw[if_pos (aa1 h),if_pos h,adw];refine agL λa _=>?_
  show(if(Sum.inl a:Key)=Sum.inl k then((Sum.inl a:Key),D.bl true) else kB a)=kB a
  split<;>rfl
 .rw[abm (by simpa using h),abm h,adK];rfl
def adds(m l:List Int):List Int:=l.foldl add m
theorem SN:∀{l m} {x},x∈adds m l↔x∈m\/x∈l
 |[],m,x=>by simp[adds]
 |a::l,m,x=>by
  have:=SN (l:=l) (m:=add m a) (x:=x);show x∈adds (add m a) l↔_;rw[this,V3,aat,or_assoc]
def qM(x:Int):D:=.tup [.int x,.bl true]
theorem Sn:∀l:List Int,jN (l.map qM)=some (l.map kB)
 |[]=>rfl
 |p::r=>by
  rw[aas];show(match iJ (.int p),jN (r.map qM) with|some k,some ps=>if aB (.bl true)=true then some ((k,D.bl true)::ps) else none|_,_=>none)=_;rw[Sn r];rfl
theorem QS:∀(l m),(l.map kB).foldl (λm p=>putD m p.1 p.2) (m.map kB)=(adds m l).map kB
 |[],_=>rfl
 |p::r,m=>by rw[aas,afa];show(r.map kB).foldl _ (putD (m.map kB) (Sum.inl p:Key) (.bl true))=_;rw[acQ];apply QS r _
def abU:DU (.lst (l.map qM))=some (dB (adds [] l)):=by
 show(jN (l.map qM)).map _=_;rw[Sn];show some (D.bZ ((l.map kB).foldl (λm p=>putD m p.1 p.2) []))=_;rw[show([]:List (Key×D))=([]:List Int).map kB from rfl,QS];rfl
def lX(C:List Ch)(there:List Int)(m:Int):Bool:=(lean (sec C) m).all λx=>decide (x∈there)
def tw{g:SF}(Y':aR)(h:g Y'=r)(e:Y=Y':=by rfl):g Y=r:=by rw[e,h]
def Py(h:f Y=some (iL a,t))(h2:g Y=some (iL b,t2))(hl:a.length+b.length<=1000):e2 gW (e1 lY f) (e1 lY g) Y=some (iL (a++b),.own):=
 aF (cB h vj) (cB h2 vj) (CQ (by rw[afm];lia))
def QW(g:GoodC Sl C){a b wt:List Int}(hl:a.length+b.length<=1000)(hw:Row C wt)(Ax:wt.length<=1000):C_ [obj C,iL a,iL b,iL wt]=some (iL (wt.filter (lX C (a++b)))):=by
 refine bR rfl (gU (cB (t:=.own) ?_ abU) (tw [some (obj C,.sh []),some (iL a,.sh []),some (iL b,.sh []),some (iL wt,.sh []),some (dB (adds [] (a++b)),.own)] (cH (y9 (kr rfl) (by lia) (λx=>rfl) (λx uR=>?_)))))
 .refine(jE (k:=λd=>match d with | .int x=>some (qM x) | _=>none) (kr (Py rfl rfl hl)) (by rw[List.length_map,abE];apply size_le (by lia)) (λd m=>by
   let#[x,uR,rfl]:=abG.mp m;apply n9 rfl rfl rfl rfl)).trans ?_
  rw[ae7,show((a++b).filterMap ((λd=>match d with|D.int x=>some (qM x)|_=>none) ∘ D.int))=(a++b).map qM from lS qM _]
 .let#[h1,h2]:=hw x uR;refine bJ (Mu (kr (mZ rfl rfl (Qt h1 h2))) (by have:=g.few x;lia) (λy my=>uo rfl rfl (aF rfl rfl ?_)));rw[YR,show decide (y∈adds [] (a++b))=decide (y∈a++b) from ajl.mpr (by rw[SN];simp)]
def aen(g:GoodC Sl C)(hl:a.length+b.length<=100)(hb:Row C (a++b))(h:fU [] (fX C (a++b))=some v):agS [obj C,iL a,iL b]=some (cU (jS (nz v))):=
 bR rfl (cH (cB (cV (ps:=[(obj C,.sh []),(iL (a++b),.own)]) (by rw[bN,bN];show mC _ (mC (e2 gW _ _ [some (obj C,.sh []),some (iL a,.sh []),some (iL b,.sh [])]) _)=_;rw[Py rfl rfl (by lia)];rfl) (Cv g hb (by rw[abE];lia) h).1) M_))
def Pc(h:∀k,gV u k=gV v k)(E:List Ed):bad u E=bad v E:=by
 unfold bad
 congr 1
 refine List.filter_congr λp _=>?_
 unfold qv;have:=h p.1;unfold gV at this;rw[this]
def af8(g:GoodC Sl C)(h1:1<=m)(h2:m<=(C.length:Int)):JY [obj C,cU v,.int m]=some (.bl (iQ C v m)):=
 bR rfl (cH (aF (cV (ps:=[(cU v,.sh []),(eL (dO C m),.own)]) (by rw[bN,bN];show mC _ (mC (cR _ _ _ _ _ [some (obj C,.sh []),some (cU v,.sh []),some (.int m,.sh [])]) _)=_;rw[mZ rfl rfl (BO h1 h2)];rfl) (Ir (g.ed m).ed (by lia) D.lst rfl)) rfl Xs))
def ZV{L:List Ch}{m:Int}(h1:1<=m)(h2:m<=L.length):Ao [obj L,.int m]=some (.int (ch L m).1):=
 bR rfl (cH (aF (mZ rfl rfl (Eb h1 h2)) rfl rfl))
abbrev kf:EF:=h_ (au (e1 Ar (cR "Changes" "rank_of" Ao (aj 1) (au (aj 0) aD))) (au (aj 0) aD))
abbrev pr(C:List Ch):Int->Int×Int:=wm kf (obj C)
def JF{C:List Ch}{x:Int}(h1:1<=x)(h2:x<=C.length):qT kf (obj C) x=some (-(ch C x).1,x):=by
 unfold qT;have e:e1 Ar (cR "Changes" "rank_of" Ao (aj 1) (au (aj 0) aD)) [some (.int x,.own),some (obj C,.sh [])]=some (.int (-(ch C x).1),.own):=cB (mZ rfl rfl (ZV h1 h2)) rfl;show(match h_ _ _ with|some (.tup [.int a,.int b],_)=>some (a,b)|_=>none)=_;rw[p_,bN,e];rfl
def QI(h:Row C ns)(hn:ns.Nodup):(ns.map (pr C)).Nodup:=by
 have zA:∀x∈ns,pr C x=(-(ch C x).1,x):=λx m=>by
  show(qT kf (obj C) x).getD _=_;rw[JF (h x m).1 (h x m).2];rfl
 unfold List.Nodup;rw[aiV];refine hn.imp_of_mem λ{a b} ma mb ne e=>ne ?_
 rw[zA a ma,zA b mb] at e;apply(Prod.mk.injEq .. ▸ e).2
def ade(h:Row C ns)(hn:ns.Nodup)(hl:ns.length<64):MJ [obj C,iL ns]=some (iL (iY (pr C) ns)):=by
 refine bR rfl (cH ?_);show(match eU (ns.map D.int) with|some ns=>if ns.length<64/\(ns.map (pr C)).Nodup/\∀n∈ns,(qT kf (obj C) n).isSome=true then some (D.lst ((iY (pr C) ns).map D.int),Tag.own) else none|none=>none)=_;rw[uH];dsimp only;rw[if_pos #[hl,QI h hn,λx m=>by rw[JF (h x m).1 (h x m).2];rfl]];rfl
def Rt:Option Int->D
 |none=>.aI
 |some x=>.int x
def yG:SF:=dZ (tV (cQ JY (au (aj 0) (au (aj 1) (au (aj 3) aD))))) (tR 3) fB
theorem OV(g:GoodC Sl C):∀{l} {s3},Row C l->match l.find? (iQ C v) with
  |some x=>cY (gN 3) (.sh []) yG (l.map D.int) [some (obj C,.sh []),some (cU v,.sh []),some (N,.sh []),s3]=some (.rt (.int x))
  |none=>∃t3,cY (gN 3) (.sh []) yG (l.map D.int) [some (obj C,.sh []),some (cU v,.sh []),some (N,.sh []),s3]=some (.nx [some (obj C,.sh []),some (cU v,.sh []),some (N,.sh []),t3])
 |[],s3,_=>#[s3,rfl]
 |x::l,s3,h=>by
  let#[h1,h2]:=h x aap;have q:tV (cQ JY (au (aj 0) (au (aj 1) (au (aj 3) aD)))) [some (obj C,.sh []),some (cU v,.sh []),some (N,.sh []),some (.int x,.sh [])]=some (iQ C v x):=bJ (cV rfl (af8 g h1 h2));have ih:=OV g (v:=v) (N:=N) (s3:=some (.int x,.sh [])) λy m=>h y (aao _ m)
  rw[adE];cases hf:iQ C v x with
  |true=>
   rw[hf] at q;apply OT (aP:=[some (obj C,.sh []),some (cU v,.sh []),some (N,.sh []),some (.int x,.sh [])]) rfl (by unfold yG;rw[gP,q];rfl)
  |false=>
   rw[hf] at q;have e:=pA (g:=gN 3) (t:=.sh []) (f:=yG) (ds:=l.map D.int) (Y:=[some (obj C,.sh []),some (cU v,.sh []),some (N,.sh []),s3]) (aP:=[some (obj C,.sh []),some (cU v,.sh []),some (N,.sh []),some (.int x,.sh [])]) rfl (by unfold yG;rw[gP,q];rfl);dsimp only;rw[aas,e];apply ih
def UZ(g:GoodC Sl C)(h:Row C ns)(hn:ns.Nodup)(hl:ns.length<64):Cp [obj C,cU v,iL ns]=some (Rt ((iY (pr C) ns).find? (iQ C v))):=by
 have hi:iu (cQ MJ (au (aj 0) (au (aj 2) aD))) [some (obj C,.sh []),some (cU v,.sh []),some (iL ns,.sh []),none]=some ((iY (pr C) ns).map D.int,.own):=kr (cV rfl (ade h hn hl));have lp:=OV g (v:=v) (N:=iL ns) (l:=iY (pr C) ns) (s3:=none) λx m=>h x ((yk ns).mem_iff.mp m)
 refine bR rfl ?_;cases e:(iY (pr C) ns).find? (iQ C v) with
 |none=>
  rw[e] at lp;let#[t3,lp]:=lp;apply sq (xw hi lp) rfl
 |some x=>
  rw[e] at lp;apply i9 (Mj hi lp)
theorem SO:∀{row} {v v'} {m},fU v (fX C row)=some v'->bad v' (dO C m)=[]->fU v (fX C (row++[m]))=some (gQ v' (dO C m))
 |[],v,v',m,h,hb=>by
  ext h;show(if bad v (dO C m)=[] then fU (gQ v (dO C m)) [] else none)=_;rw[if_pos hb];rfl
 |x::r,v,v',m,h,hb=>by
  have h:(if bad v (dO C x)=[] then fU (gQ v (dO C x)) (fX C r) else none)=some v':=h;show(if bad v (dO C x)=[] then fU (gQ v (dO C x)) (fX C (r++[m])) else none)=_
  by_cases Pq:bad v (dO C x)=[]
  .rw[if_pos Pq] at h ⊢;apply SO h hb
  .rw[abm Pq] at h;ext h
def WZ(h1:c Y=some true)(h2:b Y=some (.nx Y')):iD c b (n+1) Y=iD c b n Y':=by rw[iD,h1];dsimp only;rw[h2]
def ae2(h1:c Y=some false):iD c b (n+1) Y=some (.nx Y):=by rw[iD,h1]
def agU(h1:c Y=some true)(h2:b Y=some (.rt d)):iD c b (n+1) Y=some (.rt d):=by rw[iD,h1];dsimp only;rw[h2]
abbrev cF:TF:=tV (e2 oLt (e1 f9 (aj 5)) (aj 4))
abbrev bF:SF:=(bY (eS 8 (cQ Cp (au (aj 0) (au (aj 7) (au (cQ C_ (au (aj 0) (au (aj 1) (au (aj 5) (au (aj 6) aD))))) aD))))) (bY (dZ (tV (e2 jf (aj 8) (eC .aI))) (tR 5) fB) (bY (lH 5 (aj 8)) (bY (zU 6 (aj 8)) (jc (iu (cR "Changes" "edits_of" DC (aj 0) (au (aj 8) aD))) (gT (fV (gN 9) (fV (gN 10) (fV (gN 11) pU)))) (nu 7 (aj 9) (aj 11)))))))
def rF(C:List Ch)(ln ld wt:List Int)(w:Int)(told left:List Int)(u:lM)(s8 s9 fH fG:Slot):aR:=[some (obj C,.sh []),some (iL ln,.sh []),some (iL ld,.sh []),some (iL wt,.sh []),some (.int w,.sh []),some (iL told,.own),some (iL left,.own),some (cU u,.own),s8,s9,fH,fG]
def zA(h1:1<=x)(h2:x<=(C.length:Int)):pr C x=(-(ch C x).1,x):=by
 show(qT kf (obj C) x).getD _=_;rw[JF h1 h2];rfl
def aco(h1:1<=x)(h2:x<=(C.length:Int))(h:ch C x=(r,[],[])):lX C there x=true:=by
 unfold lX;rw[<- ur h1 h2,h];rfl
def adp(h:ch C x=(r,[],[])):iQ C v x=true:=by
 unfold iQ dO;rw[h];rfl
def WR(hr:Row C left)(h:∀x∈left,ch C x=(r,[],[]))(s:left.Pairwise (· < ·)):left=iY (pr C) left:=
 NF (.refl _) (QI hr (s.imp λh=>by lia)) (s.imp_of_mem λ{a b} ma mb q=>by
  rw[zA (hr a ma).1 (hr a ma).2,zA (hr b mb).1 (hr b mb).2,h a ma,h b mb];apply aa1 (.inr #[rfl,q]))
def Sg(hr:Row C left)(h:∀x∈left,ch C x=(r,[],[]))(s:left.Pairwise (· < ·)):(iY (pr C) (left.filter (lX C there))).find? (iQ C v)=left.head? :=by
 rw[List.filter_eq_self.mpr λx m=>aco (hr x m).1 (hr x m).2 (h x m),<- WR hr h s];cases left with
 |nil=>rfl
 |cons y l=>rw[ahG (adp (h y aap))];rfl
structure Fl(C:List Ch)(ln told left:List Int)(w:Int)(ex:List Int):Prop where
 nd:ex.Nodup
 sub:∀x∈ex,x∈left
 le:((told++ex).length:Int)<=w\/ex=[]
 fst:∀x r,ex=x::r->∃v,fU [] (fX C (ln++told))=some v/\lX C (ln++told) x=true/\iQ C v x=true
 pl:∀r,(∀x∈left,ch C x=(r,[],[]))->left.Pairwise (· < ·)->ex=left.take (w-(told.length:Int)).toNat
 run:∃v,fU [] (fX C (ln++(told++ex)))=some v/\(w<=((told++ex).length:Int)\/∀x∈left,x∉ex->lX C (ln++(told++ex)) x=true->iQ C v x=false)
def afD(g:GoodC Sl C):∀{n} {told left} {u v} {s8 s9 fH fG},Row C left->left.Nodup->left.length<64->ln.length+told.length+left.length<=1000->fU [] (fX C (ln++told))=some v->(∀k,gV u k=gV v k)->Kb Sl u->left.length<n->
  ∃ex,bY (iD cF bF n) (tR 5) (rF C ln ld wt w told left u s8 s9 fH fG)=some (.rt (iL (told++ex)))/\Fl C ln told left w ex:=by
 intro n
 induction n with
 |zero=>intros;omega
 |succ n ih=>
  intro told left u v s8 s9 fH fG hr nd hl hs hv hu ku hn;have c1:cF (rF C ln ld wt w told left u s8 s9 fH fG)=some (decide ((told.length:Int)<w)):=bJ (aF (cB rfl (by show some (D.int (told.map D.int).length)=_;rw[List.length_map])) rfl rfl)
  by_cases hw:(told.length:Int)<w
  .rw[aa1 hw] at c1;have ef:iQ C u=iQ C v:=funext λx=>by unfold iQ;rw[Pc hu]
   have q1:cQ Cp (au (aj 0) (au (aj 7) (au (cQ C_ (au (aj 0) (au (aj 1) (au (aj 5) (au (aj 6) aD))))) aD))) (rF C ln ld wt w told left u s8 s9 fH fG)=some (Rt ((iY (pr C) (left.filter (lX C (ln++told)))).find? (iQ C v)),.own):=by
    refine cV (ps:=[(obj C,.sh []),(cU u,.sh [7]),(iL (left.filter (lX C (ln++told))),.own)]) ?_ ?_
    .rw[bN,bN,bN,cV rfl (QW g (by lia) hr (by lia))];rfl
    .show Cp [obj C,cU u,_]=_;rw[UZ g (λx m=>hr x (ad3.mp m).1) (nd.sublist ahE) (ahn (ahb _ _) hl),ef]
   have pm:=λx=>(yk (pr:=pr C) (left.filter (lX C (ln++told)))).mem_iff (a:=x)
   cases hb:(iY (pr C) (left.filter (lX C (ln++told)))).find? (iQ C v) with
   |none=>
    rw[hb] at q1;refine#[[],i9 ((agU c1 (gU q1 (i9 rfl))).trans (by rw[acU])),.nil,(λx m=>nomatch m),.inr rfl,(λx r e=>nomatch e),(λr p s=>by
     rw[Sg hr p s] at hb;cases left with
     |nil=>rw[List.take_nil]
     |cons y l=>ext hb),v,by rw[acU];apply hv,.inr λx m _ hf=>?_]
    rw[acU] at hf;have:=ahp.mp hb x ((pm x).mpr (ad3.mpr #[m,hf]));simpa using this
   |some x=>
    rw[hb] at q1;have mf:=(pm x).mp (ag3 hb);have m:=(ad3.mp mf).1;have f:=Ym.mp (ajv hb);let#[h1,h2]:=hr x m;have hE:=(g.ed x).ed.ln;have hel:=List.length_erase_of_mem m;have hp:=List.length_pos_of_mem m;let#[t9,RD,Oi,lp]:=K9 (g:=gT (fV (gN 9) (fV (gN 10) (fV (gN 11) pU)))) (f:=nu 7 (aj 9) (aj 11)) (λv x' y z=>rF C ln ld wt w (told++[x]) (left.erase x) v (some (.int x,.own)) x' y z) (λ_ _ _ _ _=>rfl) (λv p h=>N7 rfl rfl rfl h) (E:=dO C x) (v:=u) (by have:=ku.len;lia);have st:bF (rF C ln ld wt w told left u s8 s9 fH fG)=some (.nx (rF C ln ld wt w (told++[x]) (left.erase x) (gQ u (dO C x)) (some (.int x,.own)) t9 RD Oi)):=by
     refine gU q1 (bP rfl ?_);refine sq ((Js rfl rfl (size_le (by lia))).trans rfl) ?_;refine sq ((abv rfl rfl m).trans rfl) ?_;apply xw (kr (mZ rfl rfl (BO h1 h2))) lp
    let#[ex,e,F]:=ih (told:=told++[x]) (s8:=some (.int x,.own)) (s9:=t9) (fH:=RD) (fG:=Oi) (λy my=>hr y (List.mem_of_mem_erase my)) (nd.erase x) (by lia) (by rw[abE,aea];lia) (by rw[<- afG];apply SO hv f) (λk=>by
     let#[a1,a2]:=IB (dO C x) u k (g.ed x).nd;let#[b1,b2]:=IB (dO C x) v k (g.ed x).nd;unfold gV
     by_cases mk:k∈(dO C x).map (·.1)
     .let#[p,mp,rfl]:=abG.mp mk;rw[a1 p mp rfl,b1 p mp rfl]
     .rw[a2 mk,b2 mk];apply hu k) (ku.gQ (g.ed x)) (by lia)
    have ea:told++x::ex=told++[x]++ex:=by rw[afG];rfl
    refine#[x::ex,?_,ab3.mpr #[λmx=>(nd.mem_erase_iff.mp (F.sub x mx)).1 rfl,F.nd],λy my=>(aat.mp my).elim (λe=>e ▸ m) λmy=>List.mem_of_mem_erase (F.sub y my),.inl ?_,(λy r e=>by ext e;apply#[v,hv,(ad3.mp mf).2,ajv hb]),(λr p s=>by
     rw[Sg hr p s] at hb;cases left with
     |nil=>ext hb
     |cons y l=>
      ext hb;have k:=F.pl r;rw[List.erase_cons_head,abE,aea] at k;rw[show(w-(told.length:Int)).toNat=(w-((told.length+1:Nat):Int)).toNat+1 by lia,List.take_succ_cons];apply congrArg (x::·) (k (λz m=>p z (aao _ m)) (aeh.mp s).2)),?_]
    .rw[iF,WZ c1 st,<- iF,ea];apply e
    .rw[ea];rcases F.le with h|h
     .exact h
     .rw[h,acU,abE,aea];lia
    .rw[ea];let#[v',r1,r2]:=F.run;refine#[v',r1,r2.imp id λr y my ny=>?_];apply r y (nd.mem_erase_iff.mpr #[λe=>ny (e ▸ aap),my]) λq=>ny (aao _ q)
  .rw[abS hw] at c1;apply#[[],(sq (ae2 c1) rfl).trans (by rw[acU];rfl),.nil,(λx m=>nomatch m),.inr rfl,(λx r e=>nomatch e),(λr p s=>by rw[show(w-(told.length:Int)).toNat=0 by lia,List.take_zero]),v,by rw[acU];apply hv,.inl (by rw[acU];lia)]
def abq(g:GoodC Sl C)(hb:Row C (ln++ld))(hr:Row C wt)(nd:wt.Nodup)(hw:wt.length<64)(hl:ln.length+ld.length<=100)(hv:fU [] (fX C (ln++ld))=some v):∃ex,Io [obj C,iL ln,iL ld,iL wt,.int w]=some (iL (ld++ex))/\Fl C ln ld wt w ex:=by
 have kv:=(Cv g hb (by rw[abE];lia) hv).2;have kd:Kb Sl (jS (nz v)):=#[g.sl,YD _,λk m=>kv.ks k (tW.mp (by
  let#[w,e]:=tW.mpr m;rw[R_ (by rw[MD];apply LW kv.nd)] at e;unfold nz at e;rw[F6] at e
  split at e
  .rename_i mk;have:=Nm.mp mk;cases h:cu v k with
   |none=>rw[h] at this;apply absurd rfl this
   |some y=>apply#[y,rfl]
  .cases e))]
 let#[ex,e,F]:=afD g (n:=4000) hr nd hw (by lia) hv (Tf kv.nd) kd (by lia);apply#[ex,bR rfl (gU (cB rfl vj) (gU (cB rfl vj) (gU (cV rfl (aen g hl hb hv)) e))),F]
def best:Int×Int->List (Int×Int)->Int×Int
 |p,[]=>p
 |p,q::r=>best (if p.2-p.1<q.2-q.1 then q else p) r
def pairs(f:List Int):List (Int×Int):=f.zip f.tail
def mid(f:List Int):Int:=let p:=best (f.headD 0,f.headD 0) (pairs f);(p.1+p.2) / 2
theorem B4:∀(l:List (Int×Int)) (p:Int×Int),best p l=p\/best p l∈l
 |[],p=>.inl rfl
 |q::r,p=>by
  unfold best
  by_cases h:p.2-p.1<q.2-q.1
  .rw[if_pos h];rcases B4 r q with e|e
   .rw[e];apply .inr aap
   .exact .inr (aao _ e)
  .rw[abm h];rcases B4 r p with e|e
   .exact .inl e
   .exact .inr (aao _ e)
theorem Dr:∀(l:List (Int×Int)) (p:Int×Int),p.2-p.1<=(best p l).2-(best p l).1/\∀q∈l,q.2-q.1<=(best p l).2-(best p l).1
 |[],p=>#[Int.le_refl _,λq m=>nomatch m]
 |x::r,p=>by
  unfold best
  by_cases h:p.2-p.1<x.2-x.1
  .rw[if_pos h];let#[h1,h2]:=Dr r x;refine#[by lia,λq m=>?_];rcases aat.mp m with rfl|m
   .exact h1
   .exact h2 q m
  .rw[abm h];let#[h1,h2]:=Dr r p;refine#[h1,λq m=>?_];rcases aat.mp m with rfl|m
   .lia
   .exact h2 q m
theorem Fw:∀(r:List Int) (a:Int),(∀q∈pairs (a::r),q.2-q.1<=1)->(a::r).getLastD 0<=a+r.length
 |[],a,_=>by simp
 |b::r,a,h=>by
  have h1:b-a<=1:=h (a,b) (by unfold pairs;apply aap);have h2:=Fw r b λq m=>h q (by unfold pairs at m ⊢;apply aao _ m)
  have e:(a::b::r).getLastD 0=(b::r).getLastD 0:=by simp[List.getLastD]
  rw[e,acK]
  lia
abbrev fence(ws:List Int)(e:Int):List Int:=0::(ws++[e])
def F9(m:q∈pairs f):q.1∈f/\q.2∈f:=by
 unfold pairs at m;let#[h1,h2]:=List.of_mem_zip m;apply#[h1,List.mem_of_mem_tail h2]
def acR(hw:∀x∈ws,1<=x)(hl:(ws.length:Int)<e-1):1<=mid (fence ws e):=by
 have hf:∀x∈fence ws e,0<=x:=λx m=>by
  rcases aat.mp m with rfl|m
  .exact Int.le_refl _
  .rcases abB.mp m with m|m
   .have:=hw x m;lia
   .cases aaK.mp m;lia
 obtain⟨q,m,hq⟩:∃q∈pairs (fence ws e),2<=q.2-q.1:=by
  refine aiQ λhn=>?_
  have:=Fw (ws++[e]) 0 λq m=>by
   refine aiQ λh=>hn #[q,m,by lia]
  have q1:(0::(ws++[e])).getLastD 0=e:=by rw[show(0::(ws++[e]))=(0::ws)++[e] from rfl,List.getLastD_concat]
  rw[q1,abE,aea] at this
  lia
 have hb:=(Dr (pairs (fence ws e)) ((fence ws e).headD 0,(fence ws e).headD 0)).2 q m;unfold mid;dsimp only;rcases B4 (pairs (fence ws e)) ((fence ws e).headD 0,(fence ws e).headD 0) with h|h
 .rw[h] at hb;dsimp only at hb
  lia
 .let#[h1,h2]:=F9 h;have:=hf _ h1
  lia
def QO(p:Int×Int):D:=.tup [.int p.1,.int p.2]
def rM(f:List Int)(l h:Int)(t1 t2:Tag)(s3 s4:Slot):aR:=[some (.lst (f.map D.int),.sh []),some (.int l,t1),some (.int h,t2),s3,s4]
abbrev bM:SF:=dZ (tV (e2 Dz (e2 jv (aj 4) (aj 3)) (e2 jv (aj 2) (aj 1)))) (bY (eS 1 (aj 3)) (eS 2 (aj 4))) fB
abbrev gM:GF:=gT (fV (gN 3) (fV (gN 4) pU))
theorem HU:∀(ps:List (Int×Int)) (p:Int×Int) (t1 t2:Tag) (s3 s4:Slot),∃t1' t2' ux KG,cY gM (.sh []) bM (ps.map QO) (rM f p.1 p.2 t1 t2 s3 s4)=some (.nx (rM f (best p ps).1 (best p ps).2 t1' t2' ux KG))
 |[],p,t1,t2,s3,s4=>#[t1,t2,s3,s4,rfl]
 |q::r,p,t1,t2,s3,s4=>by
  have hc:tV (e2 Dz (e2 jv (aj 4) (aj 3)) (e2 jv (aj 2) (aj 1))) (rM f p.1 p.2 t1 t2 (some (.int q.1,.own)) (some (.int q.2,.own)))=some (decide (p.2-p.1<q.2-q.1)):=rfl
  by_cases h:p.2-p.1<q.2-q.1
  .have hb:bM (rM f p.1 p.2 t1 t2 (some (.int q.1,.own)) (some (.int q.2,.own)))=some (.nx (rM f q.1 q.2 (.sh [3]) (.sh [4]) (some (.int q.1,.own)) (some (.int q.2,.own)))):=by
    unfold bM;rw[gP,hc,aa1 h,LO];rfl
   let#[a,b,c,d,hh]:=HU r q (.sh [3]) (.sh [4]) (some (.int q.1,.own)) (some (.int q.2,.own));refine#[a,b,c,d,(pA rfl hb).trans ?_];unfold best;rw[if_pos h];apply hh
  .have hb:bM (rM f p.1 p.2 t1 t2 (some (.int q.1,.own)) (some (.int q.2,.own)))=some (.nx (rM f p.1 p.2 t1 t2 (some (.int q.1,.own)) (some (.int q.2,.own)))):=by
    unfold bM;rw[gP,hc,abS h,Pz];rfl
   let#[a,b,c,d,hh]:=HU r p t1 t2 (some (.int q.1,.own)) (some (.int q.2,.own));refine#[a,b,c,d,(pA rfl hb).trans ?_];unfold best;rw[abm h];apply hh
def adU(a:Int)(r:List Int):sL (some 1) none (.lst ((a::r).map D.int))=some (.lst (r.map D.int)):=by
 show(if aK ((a::r).map D.int)=true then some (D.lst (cutD ((a::r).map D.int) (some 1) none)) else none)=_;rw[if_pos (c_ _)];have:cutD ((a::r).map D.int) (some 1) none=r.map D.int:=by
  unfold cutD;have e:HT.bB ((a::r).map D.int).length 0 (some 1)=1:=by
   have q:=HT.Ji ((a::r).map D.int).length 0 1;rw[show((1:Nat):Int)=1 from rfl] at q;rw[q,List.length_map,acK];lia
  rw[HT.JV,e,aas,List.drop_succ_cons,List.drop_zero,acK,Nat.add_sub_cancel,List.take_length]
 rw[this]
def abF(a:Int)(r:List Int):yF [.lst ((a::r).map D.int)]=some (.int (mid (a::r))):=by
 refine bR rfl ?_;show GB [some (.lst ((a::r).map D.int),.sh []),none,none,none,none]=_;unfold GB;have q1:eS 1 (e2 cC (aj 0) (eC (.int 0))) [some (.lst ((a::r).map D.int),.sh []),none,none,none,none]=some (.nx [some (.lst ((a::r).map D.int),.sh []),some (.int a,.own),none,none,none]):=by
  have hx:cC (.lst ((a::r).map D.int)) (.int 0)=some (.int a):=zh (by rw[HN (by lia) (by rw[acK];lia)];rfl) rfl;rw[kG,j8];show CG 1 _ ((cC (.lst ((a::r).map D.int)) (.int 0)).map _)=_;rw[hx];rfl
 have q2:eS 2 (aj 1) [some (.lst ((a::r).map D.int),.sh []),some (.int a,.own),none,none,none]=some (.nx (rM (a::r) a a .own (.sh [1]) none none)):=rfl;have hz:v7 (aj 0) (e1 (sL (some 1) none) (aj 0)) (rM (a::r) a a .own (.sh [1]) none none)=some ((pairs (a::r)).map QO,.sh []):=by
  unfold v7;have v0:aj 0 (rM (a::r) a a .own (.sh [1]) none none)=some (.lst ((a::r).map D.int),.sh []):=rfl;have v1:e1 (sL (some 1) none) (aj 0) (rM (a::r) a a .own (.sh [1]) none none)=some (.lst (r.map D.int),.own):=by
   rw[zS,v0];show(sL (some 1) none (.lst ((a::r).map D.int))).map _=_;rw[adU];rfl
  rw[v0,v1];dsimp only;rw[if_pos (by rw[c_,c_];rfl)];refine congrArg some (Prod.ext ?_ rfl);rw[List.zip_map,adw];rfl
 let#[t1,t2,s3,s4,hl]:=HU (pairs (a::r)) (a,a) .own (.sh [1]) none none;have hf:jc (v7 (aj 0) (e1 (sL (some 1) none) (aj 0))) gM bM (rM (a::r) a a .own (.sh [1]) none none)=some (.nx (rM (a::r) (best (a,a) (pairs (a::r))).1 (best (a,a) (pairs (a::r))).2 t1 t2 s3 s4)):=uZ hz hl;rw[iF,q1,o8,iF,q2,o8,iF];rw[hf,o8];unfold mid;rw[show((a::r).headD 0,(a::r).headD 0)=(a,a) from rfl];generalize best (a,a) (pairs (a::r))=p;have v1:aj 1 (rM (a::r) p.1 p.2 t1 t2 s3 s4)=some (.int p.1,ET 1 t1):=rfl;have v2:aj 2 (rM (a::r) p.1 p.2 t1 t2 s3 s4)=some (.int p.2,ET 2 t2):=rfl;rw[xN,j8,j8,v1,v2,xF,OL,Pu,G_,xF,NV (by lia) (by lia)];rfl
def jI:Option Int->D
 |none=>.aI
 |some b=>.int b
def endOf(size:Int):Option Int->Int
 |none=>size+1
 |some b=>b
def pick(size:Int)(bad:Option Int)(e:Int)(ws:List Int):Int:=if(bad.isNone&&!(ws.any (· == size)))=true then size else mid (fence ws e)
def mS(size:Int)(bad:Option Int)(e:Int)(ws:List Int):List Int:=dY (ws++[pick size bad e ws])
def lim(e bT:Int):Int:=if e-1<bT then e-1 else bT
def pq(size:Int)(bad:Option Int)(e bT:Int):Nat->List Int->List Int
 |0,ws=>ws
 |n+1,ws=>if(ws.length:Int)<lim e bT then pq size bad e bT n (mS size bad e ws) else ws
def OS{bad:Option Int}:(mS size bad e ws).length=ws.length+1:=by unfold mS;rw[yI,abE];rfl
def S8(b:Option Int):oz (jI b)=b.isNone:=by ext b<;>rfl
abbrev cW:TF:=tV (e2 oLt (e1 f9 (aj 5)) (e2 CZ (aj 3) (e2 jv (aj 4) (eC (.int 1)))))
abbrev bW:SF:=bY (dZ (kg (tV (e2 jf (aj 1) (eC .aI))) (tV (e2 (jl true) (aj 0) (aj 5)))) (lH 5 (aj 0)) (lH 5 (cQ yF (au (e2 gW (e2 gW (gz (au (eC (.int 0)) aD)) (aj 5)) (gz (au (aj 4) aD))) aD)))) (eS 5 (e1 mV (aj 5)))
def Dt(t:Tag):Prop:=t=.own\/t=.sh []
def rW(size:Int)(bad:Option Int)(kd:D)(bT e:Int)(t4:Tag)(ws:List Int):aR:=[some (.int size,.sh []),some (jI bad,.sh []),some (kd,.sh []),some (.int bT,.sh []),some (.int e,t4),some (.lst (ws.map D.int),.own)]
section
variable{size bT e:Int}{bad:Option Int}
def LL:cW (rW size bad kd bT e t4 ws)=some (decide ((ws.length:Int)<lim e bT)):=by
 show some (decide (((ws.map D.int).length:Int)<(if e-1<bT then e-1 else bT)))=_;rw[List.length_map];rfl
def agE:(tV (e2 (jl true) (aj 0) (aj 5))) (rW size bad kd bT e t4 ws)=some (!(ws.any (· == size))):=by
 rw[yp,j8];show Ev.kV ((jl true (.int size) (.lst (ws.map D.int))).map _)=_;rw[Ae];rfl
def VI:(kg (tV (e2 jf (aj 1) (eC .aI))) (tV (e2 (jl true) (aj 0) (aj 5)))) (rW size bad kd bT e t4 ws)=some (bad.isNone&&!(ws.any (· == size))):=by
 refine xS ?_ agE;show some (oz (jI bad))=_;rw[S8]
def MB(h:Dt t4)(x:Int):cJ (rW size bad kd bT e t4 ws) 5 (.lst ((ws++[x]).map D.int))=rW size bad kd bT e t4 (ws++[x]):=by
 rcases h with rfl|rfl<;>rfl
def aed(hl:ws.length<63):(e2 gW (e2 gW (gz (au (eC (.int 0)) aD)) (aj 5)) (gz (au (aj 4) aD))) (rW size bad kd bT e t4 ws)=some (.lst ((fence ws e).map D.int),.own):=by
 have h1:gW (.lst (([0]:List Int).map D.int)) (.lst (ws.map D.int))=some (.lst (([0]++ws).map D.int)):=CQ (by unfold PySem.sizeLine;show 1+ws.length<=_;lia);have h2:gW (.lst (([0]++ws).map D.int)) (.lst (([e]:List Int).map D.int))=some (.lst (([0]++ws++[e]).map D.int)):=CQ (by unfold PySem.sizeLine;rw[abE];show 1+ws.length+1<=_;lia);rw[j8,j8];show k2 gW ((gW (.lst (([0]:List Int).map D.int)) (.lst (ws.map D.int))).map _) _=_;rw[h1,Pu];show(gW (.lst (([0]++ws).map D.int)) (.lst (([e]:List Int).map D.int))).map _=_;rw[h2];rfl
def afe(ht:Dt t4)(hl:ws.length<63):bW (rW size bad kd bT e t4 ws)=some (.nx (rW size bad kd bT e t4 (mS size bad e ws))):=by
 have hz:ws.length<PySem.sizeLine:=by unfold PySem.sizeLine;lia
 have h1:dZ (kg (tV (e2 jf (aj 1) (eC .aI))) (tV (e2 (jl true) (aj 0) (aj 5)))) (lH 5 (aj 0)) (lH 5 (cQ yF (au (e2 gW (e2 gW (gz (au (eC (.int 0)) aD)) (aj 5)) (gz (au (aj 4) aD))) aD))) (rW size bad kd bT e t4 ws)=some (.nx (rW size bad kd bT e t4 (ws++[pick size bad e ws]))):=by
  rw[gP,VI];unfold pick
  by_cases hb:(bad.isNone&&!(ws.any (· == size)))=true
  .rw[hb,LO,if_pos rfl,Js rfl rfl hz,MB ht]
  .have ya:(bad.isNone&&!(ws.any (· == size)))=false:=by simpa using hb
   have hm:cQ yF (au (e2 gW (e2 gW (gz (au (eC (.int 0)) aD)) (aj 5)) (gz (au (aj 4) aD))) aD) (rW size bad kd bT e t4 ws)=some (.int (mid (fence ws e)),.own):=by
    rw[s_call,bN,aed hl,yT,Ck,Mp];simp only[aas,ajE];have:=abF 0 (ws++[e]);rw[aas] at this;rw[this];rfl
   rw[ya,Pz,abm aa3,Js hm rfl hz,MB ht]
 unfold bW;rw[iF,h1,o8,kG,zS];show CG 5 _ ((mV (.lst ((ws++[pick size bad e ws]).map D.int))).map _)=_;rw[aee (by rw[abE];show ws.length+1<64;lia)];rfl
theorem Ri(ht:Dt t4)(hh:bT<=60):∀(n:Nat) (ws:List Int) (m:Nat),bT-ws.length<=n->n<m->iD cW bW m (rW size bad kd bT e t4 ws)=some (.nx (rW size bad kd bT e t4 (pq size bad e bT n ws)))
 |_,_,0,_,h=>absurd h (Nat.not_lt_zero _)
 |0,ws,m+1,h,_=>by
  have:¬((ws.length:Int)<lim e bT):=by unfold lim;split<;>lia
  rw[iD,LL,abS this];rfl
 |n+1,ws,m+1,h,hm=>by
  rw[iD,LL];unfold pq
  by_cases hc:(ws.length:Int)<lim e bT
  .have h1:(ws.length:Int)<bT:=by unfold lim at hc;split at hc<;>lia
   rw[aa1 hc,if_pos hc];dsimp only;rw[afe ht (by lia)];apply Ri ht hh n (mS size bad e ws) m (by rw[OS];lia) (by lia)
  .rw[abS hc,abm hc]
end
def lW(e:Int)(ks:List Int):List Int:=ks.filter λk=>decide (k<e)
def kI(e:Int):D->Option D
 |.int i=>if decide (i<e)=true then some (.int i) else none
 |_=>none
theorem Jr(e:Int):∀ks:List Int,(ks.map D.int).filterMap (kI e)=(lW e ks).map D.int
 |[]=>rfl
 |k::r=>by
  unfold lW;rw[aas,aeX,ajk];have hk:kI e (D.int k)=if decide (k<e)=true then some (D.int k) else none:=rfl
  by_cases h:decide (k<e)=true
  .rw[hk,if_pos h,if_pos h,aas];dsimp only;rw[Jr e r];rfl
  .rw[hk,abm h,abm h];apply Jr e r
def agq{js:List (Option Nat)}(hi:it Y=some (ks.map D.int,t))(hj:jw js Y=[none,some (.int e,.sh [])])(hl:ks.length<64):
  iW js it (gN 0) (tV (e2 oLt (aj 0) (aj 1))) (aj 0) Y=some (.lst ((lW e ks).map D.int),.own):=by
 have hc:=jE (g:=gN 0) (tt:=tV (e2 oLt (aj 0) (aj 1))) (te:=aj 0) (k:=kI e) hi (by rw[List.length_map];unfold PySem.sizeLine;lia) (λd m=>by
  let#[i,mi,rfl]:=abG.mp m;rw[hj];show _=some (if decide (i<e)=true then some (D.int i) else none)
  by_cases h:decide (i<e)=true
  .rw[if_pos h];refine n9 rfl ?_ rfl rfl;show some (decide (i<e))=_;rw[h]
  .rw[abm h];refine D3 rfl ?_;show some (decide (i<e))=_;rw[agN.mpr h])
 rw[hc,Jr]
def UJ{bad:Option Int}(h0:aj 0 Y=some (.int size,.sh []))(h1:aj 1 Y=some (jI bad,.sh [])):∃t,Dt t/\oS (tV (e2 jf (aj 1) (eC .aI))) (e2 iN (aj 0) (eC (.int 1))) (aj 1) Y=some (.int (endOf size bad),t):=by
 have hc:tV (e2 jf (aj 1) (eC .aI)) Y=some bad.isNone:=by
  rw[yp,j8,h1,G_,xF,Xn,S8];rfl
 cases bad with
 |none=>apply#[.own,.inl rfl,by rw[Mm (by rw[hc];rfl),j8,h0,G_,xF,OL];rfl]
 |some b=>apply#[.sh [],.inr rfl,by rw[N5 (by rw[hc];rfl),h1];rfl]
def W(size:Int)(bad:Option Int)(ks:List Int)(bT:Int):List Int:=pq size bad (endOf size bad) bT 100 (lW (endOf size bad) ks)
def Va{bad:Option Int}(hh:bT<=60)(hl:ks.length<64)(kd:D)(hk:iu (aj 2) [some (.int size,.sh []),some (jI bad,.sh []),some (kd,.sh []),some (.int bT,.sh []),none,none]=some (ks.map D.int,.sh []))
  (YN:∀t,iu (aj 2) [some (.int size,.sh []),some (jI bad,.sh []),some (kd,.sh []),some (.int bT,.sh []),some (.int (endOf size bad),t),none]=some (ks.map D.int,.sh [])) :
  Gv [.int size,jI bad,kd,.int bT]=some (.lst ((W size bad ks bT).map D.int)):=by
 refine bR rfl ?_;show IA [some (.int size,.sh []),some (jI bad,.sh []),some (kd,.sh []),some (.int bT,.sh []),none,none]=_;unfold IA;let#[t4,ht,h1]:=UJ (Y:=[some (.int size,.sh []),some (jI bad,.sh []),some (kd,.sh []),some (.int bT,.sh []),none,none]) rfl rfl;have q1:eS 4 (oS (tV (e2 jf (aj 1) (eC .aI))) (e2 iN (aj 0) (eC (.int 1))) (aj 1)) [some (.int size,.sh []),some (jI bad,.sh []),some (kd,.sh []),some (.int bT,.sh []),none,none]=some (.nx [some (.int size,.sh []),some (jI bad,.sh []),some (kd,.sh []),some (.int bT,.sh []),some (.int (endOf size bad),t4),none]):=by
  rw[kG,h1];rcases ht with rfl|rfl<;>rfl
 have q2:eS 5 (iW [none,some 4] (iu (aj 2)) (gN 0) (tV (e2 oLt (aj 0) (aj 1))) (aj 0)) [some (.int size,.sh []),some (jI bad,.sh []),some (kd,.sh []),some (.int bT,.sh []),some (.int (endOf size bad),t4),none]=some (.nx (rW size bad kd bT (endOf size bad) t4 (lW (endOf size bad) ks))):=by
  rw[kG,agq (YN t4) rfl hl];rfl
 have q3:=Ri (size:=size) (bad:=bad) (kd:=kd) (e:=endOf size bad) ht hh 100 (lW (endOf size bad) ks) 4000 (by lia) (by lia);rw[iF,q1,o8,iF,q2,o8,iF,q3,o8];rfl
def UT{bad:Option Int}(hh:bT<=60)(hl:ks.length<64):Gv [.int size,jI bad,.lst (ks.map D.int),.int bT]=some (.lst ((W size bad ks bT).map D.int)):=Va hh hl _ rfl λ_=>rfl
theorem Nl{bad:Option Int}(hh:bT<=60):∀(n:Nat) (ws:List Int),ws.length<64->(pq size bad e bT n ws).length<64
 |0,ws,h=>h
 |n+1,ws,h=>by
  unfold pq
  split
  .rename_i hc;refine Nl hh n _ ?_;rw[OS];unfold lim at hc
   split at hc<;>lia
  .exact h
def Yq{bad:Option Int}(hh:bT<=60)(hl:ks.length<64):(W size bad ks bT).length<64:=Nl hh _ _ (ahn (ahb _ _) hl)
structure nW(e:Int)(ws:List Int):Prop where
 so:ws.Pairwise (· < ·)
 bd:∀x∈ws,1<=x/\x<e
theorem between:∀{f:List Int}{q:Int×Int}{x:Int},f.Pairwise (· < ·)->q∈pairs f->x∈f->x<=q.1\/q.2<=x
 |[],q,x,_,m,_=>by ext m
 |[a],q,x,_,m,_=>by ext m
 |a::b::r,q,x,hp,m,mx=>by
  let#[h1,h2]:=aeh.mp hp;have hs:pairs (a::b::r)=(a,b)::pairs (b::r):=rfl;rw[hs] at m;rcases aat.mp m with hq|m'
  .subst hq;rcases aat.mp mx with hx|uR
   .exact .inl (by show x<=a;lia)
   .rcases aat.mp uR with hx|mx2
    .exact .inr (by show b<=x;lia)
    .have:=(aeh.mp h2).1 x mx2;apply .inr (by show b<=x;lia)
  .rcases aat.mp mx with hx|uR
   .have:=h1 q.1 (F9 m').1;apply .inl (by lia)
   .exact between h2 m' uR
def US(h:nW e ws)(he:1<=e):(fence ws e).Pairwise (· < ·):=by
 refine aeh.mpr #[λx m=>?_,List.pairwise_append.mpr #[h.so,ai1 _ _,λx m y my=>?_]]
 .rcases abB.mp m with m|m
  .have:=h.bd x m;lia
  .cases aaK.mp m;lia
 .cases aaK.mp my;apply(h.bd x m).2
def ah7(h:nW e ws)(hl:(ws.length:Int)<e-1):mid (fence ws e)<e/\mid (fence ws e)∉ws:=by
 have hf:=US h (by lia);obtain⟨q,m,hq⟩:∃q∈pairs (fence ws e),2<=q.2-q.1:=by
  refine aiQ λhn=>?_
  have:=Fw (ws++[e]) 0 λq m=>by
   refine aiQ λh=>hn #[q,m,by lia]
  have q1:(0::(ws++[e])).getLastD 0=e:=by rw[show(0::(ws++[e]))=(0::ws)++[e] from rfl,List.getLastD_concat]
  rw[q1,abE,aea] at this
  lia
 have hb:=(Dr (pairs (fence ws e)) ((fence ws e).headD 0,(fence ws e).headD 0)).2 q m;unfold mid;dsimp only;rcases B4 (pairs (fence ws e)) ((fence ws e).headD 0,(fence ws e).headD 0) with h'|h'
 .rw[h'] at hb;dsimp only at hb
  lia
 .generalize best ((fence ws e).headD 0,(fence ws e).headD 0) (pairs (fence ws e))=p at hb h';have h2:p.2<=e:=by
   have:=(F9 h').2;rcases aat.mp this with z|z
   .lia
   .rcases abB.mp z with z|z
    .have:=(h.bd _ z).2;lia
    .rw[aaK.mp z];apply Int.le_refl _
  refine#[by lia,λmx=>?_];rcases between hf h' (aao _ (aaZ _ mx)) with z|z<;>lia
section
variable{size bT e:Int}{bad:Option Int}
def ac2(h:nW e ws)(he:e=endOf size bad)(hl:(ws.length:Int)<e-1):1<=pick size bad e ws/\pick size bad e ws<e/\pick size bad e ws∉ws:=by
 unfold pick
 split
 .rename_i hc;cases bad with
  |none=>
   have he:e=size+1:=he;refine#[by lia,by lia,λm=>?_];have:ws.any (· == size)=true:=adY.mpr #[size,m,aij size];rw[this] at hc;ext hc
  |some b=>ext hc
 .let#[h1,h2]:=ah7 h hl;apply#[acR (λx m=>(h.bd x m).1) hl,h1,h2]
def ZS(h:nW e ws)(he:e=endOf size bad)(hl:(ws.length:Int)<e-1):nW e (mS size bad e ws)/\∀x∈ws,x∈mS size bad e ws:=by
 let#[p1,p2,p3]:=ac2 h he hl;have hp:(mS size bad e ws).Perm (ws++[pick size bad e ws]):=vL _;have hn:(mS size bad e ws).Nodup:=by
  refine hp.nodup_iff.mpr (ac7.mpr #[h.so.imp λcI=>Int.ne_of_lt cI,ab3.mpr #[(λm=>by ext m),acv],λa ma b mb e=>?_]);cases aaK.mp mb;apply p3 (e ▸ ma)
 refine#[#[?_,λx m=>?_],λx m=>hp.mem_iff.mpr (aaZ _ m)]
 .have hs:(mS size bad e ws).Pairwise (·<=·):=Gm _;apply(List.pairwise_and_iff.mpr #[hs,hn]).imp λh=>by have h1:=h.1;have h2:=h.2;lia
 .rcases abB.mp (hp.mem_iff.mp m) with m|m
  .exact h.bd x m
  .rw[aaK.mp m];apply#[p1,p2]
theorem UB(he:e=endOf size bad):∀(n:Nat) (ws:List Int),nW e ws->nW e (pq size bad e bT n ws)/\∀x∈ws,x∈pq size bad e bT n ws
 |0,ws,h=>#[h,λx m=>m]
 |n+1,ws,h=>by
  unfold pq
  split
  .rename_i hc;have hl:(ws.length:Int)<e-1:=by unfold lim at hc;split at hc<;>lia
   let#[a,b]:=ZS h he hl;let#[c,d]:=UB he n (mS size bad e ws) a;apply#[c,λx m=>d x (b x m)]
  .exact#[h,λx m=>m]
end
def V_{bad:Option Int}(h:ks.Pairwise (· < ·))(h1:∀x∈ks,1<=x):nW (endOf size bad) (W size bad ks bT)/\∀x∈ks,x<endOf size bad->x∈W size bad ks bT:=by
 have hi:nW (endOf size bad) (lW (endOf size bad) ks):=#[h.sublist ahE,λx m=>let q:=ad3.mp m;#[h1 x q.1,aaY q.2]]
 let#[a,b]:=UB rfl 100 _ hi;apply#[a,λx m hx=>b x (ad3.mpr #[m,aa1 hx])]
def qD(hl:ds.length+1=n)(h:b (uS N d0 ds)=some (.nx Y))(h0:Y[0]? = some (some (d1,.own))):runM n N b d0 ds=some (.aI,d1):=by unfold runM;rw[if_pos hl,h];dsimp only;rw[h0]
def hs(h:List Str):D:=.lst (h.map D.str)
def tob(n t:Int)(h:List Str):D:=.ins "Tally" [("need",.int n),("tries",.int t),("heard",hs h)]
def Se(h:1<=n/\n<=t/\t<=20):aaz [.int n,.int t]=some (.bl true):=
 bR rfl (cH (zu (b:=true) (cV rfl (Bj.trans (by rw[aa1 (show(1:Int)<=t by omega),aa1 h.2.2];rfl))) (cV rfl (Bj.trans (by rw[aa1 h.1,aa1 h.2.1];rfl)))))
def SI(h:1<=n/\n<=t/\t<=20):rL (.ins "Tally" []) [.int n,.int t]=some (.aI,tob n t []):=
 qD rfl (bP (kN (bJ (cV (ps:=[(.int n,.sh []),(.int t,.sh [])]) rfl (Se h)))) rfl) rfl
def acj:BZ (hs h) (.str w)=some (.int (k9 w h)):=by
 show(kJ (h.map D.str)).map (λys=>D.int (k9 w ys))=_;rw[Nu];rfl
def aif:f9 (hs h)=some (.int h.length):=by unfold hs;rw[Cs,List.length_map]
def word(n t:Int)(h:List Str):Str:=if(k9 "yes" h:Int) >= n then "yes" else if(k9 "no" h:Int) >= n then "no" else if(h.length:Int) >= t then "unsure" else "more"
def GK:K0 [tob n t h]=some (.str (word n t h)):=by
 have c1:∀w:Str,tV (e2 As (e2 BZ (bA "Tally" "heard" (aj 0)) (eC (.str w))) (bA "Tally" "need" (aj 0))) [some (tob n t h,.sh [])]=some (decide ((k9 w h:Int) >= n)):=λw=>bJ (aF (aF rfl rfl acj) rfl rfl)
 have c2:tV (e2 As (e1 f9 (bA "Tally" "heard" (aj 0))) (bA "Tally" "tries" (aj 0))) [some (tob n t h,.sh [])]=some (decide ((h.length:Int) >= t)):=bJ (aF (cB rfl aif) rfl rfl);refine bR rfl ?_;unfold word
 by_cases a1:(k9 "yes" h:Int) >= n
 .rw[if_pos a1];apply pX ((c1 _).trans (by rw[aa1 a1])) (i9 rfl)
 .rw[abm a1];refine bP ((c1 _).trans (by rw[abS a1])) ?_
  by_cases a2:(k9 "no" h:Int) >= n
  .rw[if_pos a2];apply pX ((c1 _).trans (by rw[aa1 a2])) (i9 rfl)
  .rw[abm a2];refine bP ((c1 _).trans (by rw[abS a2])) ?_
   by_cases a3:(h.length:Int) >= t
   .rw[if_pos a3];apply pX (c2.trans (by rw[aa1 a3])) (i9 rfl)
   .rw[abm a3];apply bP (c2.trans (by rw[abS a3])) rfl
theorem Rp:∀h:List Str,aK (h.map D.str)=true
 |[]=>rfl
 |x::h=>by rw[aas];unfold aK;rw[Rp h];rfl
def agK(hw:w∈(["yes","no","unsure"]:List Str))(hm:word n t h="more")(hl:h.length<=100):EO (tob n t h) [.str w]=some (.str (word n t (h++[w])),tob n t (h++[w])):=by
 have m1:∀h:List Str,cR "Tally" "word" K0 (aj 0) aD [some (tob n t h,.own),some (.str w,.sh [])]=some (.str (word n t h),.own):=λh=>lV rfl rfl rfl GK
 refine jX rfl (bP ?_ (bP (bJ (aF (m1 h) rfl (by rw[hm];rfl))) (sq (Y':=[some (tob n t (h++[w]),.own),some (.str w,.sh [])]) (iS ?_) ?_)))
 .simp only[aat,acO,afH] at hw;rcases hw with rfl|rfl|rfl<;>rfl
 .refine(Cc rfl rfl rfl (by rw[Rp,List.length_map,aa1 (size_le (by lia))];rfl)).trans ?_;unfold tob hs;rw[adK];rfl
 .unfold uL;rw[m1 (h++[w])];rfl
def Yz(hm:word n t h="more"):(h.length:Int)<t:=by
 unfold word at hm
 split at hm
 .exact absurd hm (by decide +kernel)
 .split at hm
  .exact absurd hm (by decide +kernel)
  .split at hm
   .exact absurd hm (by decide +kernel)
   .omega
abbrev Ta:=List (List Int×List Str)
structure G where
 w:Int
 h:Int
 n:Int
 t:Int
 C:List Ch
 ln:List Int
 ld:List Int
 gr:List (Key×D)
 ta:Ta
 lk:List (List Int)
 ht:Bool
 gw:List (List Int)
 en:List D
 an:Int
 br:Int
def tD(l:List Int):D:=.tup (l.map D.int)
def kL(l:List Int):List Key:=l.map Sum.inl
def pQ(n t:Int)(ta:Ta):List (List Key×D):=ta.map λp=>(kL p.1,tob n t p.2)
def gF(g:G):List (Str×D):=[("numbers",.tup [.int g.w,.int g.h,.int g.n,.int g.t]),("known",obj g.C),("on_line",iL g.ln),("laid_ones",iL g.ld),("grounds",.bZ g.gr),("tallies",.eV (pQ g.n g.t g.ta)),("looks",.lst (cT g.lk)),("halted",.bl g.ht),("grown",.lst (cT g.gw)),("ended",.lst g.en),("answers",.int g.an),("breaks",.int g.br)]
def gD(g:G):D:=.ins "Gate" (gF g)
def BJ(h:fo Y=some (obj C,t))(ha:fa Y=some (x,t2))(hF:F [obj C,x]=some d)(hm:(mm==("entries":Str))=false:=by decide):cR "Changes" mm F fo (au fa aD) Y=some (d,.own):=
 lV (ps:=[(x,t2)]) h (Aw hm) (by rw[bN,ha,yT,Ck]) hF
def fl(h:fo Y=some (gD g,t))(e:(gF g).lookup f=some d:=by rfl):bA "Gate" f fo Y=some (d,k7 t):=by
 unfold bA;rw[h];show(if("Gate":Str)="Gate" then((gF g).lookup f).map _ else none)=_;rw[if_pos rfl,e];rfl
def nA(h:fo Y=some (gD g,t))(hF:F [gD g]=some d)(hm:(gF g).lookup mm=none:=by rfl):cR "Gate" mm F fo aD Y=some (d,.own):=lV h hm rfl hF
def qw(h:fo Y=some (gD g,t))(ha:fa Y=some (x,t2))(hF:F [gD g,x]=some d)(hm:(gF g).lookup mm=none:=by rfl):cR "Gate" mm F fo (au fa aD) Y=some (d,.own):=
 lV (ps:=[(x,t2)]) h hm (by rw[bN,ha,yT,Ck]) hF
def d_(gr:List (Key×D))(x:Int):Bool:=(bC gr (Sum.inl x:Key)).isSome
abbrev nV(g:G)(x:Int):Bool:=d_ g.gr x
def Bd(g:G)(x:Int):Bool:=!decide (x∈g.ln)&&(!decide (x∈g.ld)&&!nV g x)
def N2(h:f Y=some (.int x,t))(h2:f2 Y=some (iL l,t2)):e2 (jl true) f f2 Y=some (.bl (!decide (x∈l)),.own):=
 aF h h2 (by rw[<- Dp];apply Ae)
def aaL:XH [gD g,.int x]=some (.bl (Bd g x)):=
 bR rfl (cH (zu (N2 rfl (fl rfl)) (zu (N2 rfl (fl rfl)) (aF rfl (fl rfl) rfl))))
def wl(g:G):List Int:=(cz 1 g.C.length).filter (Bd g)
def mE:(cz a n).length=n:=by unfold cz;rw[List.length_map,ajd]
def DY(hR:g.C.length<=100):CL [gD g]=some (iL (wl g)):=by
 have hi:qO (eC (.int 1)) (e2 iN (cR "Changes" "many" IM (bA "Gate" "known" (aj 0)) aD) (eC (.int 1))) [some (gD g,.sh [])]=some ((cz 1 g.C.length).map D.int,.own):=by
  rw[CO rfl (aF (lV (fl rfl) rfl rfl (TJ g.C)) rfl rfl) (pS (by lia) (by lia)) (pS (by lia) (by lia)),show((g.C.length:Int)+1-1).toNat=g.C.length by lia]
 apply bR rfl (cH (y9 hi (by rw[mE];lia) (λx=>rfl) (λx mx=>bJ (qw rfl rfl aaL))))
def sV:x∈wl g↔(1<=x/\x<=(g.C.length:Int))/\x∉g.ln/\x∉g.ld/\nV g x=false:=by
 unfold wl;rw[ad3,kF];unfold Bd;simp only[aaF,Bool.not_eq_true',decide_eq_false_iff_not];apply and_congr_left λ_=>by lia
def vN:Row g.C (wl g):=λx m=>(sV.mp m).1
def abw:(wl g).Pairwise (· < ·):=(OO 1 _).sublist ahE
def JP:(wl g).Nodup:=abw.imp (λh=>by lia)
def OX:(wl g).length<=g.C.length:=by
 have:=ahb (Bd g) (cz 1 g.C.length)
 rwa [mE] at this
def gv{κ α:Type}[DecidableEq κ](es:List (κ×α))(k:κ):Option α:=(es.find? λkv=>decide (kv.1=k)).map (·.2)
def gp{κ α:Type}[DecidableEq κ](es:List (κ×α))(k:κ)(d:α):List (κ×α):=if(es.any λkv=>decide (kv.1=k))=true then es.map (λkv=>if kv.1=k then(kv.1,d) else kv) else es++[(k,d)]
def Zz[DecidableEq κ]{es:List (κ×α)}:gv (gp es k d) k=some d:=by
 unfold gv gp
 by_cases h:(es.any λkv=>decide (kv.1=k))=true
 .rw[if_pos h]
  induction es with
  |nil=>ext h
  |cons a r ih=>
   rw[aas]
   by_cases z:a.1=k
   .rw[if_pos z,ahG (by simpa using z)];rfl
   .rw[abm z,afP (by simpa using z)];apply ih (by rw[aiY,abS z,Bool.false_or] at h;apply h)
 .rw[abm h,List.find?_append];have:es.find? (λkv=>decide (kv.1=k))=none:=by
   rw[ahp];intro x m e;apply h (adY.mpr #[x,m,e])
  rw[this];simp
def ae1[DecidableEq κ]{es:List (κ×α)}(h:j≠k):gv (gp es k d) j=gv es j:=by
 unfold gv gp
 congr 1
 split
 .rename_i hh;clear hh
  induction es with
  |nil=>rfl
  |cons a r ih=>
   rw[aas]
   by_cases z:a.1=k
   .rw[if_pos z];have:¬a.1=j:=λe=>h (e.symm.trans z)
    rw[afP (by simpa using this),afP (by simpa using this)];apply ih
   .rw[abm z]
    by_cases y:a.1=j
    .rw[ahG (by simpa using y),ahG (by simpa using y)]
    .rw[afP (by simpa using y),afP (by simpa using y)];apply ih
 .rw[List.find?_append,afP (by simpa using λe:k=j=>h e.symm)];simp
def WQ{κ:Type}{k:κ}[DecidableEq κ]{es:List (κ×D)}:(bC (putD es k d) k)=some d:=Zz
def ach{κ:Type}{j k:κ}[DecidableEq κ]{es:List (κ×D)}(h:j≠k):bC (putD es k d) j=bC es j:=ae1 h
def rK{gr:List (Key×D)}:d_ (putD gr (Sum.inl x) d) y=(decide (y=x)||d_ gr y):=by
 unfold d_
 by_cases h:y=x
 .rw[h,WQ,aa1 rfl];rfl
 .rw[ach (λe=>by injection e with e;apply h e),abS h];rfl
def v_:aK ds=true↔∀d∈ds,aB d=true:=by
 induction ds with
 |nil=>apply#[λ_ d m=>(nomatch m),λ_=>rfl]
 |cons a r ih=>
  unfold aK;rw[aaF,ih];apply#[λh d m=>(aat.mp m).elim (λe=>e ▸ h.1) (h.2 d),λh=>#[h a aap,λd m=>h d (aao _ m)]]
def WV[DecidableEq κ]{es:List (κ×D)}(h:aK (es.map (·.2))=true)(hd:aB d=true):aK ((putD es k d).map (·.2))=true:=by
 rw[v_] at h ⊢;intro y m;let#[kv,mk,rfl]:=abG.mp m;unfold putD at mk
 split at mk
 .let#[x,mx,rfl]:=abG.mp mk
  split
  .exact hd
  .exact h _ (abG.mpr #[x,mx,rfl])
 .rcases abB.mp mk with mk|mk
  .exact h _ (abG.mpr #[kv,mk,rfl])
  .cases aaK.mp mk;apply hd
def MC[DecidableEq κ]{es:List (κ×α)}:(gp es k d).map (·.1)=if k∈es.map (·.1) then es.map (·.1) else es.map (·.1)++[k]:=by
 unfold gp
 by_cases h:(es.any λkv=>decide (kv.1=k))=true
 .rw[if_pos h,if_pos (by let#[x,m,e]:=adY.mp h;apply abG.mpr #[x,m,aaY e]),adw];refine agL λa _=>?_
  show(if a.1=k then(a.1,d) else a).1=a.1
  split<;>rfl
 .rw[abm h,abm (λm=>by let#[x,m,e]:=abG.mp m;apply h (adY.mpr #[x,m,aa1 e])),adK];rfl
def EJ[DecidableEq κ]{es:List (κ×α)}(h:(es.map (·.1)).Nodup):((gp es k d).map (·.1)).Nodup:=by
 rw[MC]
 split
 .exact h
 .rename_i hk;apply ac7.mpr #[h,by simp,λa ma b mb e=>by cases aaK.mp mb;apply hk (e ▸ ma)]
structure Gr(n:Nat)(gr:List (Key×D)):Prop where
 im:aK (gr.map (·.2))=true
 nd:(gr.map (·.1)).Nodup
 ks:∀k∈gr.map (·.1),∃x:Int,k=Sum.inl x/\x∈cz 1 n
 tp:∀p∈gr,(nq p.2).isSome=true
def PZ[DecidableEq κ]{es:List (κ×α)}(m:q∈gp es k d):q∈es\/q=(k,d):=by
 unfold gp at m
 split at m
 .let#[p,mp,rfl]:=abG.mp m
  split
  .rename_i e;apply .inr (by rw[e])
  .exact .inl mp
 .exact(abB.mp m).imp id aaK.mp
def Gr.put(h:Gr n gr)(hx:x∈cz 1 n)(hd:aB d=true)(ht:(nq d).isSome=true:=by rfl):Gr n (putD gr (Sum.inl x) d):=#[WV h.im hd,EJ h.nd,λk m=>by
 have m:k∈(gp gr (Sum.inl x) d).map (·.1):=m;rw[MC] at m
 split at m
 .exact h.ks k m
 .rcases abB.mp m with m|m
  .exact h.ks k m
  .exact#[x,aaK.mp m,hx],λp m=>(PZ m).elim (h.tp p) λe=>by rw[e];apply ht]
def LA(h:d_ gr x=false):putD gr (Sum.inl x) d=gr++[(Sum.inl x,d)]:=by
 unfold putD;rw[abm];intro q;let#[kv,m,e]:=adY.mp q;unfold d_ bC at h;rw[aht] at h;have:=(List.find?_isSome (p:=λkv:Key×D=>decide (kv.1=Sum.inl x))).mpr #[kv,m,e];rw[h] at this;ext this
def cnt(gr:List (Key×D)):Nat:=(xB "look" gr).length
def lD:List (Key×D)->List Int
 |[]=>[]
 |(.inl x,_)::r=>x::lD r
 |_::r=>lD r
theorem uN:∀{gr},(∀k∈gr.map (·.1),∃x:Int,k=Sum.inl x/\x∈cz 1 n)->gr.map (·.1)=(lD gr).map Sum.inl/\i_ gr=some (lD gr)
 |[],_=>#[rfl,rfl]
 |(k,d)::r,h=>by
  let#[x,e,_]:=h k aap;let#[a,b]:=uN λk m=>h k (aao _ m)
  have e:=e;subst e;refine#[by rw[aas,a];rfl,?_];show(i_ r).map _=_;rw[b];rfl
def afA{l:List Int}:(l.map (Sum.inl:Int->Key)).Nodup↔l.Nodup:=by
 unfold List.Nodup;rw[aiV];apply#[λh=>h.imp λq e=>q (by rw[e]),λh=>h.imp λq e=>q (ajz e)]
def Gr.nK{gr:List (Key×D)}(h:Gr n gr):(lD gr).Nodup:=afA.mp ((uN h.ks).1 ▸ h.nd)
def Gr.mem{gr:List (Key×D)}(h:Gr n gr):x∈lD gr↔d_ gr x=true:=by
 have e:=(uN h.ks).1;unfold d_ bC;rw[aht,List.find?_isSome];constructor
 .intro m;have:(Sum.inl x:Key)∈gr.map (·.1):=e ▸ abG.mpr #[x,m,rfl];let#[kv,mk,q]:=abG.mp this;apply#[kv,mk,aa1 q]
 .rintro⟨kv,mk,q⟩
  have:(Sum.inl x:Key)∈gr.map (·.1):=abG.mpr #[kv,mk,aaY q];rw[e] at this;let#[y,my,q]:=abG.mp this;apply ajz q ▸ my
def Gr.bd{gr:List (Key×D)}(h:Gr n gr)(m:d_ gr x=true):x∈cz 1 n:=by
 have:(Sum.inl x:Key)∈gr.map (·.1):=(uN h.ks).1 ▸ abG.mpr #[x,h.mem.mpr m,rfl];let#[y,e,q]:=h.ks _ this;apply ajz e ▸ q
def Gr.len{gr:List (Key×D)}(h:Gr n gr):gr.length<=n:=by
 have:=sub_len h.nK λx m=>h.bd (h.mem.mp m)
 rw[mE] at this;have e:=congrArg List.length (uN h.ks).1;rw[List.length_map,List.length_map] at e
 lia
abbrev vO(ta:Ta)(l:List Int):Option (List Str):=gv ta l
def wd(g:G)(l:List Int):Str:=match vO g.ta l with
 |none=>"more"
 |some h=>word g.n g.t h
theorem vW:∀l:List Int,iB (l.map D.int)=some (kL l)
 |[]=>rfl
 |x::l=>by
  rw[aas];unfold iB;rw[vW l];rfl
theorem CC:∀{a b},kL a=kL b->a=b
 |[],[],_=>rfl
 |[],_::_,e=>by ext e
 |_::_,[],e=>by ext e
 |x::a,y::b,e=>by
  injection e with e1 e2;ext e1;rw[CC e2]
section
variable[DecidableEq κ][DecidableEq Ma]{φ:κ->Ma}{ψ:α->D}{k:κ}
theorem HY(yz:∀a b,φ a=φ b->a=b):∀es:List (κ×α),bC (es.map λp=>(φ p.1,ψ p.2)) (φ k)=(gv es k).map ψ
 |[]=>rfl
 |p::r=>by
  have ih:=HY yz r;unfold bC gv at ih ⊢;rw[aas,adE,adE,show decide ((φ p.1,ψ p.2).1=φ k)=decide (p.1=k) from ajl.mpr #[yz _ _,λe=>by rw[<- e]]];cases decide (p.1=k) with
  |true=>rfl
  |false=>apply ih
def RJ(yz:∀a b,φ a=φ b->a=b):putD (es.map λp=>(φ p.1,ψ p.2)) (φ k) (ψ d)=(gp es k d).map λp=>(φ p.1,ψ p.2):=by
 unfold putD gp;rw[aiX,show es.any ((λkv:Ma×D=>decide (kv.1=φ k)) ∘ λp=>(φ p.1,ψ p.2))=es.any λp=>decide (p.1=k) from congrArg es.any (funext λp=>ajl.mpr #[yz _ _,λe=>by rw[<- e]])]
 split
 .rw[adw,adw];refine agL λp _=>?_
  simp only[Function.comp]
  by_cases z:p.1=k
  .rw[if_pos (by rw[z]),if_pos z]
  .rw[abm λq=>z (yz _ _ q),abm z]
 .rw[adK];rfl
end
def Uu(ta:Ta):bC (pQ n t ta) (kL l)=(vO ta l).map (tob n t):=HY (λ_ _=>CC) ta
def Ez:De [gD g,tD l]=some (.str (wd g l)):=by
 have v:=Uu (n:=g.n) (t:=g.t) (l:=l) g.ta;have uF:tV (e2 (JW false) (aj 1) (bA "Gate" "tallies" (aj 0))) [some (gD g,.sh []),some (tD l,.sh [])]=some (bC (pQ g.n g.t g.ta) (kL l)).isSome:=bJ (aF rfl (fl rfl) (by
  show(iB (l.map D.int)).map _=_;rw[vW];rfl))
 refine bR rfl (cH ?_);unfold wd;rw[v] at uF;cases e:vO g.ta l with
 |none=>rw[e] at uF;apply N5 uF
 |some h=>
  rw[e] at uF v;refine(Mm uF).trans (lV (t:=.sh []) ?_ rfl rfl GK);unfold IP;rw[fl rfl,show aj 1 [some (gD g,.sh []),some (tD l,.sh [])]=some (tD l,.sh []) from rfl];show(iB (l.map D.int)).bind _=_;rw[vW,ac1,v];rfl
def iP(g:G)(p:Nat):List Int:=g.ln++g.ld.take p
def f_look{p:Nat}(hp:p<=g.ld.length)(hl:g.ln.length+g.ld.length<=1000):xA [gD g,.int p]=some (tD (iP g p)):=by
 have hc:wC (bA "Gate" "laid_ones" (aj 0)) (aj 1) [some (gD g,.sh []),some (.int p,.sh [])]=some (iL (g.ld.take p),.own):=by
  unfold wC;rw[fl rfl,show aj 1 [some (gD g,.sh []),some (.int p,.sh [])]=some (.int p,.sh []) from rfl];show(if aK (g.ld.map D.int)=true then some (D.lst (cutD (g.ld.map D.int) none (some (p:Int))),Tag.own) else none)=_;rw[if_pos (c_ _),Sf (by rw[List.length_map];apply hp),<- List.map_take];rfl
 have h1:=ahs (i:=p) (l:=g.ld);apply bR rfl (cH (cB (aF (fl rfl) hc (CQ (by rw[afm];lia))) Jf))
def bw(s:Str):Bool:=(["no","unsure"]:List Str).any (· == s)
def rS(g:G)(p:Nat):Bool:=bw (wd g (iP g p))
def ic(g:G):Option Nat:=((List.range g.ld.length).map (· + 1)).find? (rS g)
def bD:Option Nat->D
 |none=>.aI
 |some p=>.int p
theorem UD(hl:g.ln.length+g.ld.length<=1000):∀{ps:List Nat} {s1},(∀p∈ps,p<=g.ld.length)->∃qU,
  cY (gN 1) (.sh []) (dZ (tV (e2 (sY false) (cR "Gate" "word_of" De (aj 0) (au (cR "Gate" "look_of" xA (aj 0) (au (aj 1) aD)) aD)) (eC (.tup ((["no","unsure"]:List Str).map D.str))))) (tR 1) fB) (ps.map λp:Nat=>D.int p) [some (gD g,.sh []),s1]=some (match ps.find? (rS g) with|none=>.nx [some (gD g,.sh []),qU]|some p=>.rt (.int p))
 |[],s1,_=>#[s1,rfl]
 |p::ps,s1,h=>by
  let#[a,e]:=UD hl (λq m=>h q (aao _ m));have ht:tV (e2 (sY false) (cR "Gate" "word_of" De (aj 0) (au (cR "Gate" "look_of" xA (aj 0) (au (aj 1) aD)) aD)) (eC (.tup ((["no","unsure"]:List Str).map D.str)))) [some (gD g,.sh []),some (.int p,.sh [])]=some (rS g p):=
   bJ (aF (qw rfl (qw rfl rfl (f_look (h p aap) hl)) Ez) rfl rfl)
  refine#[a,?_];rw[adE];cases eb:rS g p with
  |true=>
   rw[eb] at ht;apply OT (aP:=[some (gD g,.sh []),some (.int p,.sh [])]) rfl (by rw[gP,ht];rfl)
  |false=>
   rw[eb] at ht;apply(pA (aP:=[some (gD g,.sh []),some (.int p,.sh [])]) rfl (by rw[gP,ht];rfl)).trans e
def ahC(n:Nat):(cz 1 n).map D.int=((List.range n).map (· + 1)).map λp:Nat=>D.int p:=by
 unfold cz;rw[adw,adw];refine agL λi _=>?_
 show D.int (1+(i:Int))=D.int ((i+1:Nat):Int);rw[show(1+(i:Int))=((i+1:Nat):Int) by lia]
def E4:p∈(List.range n).map (· + 1)↔1<=p/\p<=n:=by
 rw[abG];apply#[λ⟨i,m,e⟩=>by have:=ajD.mp m;lia,λh=>#[p-1,ajD.mpr (by lia),by lia]]
def DG{g:G}(hl:g.ln.length+g.ld.length<=900):By [gD g]=some (bD (ic g)):=by
 let#[a,e]:=UD (by lia) (ps:=(List.range g.ld.length).map (· + 1)) (λp m=>(E4.mp m).2);have hi:qO (eC (.int 1)) (e2 iN (e1 f9 (bA "Gate" "laid_ones" (aj 0))) (eC (.int 1))) [some (gD g,.sh []),none]=some (((List.range g.ld.length).map (· + 1)).map λp:Nat=>D.int p,.own):=by
  rw[CO rfl (aF (cB (fl rfl) (by show some (D.int (g.ld.map D.int).length)=_;rw[List.length_map])) rfl rfl) (pS (by lia) (by lia)) (pS (by lia) (by lia)),show((g.ld.length:Int)+1-1).toNat=g.ld.length by lia,ahC]
 refine bR rfl ?_;unfold ic;cases eb:((List.range g.ld.length).map (· + 1)).find? (rS g) with
 |none=>rw[eb] at e;apply sq (xw hi e) rfl
 |some p=>rw[eb] at e;apply i9 (Mj hi e)
def AG(h:ic g=some p):1<=p/\p<=g.ld.length/\rS g p=true/\∀q,1<=q->q<p->rS g q=false:=by
 let#[h1,as,bs,e,h2]:=List.find?_eq_some_iff_append.mp h;have hp:=E4.mp (show p∈(List.range g.ld.length).map (· + 1) from e ▸ aaM _ aap);refine#[hp.1,hp.2,h1,λq q1 q2=>?_];have so:((List.range g.ld.length).map (· + 1)).Pairwise (· < ·):=aiV.mpr (List.pairwise_lt_range.imp λh=>by lia);have mq:q∈(List.range g.ld.length).map (· + 1):=E4.mpr (by lia);rw[e] at so mq;rcases abB.mp mq with m|m
 .simpa using h2 q m
 .rcases aat.mp m with m|m
  .lia
  .have:=(aeh.mp (List.pairwise_append.mp so).2.1).1 q m;lia
theorem Gx:∀a b:List Int,PyData.eqvAll (a.map PyData.int) (b.map PyData.int)=decide (a=b)
 |[],[]=>rfl
 |[],_::_=>rfl
 |_::_,[]=>rfl
 |x::a,y::b=>by
  simp only[aas,PyData.eqvAll,PyData.eqv,Gx a b]
  by_cases h:x=y<;>by_cases k:a=b<;>simp[h,k]
def Pd(l:List Int):py (tD l)=.tuple (l.map PyData.int):=by unfold tD;unfold py;rw[zC]
def aiv(l:List Int):cX (tD l)=true:=by
 unfold cX;have c1:fN (tD l)=true:=by unfold tD;unfold fN;apply D5 _
 rw[c1,Pd];have c2:(PyData.tuple (l.map PyData.int)).canLay0=true:=by simp only[PyData.canLay0];apply AB l
 have c3:(PyData.tuple (l.map PyData.int)).depth<=40:=by simp only[PyData.depth,depthAll_ints];lia
 rw[c2,aa1 c3];rfl
def any_rows(l:List Int)(L:List (List Int)):((eZ (cT L)).any λy=>PyData.eqv y (py (tD l)))=decide (l∈L):=by
 rw[JC,Pd,aiX];have:((λy=>PyData.eqv y (PyData.tuple (l.map PyData.int))) ∘ jR)=λr=>decide (r=l):=funext λr=>by
  simp only[Function.comp,jR,PyData.eqv,Gx]
 rw[this]
 by_cases h:l∈L
 .rw[aa1 h];apply adY.mpr #[l,h,by simp]
 .rw[abS h,agN];intro e;let#[y,my,ey]:=adY.mp e;apply h ((aaY ey) ▸ my)
def AJ(neg:Bool)(l:List Int)(L:List (List Int)):wu neg (tD l) (.lst (cT L))=some (.bl (if neg=true then !decide (l∈L) else decide (l∈L))):=by
 show(if(cX (tD l)&&cX (.lst (cT L)))=true then some (D.bl (if neg=true then !(eZ (cT L)).any λy=>PyData.eqv y (py (tD l)) else(eZ (cT L)).any λy=>PyData.eqv y (py (tD l)))) else none)=_;rw[aiv,adP,any_rows];rfl
def kp(g:G)(l:List Int):Bool:=decide (l∈g.lk)&&(wd g l == "more")
def adM:aax [gD g,tD l]=some (.bl (kp g l)):=
 bR rfl (cH (zu (aF rfl (fl rfl) (AJ false l g.lk)) (aF (qw rfl rfl Ez) rfl rfl)))
def lA(g:G):List Int:=(cz 1 g.ld.length).filter λx=>kp g (iP g x.toNat)
def x_(g:G):Option Int:=(ic g).map λp:Nat=>(p:Int)
def xC(g:G):List Int:=W g.ld.length (x_ g) (lA g) g.h
def zR(g:G):List (List Int):=(xC g).map λp=>iP g p.toNat
def ae4(o:Option Nat):bD o=jI (o.map λp:Nat=>(p:Int)):=by ext o<;>rfl
def A6:(lA g).Pairwise (· < ·)/\(∀x∈lA g,1<=x/\x<=g.ld.length)/\(lA g).length<=g.ld.length:=by
 refine#[(OO 1 _).sublist ahE,λx m=>by have:=kF.mp (ad3.mp m).1;lia,?_];have:=ahb (λx=>kp g (iP g x.toNat)) (cz 1 g.ld.length)
 rwa [mE] at this
def eo(g:G):Int:=endOf g.ld.length (x_ g)
def R5:nW (eo g) (xC g)/\(∀p∈lA g,p<eo g->p∈xC g):=
 V_ A6.1 (λx m=>(A6.2.1 x m).1)
def ND:1<=eo g/\eo g<=g.ld.length+1:=by
 unfold eo x_;cases e:ic g with
 |none=>show 1<=(g.ld.length:Int)+1/\(g.ld.length:Int)+1<=_;lia
 |some p=>have:=AG e;show 1<=(p:Int)/\(p:Int)<=_;lia
def ahS(hl:g.ln.length+g.ld.length<=900)(h6:g.ld.length<64)(hh:g.h<=60):abI [gD g]=some (.lst (cT (zR g))):=by
 have hi:qO (eC (.int 1)) (e2 iN (aj 1) (eC (.int 1))) [some (gD g,.sh []),some (.int g.ld.length,.own),none]=some ((cz 1 g.ld.length).map D.int,.own):=by
  rw[CO rfl rfl (pS (by lia) (by lia)) (pS (by lia) (by lia)),show((g.ld.length:Int)+1-1).toNat=g.ld.length by lia]
 have look:∀{x:Int},1<=x->x<=g.ld.length->cR "Gate" "look_of" xA (aj 1) (au (aj 0) aD) [some (.int x,.sh []),some (gD g,.sh [])]=some (tD (iP g x.toNat),.own):=λ{x} h1 h2=>
  qw rfl rfl (by
   have:=f_look (g:=g) (p:=x.toNat) (by lia) (by lia)
   rwa [show((x.toNat:Nat):Int)=x by lia] at this)
 refine bR rfl (gU (cB (fl rfl) (by show some (D.int (g.ld.map D.int).length)=_;rw[List.length_map])) (gU (y9 hi (by rw[mE];lia) (λx=>rfl) (λx mx=>by
  have hx:=kF.mp mx;apply bJ (qw rfl (look (by lia) (by lia)) adM))) (cH ?_)))
 have hw:cQ Gv (au (aj 1) (au (cR "Gate" "bad" By (aj 0) aD) (au (aj 2) (au (e2 cC (bA "Gate" "numbers" (aj 0)) (eC (.int 1))) aD)))) [some (gD g,.sh []),some (.int g.ld.length,.own),some (iL (lA g),.own)]=some (iL (xC g),.own):=
  cV (by
   rw[bN,bN,nA rfl (DG hl)];rfl) (by
   have:=UT (size:=g.ld.length) (bad:=x_ g) (ks:=lA g) hh (by have:=A6 (g:=g).2.2;lia);simp only[aas,ajE];rw[ae4];apply this)
 have hc:=jE (js:=[none,some 0]) (g:=gN 0) (tt:=nH) (k:=λd=>match d with | .int p=>some (tD (iP g p.toNat)) | _=>none) (kr hw) (by rw[List.length_map];apply size_le (by have:=Yq (size:=g.ld.length) (bad:=x_ g) (ks:=lA g) hh (by have:=A6 (g:=g).2.2;lia);show(W _ _ _ _).length<=_;lia)) (λd m=>by
  let#[x,mx,rfl]:=abG.mp m;have:=(R5).1.bd x mx;have:=ND (g:=g);apply uo rfl rfl (look (by lia) (by lia)))
 rw[ae7] at hc;have e:(xC g).filterMap ((λd=>match d with|.int p=>some (tD (iP g p.toNat))|_=>none) ∘ D.int)=cT (zR g):=by
  unfold zR cT;rw[adw];apply lS (λp:Int=>tD (iP g p.toNat)) _
 rw[e] at hc;apply hc
def pO(h:fv Y=some (d,t))(h0:Y[0]? = some (some (gD g,.own)))(ho:(jy t||aB d)=true)(e:eF f d (gF g)=gF g'):jL (xP 0 "Gate" f fv) Y=some (.nx (cJ Y 0 (gD g'))):=by
 refine iS ?_;unfold xP;rw[h,h0];show(if("Gate":Str)="Gate"/\(gF g).length<1000/\(jy t||aB d)=true then some (Out.nx (cJ Y 0 (.ins "Gate" (eF f d (gF g))))) else none)=_;rw[if_pos #[rfl,by show 12<1000;decide,ho],e];rfl
def xo(h0:Y[0]? = some (some (gD g,.own)))(h:F (gD g) []=some (r,gD g'))(hm:(gF g).lookup m=none:=by rfl):xO 0 "Gate" m F aD Y=some (r,cJ Y 0 (gD g')):=by
 unfold xO;rw[h0];show(if("Gate":Str)="Gate"/\(gF g).lookup m=none/\apart 0 []=true then(F (gD g) []).map _ else none)=_;rw[if_pos #[rfl,hm,rfl],h];rfl
def Be(h:fv Y=some (d,t))(hk:fk Y=some (.int x,t2))(h0:Y[0]? = some (some (gD g,.own)))(hi:aB d=true)(hG:aK (g.gr.map (·.2))=true)(hl:g.gr.length<=100):uP 0 "Gate" "grounds" fk fv Y=some (.nx (cJ Y 0 (gD { g with gr:=putD g.gr (Sum.inl x) d }))):=by
 unfold uP;rw[h,h0,hk];show(if("Gate":Str)="Gate" then(if(aB d&&aK (g.gr.map (·.2))&&decide (g.gr.length<sizeLine))=true then some (Out.nx (cJ Y 0 (.ins "Gate" (eF "grounds" (.bZ (putD g.gr (Sum.inl x) d)) (gF g))))) else none) else none)=_;rw[if_pos rfl,hi,hG,aa1 (size_le (by lia)),if_pos (show(true&&true&&true)=true from rfl)];rfl
def nM(h:f Y=some (d,t)):jL (eS i f) Y=some (.nx (iI Y i d t)):=iS (by unfold eS;rw[h])
def qH(h:tf Y=some true)(h2:sf Y=r):dZ tf sf sg Y=r:=by rw[gP,h];apply h2
def Rg(h:tf Y=some false)(h2:sg Y=r):dZ tf sf sg Y=r:=by rw[gP,h];apply h2
def QN:d7 ((x::r).map D.int) 0=some (.int x):=by
 unfold d7 lR;rw[if_pos (by omega),if_pos (by rw[List.length_map,acK];omega)];rfl
def gone(C:List Ch)(gr:List (Key×D))(x:Int):List Int:=(lean (sec C) x).filter (d_ gr)
def gu(C:List Ch)(gr:List (Key×D))(x:Int):List (Key×D):=match gone C gr x with
 |[]=>gr
 |y::_=>putD gr (Sum.inl x) (.tup [.str "leans",.int y])
theorem JX{g:G}(gc:GoodC Sl g.C):∀{l} {gr} {s1 s2},Row g.C l->Gr g.C.length gr->∃qU zq,cY (gN 1) (.sh []) (bY (eS 2 (iW [none,some 0] (iu (cR "Changes" "leans_of" GY (bA "Gate" "known" (aj 0)) (au (aj 1) aD))) (gN 0) (tV (e2 (pZ false) (aj 0) (bA "Gate" "grounds" (aj 1)))) (aj 0))) (dZ (um (aj 2)) (uP 0 "Gate" "grounds" (aj 1) (h_ (au (eC (.str "leans")) (au (e2 cC (aj 2) (eC (.int 0))) aD)))) fB)) (l.map D.int) [some (gD { g with gr:=gr },.own),s1,s2]=some (.nx [some (gD { g with gr:=l.foldl (gu g.C) gr },.own),qU,zq])
 |[],gr,s1,s2,_,_=>#[s1,s2,rfl]
 |x::l,gr,s1,s2,h,k=>by
  have hx:=h x aap;have hc:iW [none,some 0] (iu (cR "Changes" "leans_of" GY (bA "Gate" "known" (aj 0)) (au (aj 1) aD))) (gN 0) (tV (e2 (pZ false) (aj 0) (bA "Gate" "grounds" (aj 1)))) (aj 0) [some (gD { g with gr:=gr },.own),some (.int x,.sh []),s2]=some (iL (gone g.C gr x),.own):=
   y9 (kr (BJ (fl rfl) rfl (Qt hx.1 hx.2))) (by have:=gc.few x;lia) (λy=>rfl) (λy _=>bJ (aF rfl (fl rfl) rfl))
  cases e:gone g.C gr x with
  |nil=>
   let#[a,b,ih]:=JX gc (λy m=>h y (aao _ m)) k;refine#[a,b,(pA rfl (gU (e ▸ hc) rfl)).trans (ih.trans ?_)];rw[afa,show gu g.C gr x=gr by unfold gu;rw[e]]
  |cons y r=>
   have k':Gr g.C.length (gu g.C gr x):=by unfold gu;rw[e];apply k.put (kF.mpr (by lia)) rfl
   let#[a,b,ih]:=JX gc (λy m=>h y (aao _ m)) k';refine#[a,b,(pA rfl (gU (e ▸ hc) (qH rfl ((Be (d:=.tup [.str "leans",.int y]) (t:=.own) ?_ rfl rfl rfl k.im (by have:=k.len;have:=gc.ln;show gr.length<=100;lia)).trans ?_)))).trans ih]
   .rw[p_,bN,bN,aF rfl rfl (zh QN rfl)];rfl
   .unfold gu;rw[e];rfl
def tY(g:G):G:={ g with gr:=(wl g).foldl (gu g.C) g.gr }
def af5(gc:GoodC Sl g.C)(k:Gr g.C.length g.gr):Ku (gD g) []=some (.aI,gD (tY g)):=by
 let#[a,b,e]:=JX gc vN k;apply qD rfl (iS (xw (kr (nA rfl (DY (by have:=gc.ln;lia)))) e)) rfl
theorem MQ:∀{l:List Int} {gr},Gr n gr->(∀x∈l,x∈cz 1 n)->Gr n (l.foldl (gu C) gr)/\(∀x,d_ gr x=true->d_ (l.foldl (gu C) gr) x=true)/\(∀x,d_ (l.foldl (gu C) gr) x=true->d_ gr x=true\/x∈l)
 |[],gr,k,_=>#[k,λ_ h=>h,λ_ h=>.inl h]
 |x::l,gr,k,h=>by
  have k1:Gr n (gu C gr x)/\(∀y,d_ gr y=true->d_ (gu C gr x) y=true)/\∀y,d_ (gu C gr x) y=true->d_ gr y=true\/y=x:=by
   unfold gu
   split
   .exact#[k,λ_ h=>h,λ_ h=>.inl h]
   .refine#[k.put (h x aap) rfl,λy q=>by rw[rK,q,Bool.or_true],λy q=>?_];rw[rK,ajc,aiU] at q;apply q.symm
  let#[a,b,c]:=MQ k1.1 λy m=>h y (aao _ m)
  refine#[a,λy q=>b y (k1.2.1 y q),λy q=>?_];rcases c y q with q|q
  .exact(k1.2.2 y q).imp id λe=>by rw[e];apply aap
  .exact .inr (aao _ q)
theorem O2:∀{l:List Int} {gr},l.Nodup->(∀x∈l,d_ gr x=false)->gr <+: l.foldl (gu C) gr
 |[],gr,_,_=>ajo _
 |x::l,gr,nd,h=>by
  let#[n1,n2]:=ab3.mp nd;have h1:gr <+: gu C gr x/\∀y∈l,d_ (gu C gr x) y=false:=by
   unfold gu
   split
   .exact#[ajo _,λy m=>h y (aao _ m)]
   .refine#[by rw[LA (h x aap)];apply List.prefix_append _ _,λy m=>?_];rw[rK,h y (aao _ m),abS (show ¬y=x from λe=>n1 (e ▸ m))];rfl
  apply h1.1.trans (O2 n2 h1.2)
def lay_ints(l:List Int):cX (iL l)=true:=by
 unfold cX;have c1:fN (iL l)=true:=by unfold iL;unfold fN;apply D5 _
 have c0:py (iL l)=.list (l.map PyData.int):=by unfold iL;unfold py;rw[zC]
 rw[c1,c0];have c2:(PyData.list (l.map PyData.int)).canLay0=true:=by simp only[PyData.canLay0];apply AB l
 have c3:(PyData.list (l.map PyData.int)).depth<=40:=by simp only[PyData.depth,depthAll_ints];lia
 rw[c2,aa1 c3];rfl
def VX(a b:List Int):PyData.eqv (py (iL a)) (py (iL b))=decide (a=b):=by
 have c:∀l,py (iL l)=.list (l.map PyData.int):=λl=>by unfold iL;unfold py;rw[zC]
 rw[c,c];simp only[PyData.eqv,Gx]
def neI(a b:List Int):kc (iL a) (iL b)=some (.bl (!decide (a=b))):=by
 unfold kc;rw[lay_ints,lay_ints,VX];rfl
def slots(C:List Ch):List Int:=C.flatMap λc=>c.2.2.map (·.1)
structure Gd(g:G):Prop where
 w1:1<=g.w/\g.w<=16
 h1:1<=g.h/\g.h<=8
 nt:1<=g.n/\g.n<=g.t/\g.t<=20
 gc:GoodC (slots g.C) g.C
 row:Row g.C (g.ln++g.ld)
 nd:(g.ln++g.ld).Nodup
 zY:(g.ld.length:Int)<=g.w
 nN:∀x∈g.ln++g.ld,nV g x=false
 gr:Gr g.C.length g.gr
 run:∃v,fU [] (fX g.C (g.ln++g.ld))=some v
def Gd.len(k:Gd g):g.ln.length+g.ld.length<=60:=by
 have:=sub_len k.nd λx m=>kF.mpr (show 1<=x/\x<1+(g.C.length:Int) by have:=k.row x m;lia)
 rw[mE,abE] at this;have:=k.gc.ln
 lia
theorem JA:∀{a b} {v},(∃w,fU v (fX C (a++b))=some w)->∃w,fU v (fX C a)=some w
 |[],b,v,_=>#[v,rfl]
 |x::a,b,v,#[w,h]=>by
  have h:(if bad v (dO C x)=[] then fU (gQ v (dO C x)) (fX C (a++b)) else none)=some w:=h;show ∃w,(if bad v (dO C x)=[] then fU (gQ v (dO C x)) (fX C a) else none)=some w
  by_cases hb:bad v (dO C x)=[]
  .rw[if_pos hb] at h ⊢;apply JA #[w,h]
  .rw[abm hb] at h;ext h
def Gd.cut(k:Gd g){gr:List (Key×D)}(hp:ld <+: g.ld)(hg:Gr g.C.length gr)(hd:∀x∈g.ln++ld,d_ gr x=false):Gd { g with ld:=ld,gr:=gr }:=by
 let#[r,e]:=hp;have ea:g.ln++g.ld=(g.ln++ld)++r:=by rw[<- e,afG]
 refine#[k.w1,k.h1,k.nt,k.gc,λx m=>k.row x (by rw[ea];apply aaZ _ m),?_,?_,hd,hg,JA (by rw[<- ea];apply k.run)]
 .have:=k.nd;rw[ea] at this;apply(ac7.mp this).1
 .have:=k.zY;rw[<- e,abE] at this
  lia
def ne1:kc (bD o) (.int 1)=some (.bl (!decide (o=some 1))):=by
 cases o with
 |none=>kernel_rfl
 |some p=>
  show(if(cX (.int p)&&cX (.int 1))=true then some (D.bl (!PyData.eqv (py (.int p)) (py (.int 1)))) else none)=_;have e:cX (.int (p:Int))=true:=by unfold cX;simp[fN,py,PyData.canLay0,PyData.depth]
  have e1:cX (.int 1)=true:=by unfold cX;simp[fN,py,PyData.canLay0,PyData.depth]
  rw[e,e1];simp only[py,PyData.eqv,agD,if_true]
  by_cases h:p=1
  .subst h;rfl
  .rw[abS (λz=>h (acq z)),show(((p:Int)==1)=false) from aei.mpr (by lia)]
def PN(hl:g.ln.length+g.ld.length<=900):tV (e2 kc (cR "Gate" "bad" By (aj 0) aD) (eC (.int 1))) (some (gD g,.own)::s)=some (!decide (ic g=some 1)):=
 bJ (aF (nA rfl (DG hl)) rfl ne1)
def Q_(hl:g.ln.length+g.ld.length<=900)(h:ic g≠some 1):Qq (gD g) []=some (.bl false,gD g):=by
 have ht:=PN hl (s:=[none]);rw[abS h] at ht;apply jX rfl (pX ht (i9 rfl))
def wW(g:G):D:=.tup [.str "look",tD g.ln,tD (iP g 1),.str (wd g (iP g 1))]
def SS:aB (wW g)=true:=by
 unfold wW tD;simp only[aB,aK,c_,agD]
def xV(g:G)(x:Int):G:={ g with ld:=[],gr:=putD g.gr (Sum.inl x) (wW g) }
def My(k:Gd g)(h:ic g=some 1)(hx:g.ld=x::r):Qq (gD g) []=some (.bl true,gD (xV g x)):=by
 have hl:=k.len;have ht:=PN (g:=g) (by lia) (s:=[none]);rw[aa1 h] at ht;have h1:cR "Gate" "look_of" xA (aj 0) (au (eC (.int 1)) aD) [some (gD g,.own),none]=some (tD (iP g 1),.own):=qw rfl rfl (f_look (by rw[hx,acK];lia) (by lia));have e1:∃t,h_ (au (eC (.str "look")) (au (e1 yD (bA "Gate" "on_line" (aj 0))) (au (aj 1) (au (cR "Gate" "word_of" De (aj 0) (au (aj 1) aD)) aD)))) [some (gD g,.own),some (tD (iP g 1),.own)]=some (wW g,t):=by
  rw[p_,bN,bN,bN,bN,cB (fl rfl) Jf,qw rfl rfl Ez];apply#[_,rfl]
 let#[t,e1]:=e1;apply jX rfl (bP ht (sq (nM h1) (sq (iS (Be e1 (aF (fl rfl) rfl (zh (by rw[hx];apply QN) rfl)) rfl SS k.gr.im (by have:=k.gr.len;have:=k.gc.ln;lia))) (sq (pO rfl rfl rfl rfl) rfl))))
def TH:Ev.um (bA "Gate" "laid_ones" (aj 0)) (some (gD g,.own)::s)=some (!g.ld.isEmpty):=by
 unfold Ev.um;rw[fl rfl];cases g.ld<;>rfl
def Ua(h:g.ld≠[]):FH (gD g) []=some (.bl false,gD g):=by
 have ht:=TH (g:=g) (s:=[none,none,none]);rw[show g.ld.isEmpty=false from List.isEmpty_eq_false_iff.mpr h] at ht;apply jX rfl (pX ht (i9 rfl))
def Jo(l:List Int):aB (tK l)=true:=by ext l<;>rfl
def qg(C:List Ch)(u:lM)(gr:List (Key×D))(x:Int):List (Key×D):=putD gr (Sum.inl x) (.tup [.str "unfit",tK (bad u (dO C x))])
def aar(g:GoodC Sl C)(x:Int):OJ [dS (nz v),eL (dO C x)]=some (tK (bad (jS (nz v)) (dO C x))):=
 bR rfl (cH (cV (ps:=[(cU (jS (nz v)),.own),(eL (dO C x),.sh [])]) (by rw[bN,bN,cB rfl M_];rfl) (Ir (g.ed x).ed (by lia) D.lst rfl)))
theorem Uo{g:G}(gc:GoodC Sl g.C):∀{l} {gr} {s3},Row g.C l->Gr g.C.length gr->∃ux,cY (gN 3) (.sh [1]) (uP 0 "Gate" "grounds" (aj 3) (h_ (au (eC (.str "unfit")) (au (cQ OJ (au (aj 2) (au (cR "Changes" "edits_of" DC (bA "Gate" "known" (aj 0)) (au (aj 3) aD)) aD))) aD)))) (l.map D.int) [some (gD { g with gr:=gr },.own),some (iL N,.lk),some (dS (nz v),.own),s3]=some (.nx [some (gD { g with gr:=l.foldl (qg g.C (jS (nz v))) gr },.own),some (iL N,.lk),some (dS (nz v),.own),ux])
 |[],gr,s3,_,_=>#[s3,rfl]
 |x::l,gr,s3,h,k=>by
  have hx:=h x aap;let#[a,ih]:=Uo gc (gr:=qg g.C (jS (nz v)) gr x) (λy m=>h y (aao _ m)) (k.put (kF.mpr (by lia)) (by simp only[aB,aK,Jo,agD]));refine#[a,(pA (aP:=[some (gD { g with gr:=gr },.own),some (iL N,.lk),some (dS (nz v),.own),some (.int x,.sh [1])]) rfl ((Be (g:={ g with gr:=gr }) (t:=.own) ?_ rfl rfl (by simp only[aB,aK,Jo,agD]) k.im (by have:=k.len;have:=gc.ln;show gr.length<=100;lia)).trans rfl)).trans ih];rw[p_,bN,bN,cV (by rw[bN,bN,BJ (fl rfl) rfl (BO hx.1 hx.2)];rfl) (aar gc x)];rfl
def bq(g:G):List Int:=(wl g).filter (lX g.C g.ln)
def aeD(k:Gd g)(h:g.ld=[]):∃u v,fU [] (fX g.C g.ln)=some v/\(∀E,bad u E=bad v E)/\FH (gD g) []=some (.bl (!decide (bq g=[])),gD { g with gr:=(bq g).foldl (qg g.C u) g.gr }):=by
 have hl:=k.len;have gl:=k.gc.ln;have ht:=TH (g:=g) (s:=[none,none,none]);rw[h] at ht;let#[v,hv]:=k.run;rw[h,acU] at hv;have hw:=OX (g:=g);have h1:cQ C_ (au (bA "Gate" "known" (aj 0)) (au (bA "Gate" "on_line" (aj 0)) (au (gz aD) (au (cR "Gate" "waiting" CL (aj 0) aD) aD)))) [some (gD g,.own),none,none,none]=some (iL (bq g),.own):=
  cV (by rw[bN,bN,bN,bN,nA rfl (DY (by lia))];rfl) (by
   have:=QW k.gc (a:=g.ln) (b:=[]) (by simp;lia) vN (by lia);rw[acU] at this;apply this)
 have hs:=Cv k.gc (λx m=>k.row x (aaZ _ m)) (by lia) hv;have h2:cR "Gate" "sheet" T7 (aj 0) aD [some (gD g,.own),some (iL (bq g),.own),none,none]=some (dS (nz v),.own):=nA rfl (bR rfl (cH (cV rfl hs.1)));let#[s3,lp]:=Uo k.gc (λx m=>vN x (ad3.mp m).1) k.gr;refine#[jS (nz v),v,hv,λE=>Pc (Tf hs.2.nd) E,jX rfl (bP ht (sq (nM h1) (sq (nM h2) (sq (Y':=[some (gD { g with gr:=(bq g).foldl (qg g.C (jS (nz v))) g.gr },.own),some (iL (bq g),.own),some (dS (nz v),.own),s3]) (iS ((uZ (kr rfl) lp).trans rfl)) ?_))))];unfold uL;have:e2 kc (aj 1) (gz aD) [some (gD { g with gr:=(bq g).foldl (qg g.C (jS (nz v))) g.gr },.own),some (iL (bq g),.own),some (dS (nz v),.own),s3]=some (.bl (!decide (bq g=[])),.own):=aF (d2:=iL []) rfl rfl (neI _ _);rw[this];rfl
def JL(hl:g.ln.length+g.ld.length<=900):tV (e2 jf (cR "Gate" "bad" By (aj 0) aD) (eC .aI)) (some (gD g,.own)::s)=some (ic g).isNone:=
 bJ (aF (nA rfl (DG hl)) rfl (by cases ic g<;>rfl))
def Cz(h:f Y=some (r,[some (gD g',.own)])):vY f [0] Y=some (.rt (.tup [r,gD g'])):=by
 unfold vY;rw[h];rfl
def SX(h:f Y=some (.bl false,Y'))(h2:f2 Y'=some (.bl b,aQ)):vn f f2 Y=some (.bl b,aQ):=by
 unfold vn;rw[h];dsimp only;rw[h2]
def Rn(h:f Y=some (.bl true,Y')):vn f f2 Y=some (.bl true,Y'):=by
 unfold vn;rw[h]
def j9(g:G)(ex:List Int):G:={ g with ld:=g.ld++ex }
def YI(k:Gd g)(F:Fl g.C g.ln g.ld (wl g) g.w ex):Gd (j9 g ex):=by
 refine#[k.w1,k.h1,k.nt,k.gc,λx m=>?_,?_,?_,λx m=>?_,k.gr,let#[v,h,_]:=F.run;#[v,h]]
 .have m:x∈g.ln++(g.ld++ex):=m;rw[<- afG] at m;apply(abB.mp m).elim (k.row x) λm=>vN (g:=g) x (F.sub x m)
 .show(g.ln++(g.ld++ex)).Nodup;rw[<- afG];refine ac7.mpr #[k.nd,F.nd,λa ma b mb e=>?_];have:=sV.mp (F.sub b mb);apply(abB.mp ma).elim (λm=>this.2.1 (e ▸ m)) λm=>this.2.2.1 (e ▸ m)
 .show(((g.ld++ex).length:Nat):Int)<=g.w;rcases F.le with q|q
  .exact q
  .rw[q,acU];apply k.zY
 .have m:x∈g.ln++(g.ld++ex):=m;rw[<- afG] at m;apply(abB.mp m).elim (k.nN x) λm=>(sV.mp (F.sub x m)).2.2.2
def VM(k:Gd g)(hb:ic g=some 1)(hx:g.ld=x::r):l8 (gD g) []=some (.bl true,gD (xV g x)):=by
 have hl:=k.len;have ht:=JL (g:=g) (by lia) (s:=[]);rw[hb] at ht;apply jX rfl (bP ht (Cz (Rn (xo rfl (My k hb hx)))))
def Yy(k:Gd g)(hb:ic g=some p)(hp:p≠1):l8 (gD g) []=some (.bl false,gD g):=by
 have hl:=k.len;have ht:=JL (g:=g) (by lia) (s:=[]);have hm:=AG hb;have kK:g.ld≠[]:=λe=>by rw[e] at hm;simp at hm;lia
 have hn:ic g≠some 1:=by rw[hb];apply λz=>hp (acq z)
 rw[hb] at ht;apply jX rfl (bP ht (Cz (SX (xo rfl (Q_ (by lia) hn)) (xo rfl (Ua kK)))))
def adu(k:Gd g)(hb:ic g=none):∃ex,Fl g.C g.ln g.ld (wl g) g.w ex/\Gd (j9 g ex)/\(ic (j9 g ex)≠some 1->(g.ld++ex≠[]->l8 (gD g) []=some (.bl false,gD (j9 g ex)))/\
  (g.ld++ex=[]->∃u v,fU [] (fX g.C g.ln)=some v/\(∀E,bad u E=bad v E)/\l8 (gD g) []=some (.bl (!decide (bq g=[])),gD { g with gr:=(bq g).foldl (qg g.C u) g.gr })))/\(∀x r,g.ld++ex=x::r->ic (j9 g ex)=some 1->l8 (gD g) []=some (.bl true,gD (xV (j9 g ex) x))):=by
 have hl:=k.len;have gl:=k.gc.ln;have ht:=JL (g:=g) (by lia) (s:=[]);rw[hb] at ht;let#[v,hv]:=k.run;have aiJ:=OX (g:=g);let#[ex,hf,F]:=abq k.gc k.row vN JP (by lia) (by lia) hv;have hf:cQ Io (au (bA "Gate" "known" (aj 0)) (au (bA "Gate" "on_line" (aj 0)) (au (bA "Gate" "laid_ones" (aj 0)) (au (cR "Gate" "waiting" CL (aj 0) aD) (au (e2 cC (bA "Gate" "numbers" (aj 0)) (eC (.int 0))) aD))))) [some (gD g,.own)]=some (iL (g.ld++ex),.own):=
  cV (ps:=[(obj g.C,.sh [0]),(iL g.ln,.sh [0]),(iL g.ld,.sh [0]),(iL (wl g),.own),(.int g.w,.own)]) (by rw[bN,bN,bN,bN,nA rfl (DY (by lia))];rfl) hf
 have k1:=YI k F;have z_:=k1.len;have st:jL (xP 0 "Gate" "laid_ones" (cQ Io (au (bA "Gate" "known" (aj 0)) (au (bA "Gate" "on_line" (aj 0)) (au (bA "Gate" "laid_ones" (aj 0)) (au (cR "Gate" "waiting" CL (aj 0) aD) (au (e2 cC (bA "Gate" "numbers" (aj 0)) (eC (.int 0))) aD))))))) [some (gD g,.own)]=some (.nx [some (gD (j9 g ex),.own)]):=pO hf rfl rfl rfl;refine#[ex,F,k1,λh1=>?_,λx r e h1=>jX rfl (sq (qH ht st) (Cz (Rn (xo rfl (My k1 h1 e)))))];have Nj:∀b g',FH (gD (j9 g ex)) []=some (.bl b,gD g')->l8 (gD g) []=some (.bl b,gD g'):=λb g' h=>jX rfl (sq (qH ht st) (Cz (SX (xo rfl (Q_ (by lia) h1)) (xo rfl h))))
 refine#[λhe=>Nj _ _ (Ua he),λhe=>?_];have e1:j9 g ex=g:=by
  unfold j9;rw[he,<- (agI.mp he).1]
 let#[u,v1,a,b,h]:=aeD k1 he;rw[e1] at a h;apply#[u,v1,a,b,Nj _ _ (by rw[e1];apply h)]
def CM(g:G):G:={ g with lk:=zR g }
abbrev cS:aR->Option (Bool×aR):=xq (k8 (tV (bA "Gate" "halted" (aj 0)))) (tZ (xO 0 "Gate" "put_out_more" l8 aD))
def L8:k8 (tV (bA "Gate" "halted" (aj 0))) [some (gD g,.own)]=some (!g.ht):=kN (bJ (fl rfl))
def UQ(h:g.ht=true):cS [some (gD g,.own)]=some (false,[some (gD g,.own)]):=by
 have:=L8 (g:=g);rw[h] at this;unfold cS xq;rw[this];rfl
def age(h:f Y=some (.bl b,Y')):tZ f Y=some (b,Y'):=by unfold tZ;rw[h]
def O1(h:g.ht=false)(hm:l8 (gD g) []=some (.bl b,gD g1)):cS [some (gD g,.own)]=some (b,[some (gD g1,.own)]):=by
 have:=L8 (g:=g);rw[h] at this;refine Eq.trans ?_ (age (xo (Y:=[some (gD g,.own)]) (m:="put_out_more") rfl hm));unfold cS xq;rw[this];rfl
def O8(h:c Y=some (false,aP)):l6 c f (n+1) Y=some (.nx aP):=by rw[l6,h]
def ack(h:c Y=some (true,aP))(h2:f aP=some (.nx aQ)):l6 c f (n+1) Y=l6 c f n aQ:=by
 rw[l6,h];dsimp only;rw[h2]
def T_(k:Gd g):sZ (xO 0 "Gate" "put_out_leaning" Ku aD) [some (gD g,.own)]=some (.nx [some (gD (tY g),.own)]):=by
 unfold sZ;rw[xo rfl (af5 k.gc k.gr)];rfl
inductive Ru:G->G->Nat->Prop
 |ht {g:G} (h:g.ht=true):Ru g g 0
 |no {g g1:G} (h:g.ht=false) (e:l8 (gD g) []=some (.bl false,gD g1)):Ru g g1 0
 |yes {g g1 g2:G} (h:g.ht=false) (e:l8 (gD g) []=some (.bl true,gD g1)) (k:Gd g1) (r:Ru (tY g1) g2 n):Ru g g2 (n+1)
theorem QK:∀{n:Nat}{g g1:G}{m:Nat},Ru g g1 n->n<m->l6 cS (sZ (xO 0 "Gate" "put_out_leaning" Ku aD)) m [some (gD g,.own)]=some (.nx [some (gD g1,.own)])
 |0,g,g1,m+1,r,_=>by
  cases r with
  |ht h=>apply O8 (UQ h)
  |no h e=>apply O8 (O1 h e)
 |n+1,g,g1,m+1,r,hm=>by
  cases r with
  |yes h e k r=>apply(ack (O1 h e) (T_ k)).trans (QK r (by lia))
def acL(k:Gd g)(r:Ru (tY g) g1 n)(hn:n<4000)(k1:Gd g1):qE (gD g) []=some (.aI,gD (CM g1)):=by
 have hl:=k1.len;have gl:=k1.gc.ln;apply qD rfl (sq (iS (T_ k)) (sq (iS (QK r hn)) (pO (nA rfl (ahS (by lia) (by lia) (by have:=k1.h1;lia))) rfl rfl rfl))) rfl
def Lz(n:Nat)(d:D):Prop:=fN d=true/\(py d).canLay0=true/\(py d).depth<=n
theorem AK{n:Nat}:∀{ds:List D},(∀d∈ds,Lz n d)->lO ds=true/\PyData.canLayAll0 (eZ ds)=true/\PyData.depthAll (eZ ds)<=n
 |[],_=>#[rfl,rfl,by show PyData.depthAll []<=n;simp[PyData.depthAll]]
 |d::ds,h=>by
  let#[a1,a2,a3]:=h d aap;let#[b1,b2,b3]:=AK λe m=>h e (aao _ m)
  refine#[by unfold lO;rw[a1,b1];rfl,?_,?_]
  .unfold eZ;simp only[PyData.canLayAll0,a2,b2,agD]
  .unfold eZ;simp only[PyData.depthAll];omega
def jM{n:Nat}{ds:List D}(h:∀d∈ds,Lz n d):Lz (n+1) (.tup ds):=by
 let#[a,b,c]:=AK h;refine#[by unfold fN;apply a,?_,?_]
 .unfold py;simp only[PyData.canLay0];apply b
 .unfold py;simp only[PyData.depth];omega
def S6{n:Nat}{ds:List D}(h:∀d∈ds,Lz n d):Lz (n+1) (.lst ds):=by
 let#[a,b,c]:=AK h;refine#[by unfold fN;apply a,?_,?_]
 .unfold py;simp only[PyData.canLay0];apply b
 .unfold py;simp only[PyData.depth];omega
def Lz.up{d:D}(h:Lz n d)(l:n<=m):Lz m d:=#[h.1,h.2.1,adJ h.2.2 l]
def Lz.lay{d:D}(h:Lz n d)(l:n<=40):cX d=true:=by
 unfold cX;rw[h.1,h.2.1,aa1 (adJ h.2.2 l)];rfl
def nR(i:Int):Lz 0 (.int i):=#[rfl,rfl,by show PyData.depth (.int i)<=0;simp[PyData.depth]]
def kT(x:Str)(h:PyData.strOk x=true:=by decide +kernel):Lz 0 (.str x):=#[rfl,by unfold py;simp only[PyData.canLay0];apply h,by unfold py;simp only[PyData.depth];apply aa9 _]
def Fz{n:Nat}{ds:List D}(h:∀d∈ds,Lz n d):Lz (n+1) (.bX ds):=by
 let#[a,b,c]:=AK h;refine#[by unfold fN;apply a,?_,?_]
 .unfold py;simp only[PyData.canLay0];apply b
 .unfold py;simp only[PyData.depth];omega
def IK(h:fv Y=some (.int j,t))(h0:Y[0]? = some (some (gD g,.own)))(hl:(gF g).lookup f=some (.int i))(e:eF f (.int (i+j)) (gF g)=gF g'):jL (AA 0 "Gate" f fv) Y=some (.nx (cJ Y 0 (gD g'))):=by
 refine iS ?_;unfold AA;rw[h,h0];show(if("Gate":Str)="Gate"/\(gF g).length<1000 then(match(gF g).lookup f with|some (.int k)=>some (Out.nx (cJ Y 0 (.ins "Gate" (eF f (.int (k+j)) (gF g)))))|_=>none) else none)=_;rw[if_pos #[rfl,by show 12<1000;decide],hl];dsimp only;rw[e];rfl
def Ah(h0:Y[0]? = some (some (gD g,.own)))(h:F (gD g) []=some (r,gD g'))(hm:(gF g).lookup m=none:=by rfl):jL (sZ (xO 0 "Gate" m F aD)) Y=some (.nx (cJ Y 0 (gD g'))):=iS (by
 unfold sZ;rw[xo h0 h hm];rfl)
def HD(g:G):G:={ g with ld:=[],ht:=true,br:=g.br+1 }
def XG(h:qE (gD (HD g)) []=some (.aI,gD g3)):yu (gD g) []=some (.aI,gD g3):=
 qD rfl (sq (pO rfl rfl rfl rfl) (sq (pO (g:={ g with ld:=[] }) rfl rfl rfl rfl)
  (sq (IK (g:={ g with ld:=[],ht:=true }) rfl rfl rfl rfl) (Ah rfl h)))) rfl
def aay(h:qE (gD { g with ht:=false }) []=some (.aI,gD g3)):zw (gD g) []=some (.aI,gD g3):=
 qD rfl (sq (pO rfl rfl rfl rfl) (Ah rfl h)) rfl
def yi(g:G)(c:Ch):G:={ g with C:=g.C++[c] }
def VV{w v:List D->D}(hw:Wf w)(hv:Wf v)(hl:l.length<=100)(hE:E.length<=100)(hm:kZ g.C.length q l E=true)(hC:g.C.length<60)(h:qE (gD (yi g (q,l,E))) []=some (.aI,gD g3)):vH (gD g) [.int q,w (l.map D.int),v (E.map dT)]=some (.int (g.C.length+1),gD g3):=by
 have h1:wc 0 "Gate" "known" "Changes" "added" qf (au (aj 1) (au (aj 2) (au (aj 3) aD))) [some (gD g,.own),some (.int q,.sh []),some (w (l.map D.int),.sh []),some (v (E.map dT),.sh []),none]=some (.int (g.C.length+1),[some (gD (yi g (q,l,E)),.own),some (.int q,.sh []),some (w (l.map D.int),.sh []),some (v (E.map dT),.sh []),none]):=by
  show(if("Gate":Str)="Gate"/\("Changes":Str)="Changes"/\([("entries",D.lst (g.C.map ent))]:List (Str×D)).lookup ("added":Str)=none/\apart 0 [(.int q,.sh []),(w (l.map D.int),.sh []),(v (E.map dT),.sh [])]=true then(qf (obj g.C) [.int q,w (l.map D.int),v (E.map dT)]).map _ else none)=_;rw[if_pos #[rfl,rfl,rfl,rfl],ah5 hw hv hl hE hm hC];rfl
 refine jX rfl (sq (Y':=[some (gD (yi g (q,l,E)),.own),some (.int q,.sh []),some (w (l.map D.int),.sh []),some (v (E.map dT),.sh []),some (.int (g.C.length + 1),.own)]) (iS (by
  show(match wc 0 "Gate" "known" "Changes" "added" qf (au (aj 1) (au (aj 2) (au (aj 3) aD))) [some (gD g,.own),some (.int q,.sh []),some (w (l.map D.int),.sh []),some (v (E.map dT),.sh []),none] with|some (d,Y')=>some (Out.nx (iI Y' 4 d .own))|none=>none)=_;rw[h1];rfl)) (sq (Ah rfl h) rfl))
def lC(g:G)(x:Int):G:={ g with ld:=if x∈g.ld then g.ld.takeWhile (λy=>!(y==x)) else g.ld,gr:=putD g.gr (Sum.inl x) (.tup [.str "withdrawn"]),br:=g.br+1 }
theorem Rq:∀{l:List Int} {x},x∈l->l.findIdx? (· == x)=some (l.takeWhile λy=>!(y==x)).length
 |[],x,m=>nomatch m
 |a::l,x,m=>by
  rw[List.findIdx?_cons,List.takeWhile_cons];cases e:(a==x) with
  |true=>rfl
  |false=>
   rw[Rq ((aat.mp m).resolve_left λq=>by rw[q] at e;simp at e)];rfl
def Ay{x:Int}:l.takeWhile (λy=>!(y==x)) <+: l:=List.takeWhile_prefix _
def YL{l:List Int}:l.take (l.takeWhile λy=>!(y==x)).length=l.takeWhile λy=>!(y==x):=by
 let#[r,e]:=Ay (l:=l) (x:=x)
 conv=>lhs;rw[<- e]
 rw[e];apply(List.prefix_iff_eq_take.mp (Ay)).symm
theorem Qo:∀{l:List Int} {x},x∉l.takeWhile (λy=>!(y==x))
 |[],x,m=>nomatch m
 |a::l,x,m=>by
  rw[List.takeWhile_cons] at m;cases e:(a==x) with
  |true=>rw[e] at m;ext m
  |false=>
   rw[e] at m;rcases aat.mp m with q|q
   .rw[<- q] at e;simp at e
   .exact Qo q
def Vl(k:Gd g)(hx:1<=x/\x<=(g.C.length:Int))(nl:x∉g.ln)(no:nV g x=false)(h:qE (gD (lC g x)) []=some (.aI,gD g3)):r_ (gD g) [.int x]=some (.aI,gD g3):=by
 have t1:k8 (tV (cR "Changes" "has" Dn (bA "Gate" "known" (aj 0)) (au (aj 1) aD))) [some (gD g,.own),some (.int x,.sh [])]=some false:=kN (b:=true) (bJ (BJ (fl rfl) rfl ((DI g.C x).trans (by unfold inR;rw[aa1 hx.1,aa1 hx.2];rfl))));have t2:o9 (tV (e2 (jl false) (aj 1) (bA "Gate" "on_line" (aj 0)))) (tV (e2 (pZ false) (aj 1) (bA "Gate" "grounds" (aj 0)))) [some (gD g,.own),some (.int x,.sh [])]=some false:=
  (aaA ((bJ (aF rfl (fl rfl) (by unfold iL;rw[Ae,abm aa3,Dp]))).trans (by rw[abS nl]))).trans (bJ (aF rfl (fl rfl) (by show some (D.bl (nV g x))=_;rw[no])))
 have t3:tV (e2 (jl false) (aj 1) (bA "Gate" "laid_ones" (aj 0))) [some (gD g,.own),some (.int x,.sh [])]=some (decide (x∈g.ld)):=bJ (aF rfl (fl rfl) (by unfold iL;rw[Ae,abm aa3,Dp]));refine qD rfl (bP t1 (bP t2 (sq (Y':=[some (gD { g with ld:=(lC g x).ld },.own),some (.int x,.sh [])]) ?_ (sq (iS (Be rfl rfl rfl rfl k.gr.im (by have:=k.gr.len;have:=k.gc.ln;show g.gr.length<=100;lia)))
  (sq (IK rfl rfl rfl rfl) (Ah rfl h)))))) rfl
 by_cases mx:x∈g.ld
 .rw[aa1 mx] at t3;have e1:e2 Iz (bA "Gate" "laid_ones" (aj 0)) (aj 1) [some (gD g,.own),some (.int x,.sh [])]=some (.int (g.ld.takeWhile λy=>!(y == x)).length,.own):=aF (fl rfl) rfl (by
   show(match eU (g.ld.map D.int) with|some ts=>(ts.findIdx? (· == x)).map λj:Nat=>D.int j|none=>none)=_;rw[uH];dsimp only;rw[Rq mx];rfl)
  have c:wC (bA "Gate" "laid_ones" (aj 0)) (e2 Iz (bA "Gate" "laid_ones" (aj 0)) (aj 1)) [some (gD g,.own),some (.int x,.sh [])]=some (iL (lC g x).ld,.own):=by
   unfold wC;rw[fl rfl,e1];show(if aK (g.ld.map D.int)=true then some (D.lst (cutD (g.ld.map D.int) none (some ((g.ld.takeWhile λy=>!(y==x)).length:Int))),Tag.own) else none)=_;rw[if_pos (c_ _),Sf (by rw[List.length_map];apply List.IsPrefix.length_le Ay),<- List.map_take,YL];unfold lC;rw[if_pos mx];rfl
  apply qH t3 (pO c rfl rfl rfl)
 .rw[abS mx] at t3;refine Rg t3 ?_;unfold lC;rw[abm mx];rfl
abbrev hd(ta:Ta)(L:List Int):List Str:=(vO ta L).getD []
def Ik{L:List Int}:(bC (pQ n t ta) (kL L)).getD (tob n t [])=tob n t (hd ta L):=by
 rw[Uu];unfold hd;cases vO ta L<;>rfl
def Vx{L:List Int}:putD (pQ n t ta) (kL L) (tob n t h)=pQ n t (gp ta L h):=RJ (λ_ _=>CC)
def aa6{L:List Int}(hL:L≠[])(k:Gd g)(tn:(g.ta.map (·.1)).Nodup)(tl:g.ta.length<=5000)(hw:w∈(["yes","no","unsure"]:List Str))(hm:word g.n g.t (hd g.ta L)="more"):
  qy "Gate" "tallies" "Tally" "tell" (lN "Tally" rL (au (e2 cC (bA "Gate" "numbers" (aj 0)) (eC (.int 2))) (au (e2 cC (bA "Gate" "numbers" (aj 0)) (eC (.int 3))) aD))) EO [some (gD g,.own),some (tD L,.sh []),some (.str w,.sh []),none,none] =
   some (.nx [some (gD { g with ta:=gp g.ta L (hd g.ta L++[w]) },.own),some (tD L,.sh []),some (.str w,.sh []),none,some (.str (word g.n g.t (hd g.ta L++[w])),.own)]):=by
 have e1:lN "Tally" rL (au (e2 cC (bA "Gate" "numbers" (aj 0)) (eC (.int 2))) (au (e2 cC (bA "Gate" "numbers" (aj 0)) (eC (.int 3))) aD)) [some (gD g,.own),some (tD L,.sh []),some (.str w,.sh []),none,none]=some (tob g.n g.t [],.own):=by
  show(match rL (.ins "Tally" []) [.int g.n,.int g.t] with|some (.aI,d)=>some (d,Tag.own)|_=>none)=_;rw[SI k.nt]
 have n1:((pQ g.n g.t g.ta).map (·.1)).Nodup:=by
  unfold pQ;rw[adw,show((λkv:List Key×D=>kv.1) ∘ λp:List Int×List Str=>(kL p.1,tob g.n g.t p.2))=kL ∘ (·.1) from rfl,<- adw];unfold List.Nodup at tn ⊢;rw[aiV];apply tn.imp λq e=>q (CC e)
 refine(VD rfl rfl rfl rfl rfl (vW _) e1 Ik (agK hw hm (by have:=Yz hm;have:=k.nt;lia)) #[rfl,by unfold kL;rw[ajq];apply adR.mpr λ_ _=>rfl,λz=>hL (List.map_eq_nil_iff.mp z),n1,size_le (by unfold pQ;rw[List.length_map];lia),rfl]).trans ?_;rw[Vx];rfl
def lT(g:G)(L:List Int)(w:Str):G:={ g with ta:=gp g.ta L (hd g.ta L++[w]),an:=g.an+1,en:=if(word g.n g.t (hd g.ta L++[w]) == "more")=true then g.en else g.en++[.tup [tD L,.str (word g.n g.t (hd g.ta L++[w]))]] }
def AQ(g:G)(L:List Int):G:={ g with ld:=g.ld.drop (L.length-g.ln.length),ln:=L,gw:=g.gw++[L] }
def Jb(L:List (List Int)):aK (cT L)=true:=v_.mpr λd m=>by
 let#[l,_,rfl]:=abG.mp m;apply c_ l
def aev{L:List Int}(h1:g.ln.length<=L.length)(h2:L.length<=g.ln.length+g.ld.length)(hg:g.gw.length<=5000):uw (gD g) [tD L]=some (.aI,gD (AQ g L)):=by
 have c:BL (bA "Gate" "laid_ones" (aj 0)) (e2 jv (e1 f9 (aj 1)) (e1 f9 (bA "Gate" "on_line" (aj 0)))) [some (gD g,.own),some (tD L,.sh [])]=some (iL (g.ld.drop (L.length-g.ln.length)),.own):=by
  have e1:e2 jv (e1 f9 (aj 1)) (e1 f9 (bA "Gate" "on_line" (aj 0))) [some (gD g,.own),some (tD L,.sh [])]=some (.int ((L.length-g.ln.length:Nat):Int),.own):=aF (cB rfl (by show some (D.int (L.map D.int).length)=_;rw[List.length_map])) (cB (fl rfl) (by show some (D.int (g.ln.map D.int).length)=_;rw[List.length_map])) (by show some (D.int (_-_))=_;rw[Int.natCast_sub h1]);unfold BL;rw[fl rfl,e1];show(if aK (g.ld.map D.int)=true then some (D.lst (cutD (g.ld.map D.int) (some ((L.length-g.ln.length:Nat):Int)) none),Tag.own) else none)=_;rw[if_pos (c_ _),S3 (by rw[List.length_map];lia),<- List.map_drop];rfl
 refine qD rfl (sq (pO c rfl rfl rfl) (sq (pO (g:={ g with ld:=g.ld.drop (L.length - g.ln.length) }) (cB rfl Pg) rfl rfl rfl) (iS ((Cc (es:=gF { g with ld:=g.ld.drop (L.length - g.ln.length),ln:=L }) rfl rfl rfl ?_).trans (by
  have:gD (AQ g L)=.ins "Gate" (eF "grown" (.lst (cT g.gw++[tD L])) (gF { g with ld:=g.ld.drop (L.length-g.ln.length),ln:=L })):=by
   unfold gD gF AQ cT;rw[adK];rfl
  rw[<- this]))))) rfl
 rw[Jb,show aB (tD L)=true from c_ L,aa1 (size_le (by unfold cT;rw[List.length_map];lia))];rfl
def rP(g:G)(L:List Int)(w:Str):G:=if(word g.n g.t (hd g.ta L++[w]) == "yes")=true then AQ (lT g L w) L else lT g L w
def UW{L:List Int}(hk:L∈g.lk)(hL:L≠[])(k:Gd g)(tn:(g.ta.map (·.1)).Nodup)(tl:g.ta.length<=5000)(hw:w∈(["yes","no","unsure"]:List Str))(hm:word g.n g.t (hd g.ta L)="more")(em:aK g.en=true)(el:g.en.length<=5000)(gl:g.gw.length<=5000)(h1:g.ln.length<=L.length)(h2:L.length<=g.ln.length+g.ld.length)
  (hs:qE (gD (rP g L w)) []=some (.aI,gD g3)):sR (gD g) [tD L,.str w]=some (.str (word g.n g.t (hd g.ta L++[w])),gD g3):=by
 generalize ew:word g.n g.t (hd g.ta L++[w])=u;have ft:=aa6 hL k tn tl hw hm;rw[ew] at ft;have hu:∀g':G,jL (sZ (xO 0 "Gate" "grow" uw (au (aj 1) aD))) [some (gD g',.own),some (tD L,.sh []),some (.str w,.sh []),none,some (.str u,.own)]=(uw (gD g') [tD L]).map λv=>.nx [some (v.2,.own),some (tD L,.sh []),some (.str w,.sh []),none,some (.str u,.own)]:=λg'=>by
  show jL (λY=>(xO 0 "Gate" "grow" uw (au (aj 1) aD) Y).map λw=>.nx w.2) _=_;have:xO 0 "Gate" "grow" uw (au (aj 1) aD) [some (gD g',.own),some (tD L,.sh []),some (.str w,.sh []),none,some (.str u,.own)]=(uw (gD g') [tD L]).map λv=>(v.1,cJ [some (gD g',.own),some (tD L,.sh []),some (.str w,.sh []),none,some (.str u,.own)] 0 v.2):=by
   show(if("Gate":Str)="Gate"/\(gF g').lookup ("grow":Str)=none/\apart 0 [(tD L,.sh [])]=true then _ else none)=_;rw[if_pos #[rfl,rfl,rfl]];rfl
  unfold jL;dsimp only;rw[this];cases uw (gD g') [tD L]<;>rfl
 refine jX rfl (bP (bJ (aF rfl (fl rfl) ((AJ true L g.lk).trans (by rw[aa1 hk];rfl)))) (sq ft (sq (Y':=[some (gD { g with ta:=gp g.ta L (hd g.ta L++[w]),an:=g.an+1 },.own),some (tD L,.sh []),some (.str w,.sh []),none,some (.str u,.own)]) (IK rfl rfl rfl rfl) (sq (Y':=[some (gD (lT g L w),.own),some (tD L,.sh []),some (.str w,.sh []),none,some (.str u,.own)]) ?_ (sq (Y':=[some (gD (rP g L w),.own),some (tD L,.sh []),some (.str w,.sh []),none,some (.str u,.own)]) ?_ (sq (Ah rfl hs) rfl))))))
 .have ht:tV (e2 lF (aj 4) (eC (.str "more"))) [some (gD { g with ta:=gp g.ta L (hd g.ta L++[w]),an:=g.an+1 },.own),some (tD L,.sh []),some (.str w,.sh []),none,some (.str u,.own)]=some (!(u == "more")):=rfl;unfold lT;rw[ew];cases e:(u==("more":Str)) with
  |true=>rw[e] at ht;rw[gP,ht];rfl
  |false=>
   rw[e] at ht;refine qH ht (iS ((Cc (d:=.tup [tD L,.str u]) rfl rfl rfl ?_).trans ?_))
   .have:aB (.tup [tD L,.str u])=true:=by unfold tD;simp only[aB,aK,c_,agD]
    rw[this,em,aa1 (size_le (by lia))];rfl
   .rfl
 .have ht:tV (e2 oEq (aj 4) (eC (.str "yes"))) [some (gD (lT g L w),.own),some (tD L,.sh []),some (.str w,.sh []),none,some (.str u,.own)]=some (u == "yes"):=rfl;unfold rP;rw[ew];cases e:(u==("yes":Str)) with
  |true=>
   rw[e] at ht;refine qH ht ((hu (lT g L w)).trans ?_);rw[aev (g:=lT g L w) h1 h2 gl];rfl
  |false=>rw[e] at ht;rw[gP,ht];rfl
def Gd.re(k:Gd g)(ta:Ta)(lk:List (List Int))(ht:Bool)(gw:List (List Int))(en:List D)(an br:Int):Gd { g with ta:=ta,lk:=lk,ht:=ht,gw:=gw,en:=en,an:=an,br:=br }:=#[k.w1,k.h1,k.nt,k.gc,k.row,k.nd,k.zY,k.nN,k.gr,k.run]
def ahH(k:Gd g):Gd (CM g):=k.re g.ta (zR g) g.ht g.gw g.en g.an g.br
def Lr(gr:List (Key×D)):Prop:=∀p∈gr,Lz 3 p.2
def Lr.put(h:Lr gr)(hd:Lz 3 d):Lr (putD gr k d):=λp m=>(PZ m).elim (h p) λe=>by rw[e];apply hd
def Nd(s:Str)(h:Lz 2 d)(hs:PyData.strOk s=true:=by decide +kernel):Lz 3 (.tup [.str s,d]):=jM λx m=>by
 rcases aat.mp m with rfl|m
 .exact(kT s hs).up (by decide)
 .rw[aaK.mp m];apply h
def o6(l:List Int):Lz 1 (tD l):=jM (n:=0) λd m=>by
 let#[x,_,rfl]:=abG.mp m;apply nR x
def Zg(l:List Int):Lz 2 (tK l):=by
 cases l with
 |nil=>apply#[rfl,rfl,by show PyData.depth .none<=2;simp[PyData.depth]]
 |cons x l=>apply(nR x).up (by decide)
def EV:PyData.strOk (word n t h)=true:=by
 unfold word
 split
 .decide +kernel
 .split
  .decide +kernel
  .split<;>decide +kernel
def Vz:PyData.strOk (wd g l)=true:=by
 unfold wd
 split
 .decide +kernel
 .exact EV
def Si:Lz 3 (wW g):=jM λd m=>by
 simp only[aat,acO,afH] at m;rcases m with rfl|rfl|rfl|rfl
 .exact(kT "look").up (by decide)
 .exact(o6 _).up (by decide)
 .exact(o6 _).up (by decide)
 .exact(kT _ Vz).up (by decide)
theorem G6:∀{l:List Int} {gr},Lr gr->Lr (l.foldl (gu C) gr)
 |[],_,h=>h
 |x::l,gr,h=>by
  rw[afa];refine G6 (gr:=gu C gr x) ?_;unfold gu
  split
  .exact h
  .exact h.put (Nd "leans" ((nR _).up (by decide)))
theorem Mc{f:Int->D}(hf:∀x,aB (f x)=true/\(nq (f x)).isSome=true/\Lz 3 (f x)):∀{l:List Int} {gr},l.Nodup->(∀x∈l,d_ gr x=false/\x∈cz 1 n)->Gr n gr->Lr gr->Gr n (l.foldl (λgr x=>putD gr (Sum.inl x) (f x)) gr)/\Lr (l.foldl (λgr x=>putD gr (Sum.inl x) (f x)) gr)/\(l.foldl (λgr x=>putD gr (Sum.inl x) (f x)) gr).length=gr.length+l.length/\∀y,d_ (l.foldl (λgr x=>putD gr (Sum.inl x) (f x)) gr) y=true->d_ gr y=true\/y∈l
 |[],gr,_,_,k,h=>#[k,h,rfl,λy e=>.inl e]
 |x::l,gr,nd,hx,k,h=>by
  let#[n1,n2]:=ab3.mp nd;let#[a,b]:=hx x aap;let#[c1,c2,c3,c4]:=Mc hf (gr:=putD gr (Sum.inl x) (f x)) n2 (λy m=>#[by rw[rK,(hx y (aao _ m)).1,abS (show ¬y=x from λe=>n1 (e ▸ m))];rfl,(hx y (aao _ m)).2]) (k.put b (hf x).1 (hf x).2.1) (h.put (hf x).2.2);refine#[c1,c2,by rw[afa,c3,LA a,abE];show gr.length+1+l.length=gr.length+(l.length+1);lia,λy e=>?_];rcases c4 y e with q|q
  .rw[rK,ajc,aiU] at q;apply q.elim (λe=>.inr (e ▸ aap)) .inl
  .exact .inr (aao _ q)
def Qp(k:Gd g):Gd (tY g):=by
 let#[a,_,c]:=MQ (C:=g.C) (l:=wl g) k.gr λx m=>kF.mpr (by have:=vN x m;lia)
 refine k.cut (ld:=g.ld) (ajo _) a λx m=>?_
 cases e:d_ ((wl g).foldl (gu g.C) g.gr) x with
 |false=>rfl
 |true=>
  rcases c x e with q|q
  .rw[show d_ g.gr x=false from k.nN x m] at q;ext q
  .let#[_,n1,n2,_]:=sV.mp q;apply absurd m (by rw[abB];apply λz=>z.elim n1 n2)
def agX:g.gr.length<=(tY g).gr.length:=(O2 (C:=g.C) JP λx m=>(sV.mp m).2.2.2).length_le
def RU(k:Gd g)(hx:g.ld=x::r):Gd (xV g x)/\(xV g x).gr.length=g.gr.length+1:=by
 have mx:x∈g.ln++g.ld:=by rw[hx];apply aaM _ aap
 have hr:=k.row x mx;refine#[k.cut (ld:=[]) List.nil_prefix (k.gr.put (kF.mpr (by lia)) SS) λy m=>?_,by show(putD g.gr _ _).length=_;rw[LA (k.nN x mx),abE];rfl];rw[acU] at m;rw[rK,show d_ g.gr y=false from k.nN y (aaZ _ m),abS (show ¬y=x from λe=>by
  have:=k.nd;rw[hx] at this;apply(ac7.mp this).2.2 y m x aap e)];rfl
theorem Ug:∀(n:Nat) {g:G},Gd g->Lr g.gr->g.C.length<g.gr.length+n->∃ld gr m,Ru g { g with ld:=ld,gr:=gr } m/\m<=n/\Gd { g with ld:=ld,gr:=gr }/\Lr gr
 |0,g,k,_,h=>by
  have:=k.gr.len
  lia
 |n+1,g,k,hz,h=>by
  by_cases ht:g.ht=true
  .exact#[g.ld,g.gr,0,.ht ht,adN _,k,hz]
  .have ht:g.ht=false:=by simpa using ht
   have yes:∀g1:G,l8 (gD g) []=some (.bl true,gD g1)->(∃ld gr,g1={ g with ld:=ld,gr:=gr })->Gd g1->Lr g1.gr->g.gr.length<g1.gr.length->∃ld gr m,Ru g { g with ld:=ld,gr:=gr } m/\m<=n+1/\Gd { g with ld:=ld,gr:=gr }/\Lr gr:=by
    rintro _ e ⟨l1,r1,rfl⟩ k1 z1 hl
    have pl:=agX (g:={ g with ld:=l1,gr:=r1 });let#[ld,gr,m,r,hm,k2,z2]:=Ug n (Qp k1) (G6 z1) (by
     have pl:r1.length<=(tY { g with ld:=l1,gr:=r1 }).gr.length:=pl;have hl:g.gr.length<r1.length:=hl;show g.C.length<_
     lia)
    apply#[ld,gr,m+1,.yes ht e k1 r,by lia,k2,z2]
   have hl:=k.len;cases hb:ic g with
   |some p=>
    by_cases hp:p=1
    .subst hp;have hm:=AG hb;let#[x,r,hx]:=List.exists_cons_of_ne_nil (λe:g.ld=[]=>by rw[e] at hm;simp at hm);let#[ko,lo]:=RU k hx;apply yes _ (VM k hb hx) #[_,_,rfl] ko (hz.put Si) (by rw[lo];lia)
    .exact#[g.ld,g.gr,0,.no ht (Yy k hb hp),adN _,k,hz]
   |none=>
    let#[ex,F,k1,hA,hB]:=adu k hb
    by_cases h1:ic (j9 g ex)=some 1
    .have hm:=AG h1;let#[x,r,hx]:=List.exists_cons_of_ne_nil (λe:g.ld++ex=[]=>by
      have hm:1<=1/\1<=(g.ld++ex).length/\_:=hm;rw[e] at hm;simp at hm)
     let#[ko,lo]:=RU (g:=j9 g ex) k1 hx;apply yes _ (hB x r hx h1) #[_,_,rfl] ko (Lr.put (gr:=(j9 g ex).gr) hz Si) (by rw[lo];apply aid _)
    .let#[h2,h3]:=hA h1
     by_cases he:g.ld++ex=[]
     .let#[u,v,_,_,e]:=h3 he
      by_cases hf:bq g=[]
      .rw[hf] at e;apply#[g.ld,g.gr,0,.no ht e,adN _,k,hz]
      .have hd:g.ld=[]:=(agI.mp he).1;let#[c1,c2,c3,c4]:=Mc (n:=g.C.length) (f:=λx=>.tup [.str "unfit",tK (bad u (dO g.C x))]) (λx=>#[by simp only[aB,aK,Jo,agD],rfl,Nd "unfit" (Zg _)]) (l:=bq g) (JP.sublist ahE) (λx m=>by
        let#[a,_,_,b]:=sV.mp (ad3.mp m).1;apply#[b,kF.mpr (by lia)]) k.gr hz
       rw[show decide (bq g=[])=false from abS hf] at e;refine yes _ e #[g.ld,_,rfl] (k.cut (ld:=g.ld) (ajo _) c1 λx m=>?_) c2 (by
        have:=List.length_pos_iff.mpr hf;show g.gr.length<_;unfold qg
        lia)
       cases q:d_ ((bq g).foldl (qg g.C u) g.gr) x with
       |false=>rfl
       |true=>
        rcases c4 x q with q|q
        .rw[show d_ g.gr x=false from k.nN x m] at q;ext q
        .let#[_,n1,n2,_]:=sV.mp (ad3.mp q).1;apply absurd m (by rw[abB];apply λz=>z.elim n1 n2)
     .exact#[g.ld++ex,g.gr,0,.no ht (h2 he),adN _,k1,hz]
def WW(k:Gd g)(hz:Lr g.gr):∃ld gr,qE (gD g) []=some (.aI,gD (CM { g with ld:=ld,gr:=gr }))/\Gd (CM { g with ld:=ld,gr:=gr })/\Lr gr:=by
 have hC:=k.gc.ln;let#[ld,gr,m,r,hm,k1,z1]:=Ug (g.C.length+1) (Qp k) (G6 hz) (by show g.C.length<_;lia);apply#[ld,gr,acL k r (by lia) k1,ahH k1,z1]
def Nt[DecidableEq κ]{es:List (κ×α)}:(gp es q d).length<=es.length+1:=by
 unfold gp
 split
 .rw[List.length_map];lia
 .rw[abE];apply aa9 _
def Th(C:List Ch):Prop:=∀c∈C,c.2.2.length<=3
theorem MZ:∀{C:List Ch},Th C->(slots C).length<=3*C.length
 |[],_=>aa9 _
 |c::C,q=>by
  have h1:=q c aap;have h2:=MZ (C:=C) λx m=>q x (aao _ m)
  show((c.2.2.map (·.1))++slots C).length<=3*(C.length+1);rw[abE,List.length_map]
  lia
def Nz:slots (C++[c])=slots C++c.2.2.map (·.1):=by unfold slots;rw[List.flatMap_append,List.flatMap_singleton]
theorem M1:∀{l:List Int},uv l=true->l.Pairwise (· < ·)
 |[],_=>.nil
 |[x],_=>ai1 _ _
 |x::y::r,h=>by
  let#[a,b]:=(aaF _ _).mp h;have ih:=M1 b;have a:=aaY a;refine aeh.mpr #[λz m=>?_,ih];rcases aat.mp m with rfl|m
  .exact a
  .have:=(aeh.mp ih).1 z m;lia
def L7(h1:1<=m)(h2:m<=(C.length:Int)):ch (C++[c]) m=ch C m:=by
 unfold ch;rw[afS (by omega)]
def ad8(h1:1<=m)(h2:m<=(C.length:Int)):lean (sec (C++[c])) m=lean (sec C) m:=by
 rw[<- ur h1 (by rw[abE,aea];lia),L7 h1 h2,ur h1 h2]
def aaB(q:Th (C++[c]))(g:GoodC (slots C) C)(k:kZ C.length c.1 c.2.1 c.2.2=true)(kl:c.2.1.length<=60)(hl:C.length<20):GoodC (slots (C++[c])) (C++[c]):=by
 unfold kZ ye at k;simp only[aaF,adR,aiU] at k;let#[#[_,kb,_],k2,k3,k4]:=k;have at_:∀(Q:Ch->Prop),Q (0,[],[])->Q c->(∀m,Q (ch C m))->∀m,Q (ch (C++[c]) m):=λQ q0 qc h m=>by
  unfold ch;rw[List.getElem?_append]
  split
  .exact h m
  .cases e:([c]:List Ch)[(m-1).toNat-C.length]? with
   |none=>apply q0
   |some x=>
    have:=aiS e;rw[aaK.mp this];apply qc
 have pw:=M1 k4;refine#[by rw[abE,aea];lia,adJ (MZ q) (by rw[abE,aea];lia),λm=>at_ (λc'=>Ee (slots (C++[c])) c'.2.2) #[#[.nil,adN _],.nil,λp m=>nomatch m] #[#[pw.imp λh=>Int.le_of_lt h,by lia],pw.imp λh e=>by lia,λp m=>by rw[Nz];apply aaM _ (abG.mpr #[p,m,rfl])] (λm=>#[(g.ed m).ed,(g.ed m).nd,λp mp=>by rw[Nz];apply aaZ _ ((g.ed m).sl p mp)]) m,λm x h1 h2 mx=>?_,λm=>?_]
 .rw[abE,aea] at h2
  by_cases h3:m<=(C.length:Int)
  .rw[ad8 h1 h3] at mx;apply g.bd m x h1 h3 mx
  .have e:(ch (C++[c]) m)=c:=by
    unfold ch;rw[show(m-1).toNat=C.length by lia,agH (aa9 _),Nat.sub_self];rfl
   rw[<- ur h1 (by rw[abE,aea];lia),e] at mx;have:=kb x mx;unfold inR at this;simp only[aaF,aiU] at this
   lia
 .by_cases h1:1<=m
  .by_cases h2:m<=((C++[c]).length:Int)
   .rw[<- ur h1 h2];refine at_ (λc=>c.2.1.length<=60) (adN _) kl (λm=>?_) m;unfold ch;cases e:C[(m-1).toNat]? with
    |none=>apply adN _
    |some x=>
     have cI:=(acN.mp e).1;have:=g.few (((m-1).toNat:Int)+1);rw[<- ur (by lia) (by lia)] at this;unfold ch at this;rw[show((((m-1).toNat:Int)+1-1).toNat)=(m-1).toNat by lia,e] at this;apply this
   .unfold lean;rw[if_pos h1,aiN (by rw[List.length_map];lia)];apply adN _
  .unfold lean;rw[abm h1];apply adN _
def agk(h:Row C row):fX (C++[c]) row=fX C row:=agL λx m=>by
 unfold dO;rw[L7 (h x m).1 (h x m).2]
structure Pv(m:Nat)(g:G):Prop where
 gd:Gd g
 lr:Lr g.gr
 th:Th g.C
 tn:(g.ta.map (·.1)).Nodup
 tl:g.ta.length<=m
 en:∀d∈g.en,Lz 2 d/\aB d=true
 el:g.en.length<=m
 gl:g.gw.length<=m
structure Iv(m:Nat)(g:G):Prop extends Pv m g where
 lk:∀L∈g.lk,∃p,1<=p/\p<=g.ld.length/\L=iP g p
def Pv.settle(k:Pv m g):∃g3,qE (gD g) []=some (.aI,gD g3)/\Iv m g3/\g3.C=g.C:=by
 let#[ld,gr,e,k1,z1]:=WW k.gd k.lr;refine#[_,e,#[#[k1,z1,k.th,k.tn,k.tl,k.en,k.el,k.gl],λL mL=>?_],rfl];let#[p,mp,rfl]:=abG.mp mL;have b:=R5.1.bd p mp;have e:=ND (g:={ g with ld:=ld,gr:=gr });have e2:eo { g with ld:=ld,gr:=gr }<=(ld.length:Int)+1:=e.2;apply#[p.toNat,by lia,by show _<=ld.length;lia,rfl]
def Pv.up(k:Pv m g)(h:m<=n):Pv n g:=#[k.gd,k.lr,k.th,k.tn,adJ k.tl h,k.en,adJ k.el h,adJ k.gl h]
def Iv.up(k:Iv m g)(h:m<=n):Iv n g:=#[k.toPv.up h,k.lk]
def Iv.stop(k:Iv m g):∃g3,yu (gD g) []=some (.aI,gD g3)/\Iv m g3/\g3.C=g.C:=by
 have k1:Gd (HD g):=(k.gd.cut (ld:=[]) List.nil_prefix k.gd.gr λx m=>k.gd.nN x (by rw[acU] at m;apply aaZ _ m)).re g.ta g.lk true g.gw g.en g.an (g.br+1);let#[g3,e,i,c]:=Pv.settle (m:=m) (g:=HD g) #[k1,k.lr,k.th,k.tn,k.tl,k.en,k.el,k.gl];apply#[g3,XG e,i,c]
def Iv.go(k:Iv m g):∃g3,zw (gD g) []=some (.aI,gD g3)/\Iv m g3/\g3.C=g.C:=by
 let#[g3,e,i,c]:=Pv.settle (m:=m) (g:={ g with ht:=false }) #[k.gd.re g.ta g.lk false g.gw g.en g.an g.br,k.lr,k.th,k.tn,k.tl,k.en,k.el,k.gl];apply#[g3,aay e,i,c]
def Iv.ask(k:Iv m g)(hl:l.length<=60)(hE:E.length<=3)(hm:kZ g.C.length q l E=true)(hC:g.C.length<20):∃g3,(∀w v:List D->D,Wf w->Wf v->vH (gD g) [.int q,w (l.map D.int),v (E.map dT)]=some (.int (g.C.length+1),gD g3))/\Iv m g3/\g3.C.length=g.C.length+1:=by
 have lc:(g.C++[(q,l,E)]).length=g.C.length+1:=by rw[abE];rfl
 have th:Th (g.C++[(q,l,E)]):=λc m=>(abB.mp m).elim (k.th c) λm=>by rw[aaK.mp m];apply hE
 have v:=k.gd;have k1:Gd (yi g (q,l,E)):=by
  refine#[v.w1,v.h1,v.nt,aaB th v.gc hm hl hC,λx mx=>?_,v.nd,v.zY,v.nN,#[v.gr.im,v.gr.nd,(λy my=>?_),v.gr.tp],?_]
  .have:=v.row x mx;show 1<=x/\x<=(((g.C++[(q,l,E)]).length:Nat):Int);rw[lc];lia
  .let#[x,e,mx]:=v.gr.ks y my;have:=kF.mp mx;apply#[x,e,kF.mpr (show 1<=x/\x<1+(((g.C++[(q,l,E)]).length:Nat):Int) by rw[lc];lia)]
  .let#[w,e]:=v.run;apply#[w,(congrArg (fU []) (agk v.row)).trans e]
 let#[g3,e,i,c]:=Pv.settle (m:=m) (g:=yi g (q,l,E)) #[k1,k.lr,th,k.tn,k.tl,k.en,k.el,k.gl];apply#[g3,λw v hw hv=>VV hw hv (by lia) (by lia) hm (by lia) e,i,by rw[c];apply lc]
def Iv.jU(k:Iv m g)(hx:1<=x/\x<=(g.C.length:Int))(nl:x∉g.ln)(no:nV g x=false):∃g3,r_ (gD g) [.int x]=some (.aI,gD g3)/\Iv m g3/\g3.C=g.C:=by
 have v:=k.gd;have lw:Lz 3 (.tup [.str "withdrawn"]):=jM λd m=>by rw[aaK.mp m];apply(kT "withdrawn").up (by decide)
 have hp:(lC g x).ld <+: g.ld:=by
  unfold lC;dsimp only
  split
  .exact Ay
  .exact ajo _
 have k1:Gd (lC g x):=(v.cut (ld:=(lC g x).ld) (gr:=(lC g x).gr) hp (v.gr.put (kF.mpr (by lia)) rfl) λy my=>by
  have my':y∈g.ln++g.ld:=(abB.mp my).elim (aaZ _) λh=>aaM _ (hp.subset h)
  show d_ (putD g.gr _ _) y=false;rw[rK,show d_ g.gr y=false from v.nN y my',abS (show ¬y=x from λe=>by
   subst e;rcases abB.mp my with h|h
   .exact nl h
   .unfold lC at h;dsimp only at h
    split at h
    .exact Qo h
    .rename_i q;apply q h)];rfl).re g.ta g.lk g.ht g.gw g.en g.an (g.br+1)
 let#[g3,e,i,c]:=Pv.settle (m:=m) (g:=lC g x) #[k1,Lr.put (gr:=g.gr) k.lr lw,k.th,k.tn,k.tl,k.en,k.el,k.gl];apply#[g3,Vl v hx nl no e,i,c]
def NQ{p:Nat}(h:p<=g.ld.length):(iP g p).length=g.ln.length+p:=by
 unfold iP;rw[abE,ahs]
 lia
def Iv.jJ(k:Iv m g){L:List Int}(hL:L∈g.lk)(hw:w∈(["yes","no","unsure"]:List Str))(hm:word g.n g.t (hd g.ta L)="more")(m4:m<=4000):∃g3,sR (gD g) [tD L,.str w]=some (.str (word g.n g.t (hd g.ta L++[w])),gD g3)/\Iv (m+1) g3/\g3.C=g.C:=by
 let#[p,p1,p2,eL]:=k.lk L hL;have NL:L.length=g.ln.length+p:=by rw[eL,NQ p2]
 have nL:L≠[]:=λe=>by rw[e] at NL;simp at NL;lia
 have v:=k.gd;have em:aK g.en=true:=v_.mpr λd md=>(k.en d md).2
 have MV:(gp g.ta L (hd g.ta L++[w])).length<=m+1:=adJ Nt (by have:=k.tl;lia);have BK:(∀d∈(lT g L w).en,Lz 2 d/\aB d=true)/\(lT g L w).en.length<=m+1:=by
  unfold lT;dsimp only
  split
  .exact#[k.en,by have:=k.el;lia]
  .refine#[λd md=>?_,by rw[abE];have:=k.el;simp;lia];rcases abB.mp md with md|md
   .exact k.en d md
   .rw[aaK.mp md];refine#[jM λd md=>?_,by unfold tD;simp only[aB,aK,c_,agD]];simp only[aat,acO,afH] at md;rcases md with rfl|rfl
    .exact o6 _
    .exact(kT _ EV).up (by decide)
 have v1:Gd (lT g L w):=v.re _ g.lk g.ht g.gw _ _ g.br;have P:Pv (m+1) (rP g L w):=by
  unfold rP
  by_cases hy:(word g.n g.t (hd g.ta L++[w]) == "yes")=true
  .rw[if_pos hy];have dp:L.length-g.ln.length=p:=by lia
   have ea:L++g.ld.drop p=g.ln++g.ld:=by rw[eL];unfold iP;rw[afG,List.take_append_drop]
   refine#[#[v.w1,v.h1,v.nt,v.gc,?_,?_,?_,?_,v.gr,?_],k.lr,k.th,EJ k.tn,MV,BK.1,BK.2,(by show(g.gw++[L]).length<=m+1;rw[abE];have:=k.gl;simp;lia)]
   .show Row g.C (L++g.ld.drop (L.length-g.ln.length));rw[dp,ea];apply v.row
   .show(L++g.ld.drop (L.length-g.ln.length)).Nodup;rw[dp,ea];apply v.nd
   .show((g.ld.drop (L.length-g.ln.length)).length:Int)<=g.w;rw[ajj];have:=v.zY;lia
   .show ∀x∈L++g.ld.drop (L.length-g.ln.length),nV g x=false;rw[dp,ea];apply v.nN
   .show ∃v,fU [] (fX g.C (L++g.ld.drop (L.length-g.ln.length)))=some v;rw[dp,ea];apply v.run
  .rw[abm hy];apply#[v1,k.lr,k.th,EJ k.tn,MV,BK.1,BK.2,by have:=k.gl;show g.gw.length<=m+1;lia]
 have c2:(rP g L w).C=g.C:=by unfold rP;split<;>rfl
 let#[g3,e,i,c]:=P.settle;apply#[g3,UW hL nL v k.tn (adJ k.tl (by lia)) hw hm em (adJ k.el (by lia)) (adJ k.gl (by lia)) (by lia) (by lia) e,i,c.trans c2]
def Fd{r:Bool}{c:XN}(h:sf Y=some (.er r c Y')):bY sf sg Y=some (.er r c Y'):=by rw[iF,h];rfl
def uV{r:Bool}{c:XN}(h:tf Y=some true)(h2:sf Y=some (.er r c Y')):bY (dZ tf sf fB) sg Y=some (.er r c Y'):=Fd (by rw[gP,h];apply h2)
def Kn(h:sf Y=none):bY sf sg Y=none:=by rw[iF,h];rfl
def vz(h:tf Y=some true)(h2:sf Y=none):bY (dZ tf sf fB) sg Y=none:=Kn (by rw[gP,h];apply h2)
def qN(h:b (uS N d0 ds)=none):runM n N b d0 ds=none:=by
 unfold runM;rw[h];apply ite_self _
def zV(h:g Y=some ps):Cq cn g Y=some (.er true (cn,none) Y):=by unfold Cq;rw[h]
def Sq(hw:Wf w)(hv:Wf v)(hl:l.length<=100)(hE:E.length<=100)(hm:kZ C.length q l E=false){s t1 t2 t3 t4}:k8 (tV (cR "Changes" "makes_change" QX (aj 0) (au (aj 1) (au (aj 2) (au (aj 3) aD))))) (some (obj C,t1)::some (.int q,t2)::some (w (l.map D.int),t3)::some (v (E.map dT),t4)::s)=some true:=
 kN (b:=false) (bJ (lV (ps:=[(.int q,_),(w (l.map D.int),_),(v (E.map dT),_)]) rfl rfl rfl ((TL hw hv hl hE).trans (by rw[hm]))))
def V5(hw:Wf w)(hv:Wf v)(hl:l.length<=100)(hE:E.length<=100)(hm:kZ g.C.length q l E=false):vH (gD g) [.int q,w (l.map D.int),v (E.map dT)]=none/\Cj [gD g,.int q,w (l.map D.int),v (E.map dT)]=some (.er ("NoChange",none)):=by
 have a:qf (obj g.C) [.int q,w (l.map D.int),v (E.map dT)]=none:=qN (vz (Sq hw hv hl hE hm) rfl);have r:OU [obj g.C,.int q,w (l.map D.int),v (E.map dT)]=some (.er ("NoChange",none)):=qo (raw:=true) (Y:=[some (obj g.C,.sh []),some (.int q,.sh []),some (w (l.map D.int),.sh []),some (v (E.map dT),.sh [])]) rfl (uV (Sq hw hv hl hE hm) rfl);constructor
 .refine qN (Kn ?_);show jL (λY=>match wc 0 "Gate" "known" "Changes" "added" qf (au (aj 1) (au (aj 2) (au (aj 3) aD))) Y with|some (d,Y')=>some (Out.nx (iI Y' 4 d .own))|none=>none) [some (gD g,.own),some (.int q,.sh []),some (w (l.map D.int),.sh []),some (v (E.map dT),.sh []),none]=none;have:wc 0 "Gate" "known" "Changes" "added" qf (au (aj 1) (au (aj 2) (au (aj 3) aD))) [some (gD g,.own),some (.int q,.sh []),some (w (l.map D.int),.sh []),some (v (E.map dT),.sh []),none]=none:=by
   show(if("Gate":Str)="Gate"/\("Changes":Str)="Changes"/\([("entries",D.lst (g.C.map ent))]:List (Str×D)).lookup ("added":Str)=none/\apart 0 [(.int q,.sh []),(w (l.map D.int),.sh []),(v (E.map dT),.sh [])]=true then(qf (obj g.C) [.int q,w (l.map D.int),v (E.map dT)]).map _ else none)=_;rw[a];apply ite_self _
  unfold jL;dsimp only;rw[this]
 .refine qo (raw:=false) (Y:=[some (gD g,.sh []),some (.int q,.sh []),some (w (l.map D.int),.sh []),some (v (E.map dT),.sh []),none]) rfl (Fd ?_);show(match(if("Changes":Str)="Changes"/\([("entries",D.lst (g.C.map ent))]:List (Str×D)).lookup ("added":Str)=none then(match OU [obj g.C,.int q,w (l.map D.int),v (E.map dT)] with|some (.ok d)=>some (ER.ok d _)|some (.er en)=>some (.er en [some (gD g,.sh []),some (.int q,.sh []),some (w (l.map D.int),.sh []),some (v (E.map dT),.sh []),none])|none=>none) else none) with|some (.ok d Y')=>_|some (.er cn Y')=>some (Out.er false cn Y')|none=>none)=_;rw[if_pos #[rfl,rfl],r]
def LX{t1 t2:Tag}{s:aR}:k8 (tV (cR "Changes" "has" Dn (bA "Gate" "known" (aj 0)) (au (aj 1) aD))) (some (gD g,t1)::some (.int x,t2)::s)=some (!inR x 1 g.C.length):=kN (bJ (BJ (fl rfl) rfl (DI g.C x)))
def YC{t1 t2:Tag}{s:aR}:o9 (tV (e2 (jl false) (aj 1) (bA "Gate" "on_line" (aj 0)))) (tV (e2 (pZ false) (aj 1) (bA "Gate" "grounds" (aj 0)))) (some (gD g,t1)::some (.int x,t2)::s)=some (decide (x∈g.ln)||nV g x):=
 vf (bJ (aF rfl (fl rfl) (by unfold iL;rw[Ae,abm aa3,Dp]))) (bJ (aF rfl (fl rfl) rfl))
def WX{x:Str}{n:Int}(h:f Y=some (.int n,t))(hn:n.natAbs<2 ^ 64):e1 (IJ x) f Y=some (.str (Str.empty++x++Str.ofString (toString n)),.own):=cB h (if_pos hn)
def ahk{x y:Str}{n:Int}(h:f Y=some (.int n,t))(hn:n.natAbs<2 ^ 64):e1 (E3 x y) f Y=some (.str (Str.empty++x++Str.ofString (toString n)++y),.own):=cB h (if_pos hn)
def aai(h:inR x 1 g.C.length=false)(hx:x.natAbs<2 ^ 64):r_ (gD g) [.int x]=none/\xY [gD g,.int x]=some (.er ("NoChange",none)):=by
 have t:=λt1 t2=>(LX (g:=g) (x:=x) (t1:=t1) (t2:=t2) (s:=[])).trans (by rw[h])
 apply#[qN (vz (t _ _) rfl),qo rfl (uV (t _ _) (zV (by rw[bN,WX rfl hx];rfl)))]
def U1(h:inR x 1 g.C.length=true)(h2:(decide (x∈g.ln)||nV g x)=true)(hx:x.natAbs<2 ^ 64):r_ (gD g) [.int x]=none/\xY [gD g,.int x]=some (.er ("TooLate",none)):=by
 have t:=λt1 t2=>(LX (g:=g) (x:=x) (t1:=t1) (t2:=t2) (s:=[])).trans (by rw[h])
 have u:=λt1 t2=>(YC (g:=g) (x:=x) (t1:=t1) (t2:=t2) (s:=[])).trans (by rw[h2])
 apply#[qN (bP (t _ _) (vz (u _ _) rfl)),qo rfl (bP (t _ _) (uV (u _ _) (zV (by rw[bN,ahk rfl hx];rfl))))]
def aaJ{L:List Int}(h:L∉g.lk):sR (gD g) [tD L,.str w]=none/\xR [gD g,tD L,.str w]=some (.er ("NoLook",none)):=by
 have t:∀{t1 t2} {s},tV (e2 (wu true) (aj 1) (bA "Gate" "looks" (aj 0))) (some (gD g,t1)::some (tD L,t2)::s)=some true:=λ{t1 t2 s}=>bJ (aF rfl (fl rfl) ((AJ true L g.lk).trans (by rw[abS h];rfl)))
 apply#[qN (vz t rfl),qo rfl (uV t (zV rfl))]
def A2(n t:Int)(h:List Str)(w:Str):Bool:=(["yes","no","unsure"]:List Str).any (· == w)&&(word n t h == "more")
def abg(h:A2 n t hh w=false):EO (tob n t hh) [.str w]=none/\Tp [tob n t hh,.str w]=some (.er ("NoAnswer",none)):=by
 have m1:∀{t1 t2}{s:aR},tV (e2 lF (cR "Tally" "word" K0 (aj 0) aD) (eC (.str "more"))) (some (tob n t hh,t1)::some (.str w,t2)::s)=some (!(word n t hh == "more")):=λ{t1 t2 s}=>bJ (aF (lV rfl rfl rfl GK) rfl rfl)
 have m0:∀{t1 t2}{s:aR},tV (e2 (sY true) (aj 1) (eC (.tup ((["yes","no","unsure"]:List Str).map D.str)))) (some (tob n t hh,t1)::some (.str w,t2)::s)=some (!(["yes","no","unsure"]:List Str).any (· == w)):=λ{t1 t2 s}=>rfl
 unfold A2 at h;cases h0:(["yes","no","unsure"]:List Str).any (· == w) with
 |false=>
  rw[h0] at m0;apply#[qN (vz m0 rfl),qo rfl (uV m0 (zV rfl))]
 |true=>
  rw[h0] at m0;rw[h0,Bool.true_and] at h;rw[h] at m1;apply#[qN (bP m0 (vz m1 rfl)),qo rfl (bP m0 (uV m1 (zV rfl)))]
def afz{w fd:Str}{H:MF}(h0:Y[0]? = some (some (.ins cn es,.own)))(h1:Y[1]? = some (some (.tup ls,lt)))(h2:Y[2]? = some (some (.str w,wt)))(h4:es.lookup fd=some (.eV ak))(h5:iB ls=some ks)(h6:ft Y=some (dn,.own))(h7:(bC ak ks).getD dn=.ins gA gJ)(h8:H (.ins gA gJ) [.str w]=none):qy cn fd gA m ft H Y=none:=by
 unfold qy wX Ak CY C4;simp only[h0,h1,h2,h4,h5,h6,h7,h8,ac1,Option.bind_none,↓reduceIte]
def agw{L:List Int}(hL:L∈g.lk)(nL:L≠[])(k:Gd g)(h:A2 g.n g.t (hd g.ta L) w=false):sR (gD g) [tD L,.str w]=none/\xR [gD g,tD L,.str w]=some (.er ("NoAnswer",none)):=by
 have t:∀{t1 t2} {s},tV (e2 (wu true) (aj 1) (bA "Gate" "looks" (aj 0))) (some (gD g,t1)::some (tD L,t2)::s)=some false:=λ{t1 t2 s}=>bJ (aF rfl (fl rfl) ((AJ true L g.lk).trans (by rw[aa1 hL];rfl)))
 have e1:∀{t1}{s:aR},lN "Tally" rL (au (e2 cC (bA "Gate" "numbers" (aj 0)) (eC (.int 2))) (au (e2 cC (bA "Gate" "numbers" (aj 0)) (eC (.int 3))) aD)) (some (gD g,t1)::s)=some (tob g.n g.t [],.own):=λ{t1 s}=>by
  show(match rL (.ins "Tally" []) [.int g.n,.int g.t] with|some (.aI,d)=>some (d,Tag.own)|_=>none)=_;rw[SI k.nt]
 let#[a,b]:=abg h;constructor
 .exact qN (bP t (Kn (afz rfl rfl rfl rfl (vW _) e1 Ik a)))
 .have kk:((kL L).all λk=>k.isLeft)=true/\kL L≠[]:=#[by unfold kL;rw[ajq];apply adR.mpr λ_ _=>rfl,λz=>nL (List.map_eq_nil_iff.mp z)]
  have eg:DL (bA "Gate" "tallies" (aj 0)) (aj 1) (lN "Tally" rL (au (e2 cC (bA "Gate" "numbers" (aj 0)) (eC (.int 2))) (au (e2 cC (bA "Gate" "numbers" (aj 0)) (eC (.int 3))) aD))) [some (gD g,.sh []),some (tD L,.sh []),some (.str w,.sh []),none,none]=some (tob g.n g.t (hd g.ta L),.sh []):=by
   unfold DL;rw[fl rfl,e1];show(iB (L.map D.int)).bind _=_;rw[vW,ac1,if_pos kk,Ik];rfl
  refine qo (raw:=false) (Y:=[some (gD g,.sh []),some (tD L,.sh []),some (.str w,.sh []),some (tob g.n g.t (hd g.ta L),.sh []),none]) rfl (bP t (gU eg (Fd ?_)));show(match(if("Tally":Str)="Tally"/\([("need",D.int g.n),("tries",.int g.t),("heard",hs (hd g.ta L))]:List (Str×D)).lookup ("tell":Str)=none then(match Tp [tob g.n g.t (hd g.ta L),.str w] with|some (.ok d)=>some (ER.ok d _)|some (.er en)=>some (.er en [some (gD g,.sh []),some (tD L,.sh []),some (.str w,.sh []),some (tob g.n g.t (hd g.ta L),.sh []),none])|none=>none) else none) with|some (.ok d Y')=>_|some (.er cn Y')=>some (Out.er false cn Y')|none=>none)=_;rw[if_pos #[rfl,rfl],b]
def Wq(Q:Out->Prop)(o:Option Out):Prop:=∃r,o=some r/\Q r
section
variable{sf sg:SF}
def wK(h:sf Y=some (.nx Y'))(k:Wq Q (sg Y')):Wq Q (bY sf sg Y):=let#[x,e,p]:=k;#[x,sq h e,p]
def iy(h:f Y=some (d,t))(k:Wq Q (sg (iI Y i d t))):Wq Q (bY (eS i f) sg Y):=wK (by rw[kG,h];rfl) k
def ly(Y':aR)(k:Wq Q (sg Y'))(e:Y=Y':=by rfl):Wq Q (sg Y):=e ▸ k
def vF(h:tf Y=some b)(h1:b=true->Wq Q (sf Y))(h2:b=false->Wq Q (sg Y)):Wq Q (dZ tf sf sg Y):=by
 rw[gP,h];cases b with
 |true=>apply h1 rfl
 |false=>apply h2 rfl
def adS(I:Nat->aR->Prop)(h0:I 0 Y)(st:∀j Y d,ds[j]? = some d->I j Y->∃aP,g d t Y=some aP/\Wq (λr=>∃aQ,r=.nx aQ/\I (j+1) aQ) (sf aP)):∃Y',cY g t sf ds Y=some (.nx Y')/\I ds.length Y':=by
 let#[Y',lp,h]:=P5 I h0 (λj Y d hd h=>by
  rw[ajp] at h ⊢;let#[aP,e1,_,e2,aQ,rfl,h2]:=st j Y d hd h;apply#[aP,aQ,e1,.inl e2,h2])
 rw[ajp] at h;apply#[Y',lp,h]
def Xf(I:Nat->aR->Prop)(hi:it Y=some ((cz a n).map D.int,.own))(h0:I 0 Y)(st:∀j Y,j<n->I j Y->∃aP,gN x (.int (a+j)) (.sh []) Y=some aP/\Wq (λr=>∃aQ,r=.nx aQ/\I (j+1) aQ) (sf aP))(k:∀Y',I n Y'->Wq Q (sg Y')):Wq Q (bY (jc it (gN x) sf) sg Y):=by
 let#[Y',e,h]:=adS (ds:=(cz a n).map D.int) I h0 (λj Y d hd h=>by
  unfold cz at hd;rw[adw,acB] at hd;let#[y,hy,rfl]:=ac3.mp hd;let#[hj,e]:=acN.mp hy;rw[ajd] at hj;rw[List.getElem_range] at e;subst e;apply st j Y hj h)
 rw[List.length_map,mE] at h;apply wK (xw hi e) (k Y' h)
def B3{I:aR->Prop}(h:Wq (λr=>∃Y',r=.nx Y'/\I Y') (sf Y))(k:∀Y',I Y'->Wq Q (sg Y')):Wq Q (bY sf sg Y):=let#[_,e,Y',e2,p]:=h;wK (e.trans (by rw[e2])) (k Y' p)
def CI{P:D->Prop}(hl:ds.length=n)(h:Wq (λr=>∃d,r=.rt d/\P d) (B (sy N ds))):∃d,bH n N B ds=some d/\P d:=let#[_,e,d,h,p]:=h;#[d,bR hl (e.trans (by rw[h])),p]
end
def Yj:ab4 [gD g]=some (iL g.ln):=bR rfl (cH (cB (fl rfl) vj))
def YO:ahQ [gD g]=some (iL g.ld):=bR rfl (cH (cB (fl rfl) vj))
def Og:adF [gD g]=some (.lst (cT g.lk)):=bR rfl (cH (cB (fl (d:=.lst (cT g.lk)) rfl) (if_pos (Jb _))))
def aeP:acM [gD g]=some (.bl g.ht):=bR rfl (by rw[xN,fl rfl];rfl)
def outD(gr:List (Key×D))(x:Int):D:=.tup [.int x,(bC gr (Sum.inl x:Key)).getD .aI]
def ZP(k:Gd g):ado [gD g]=some (.lst ((dY (lD g.gr)).map (outD g.gr))):=by
 have hl:=k.gr.len;have gl:=k.gc.ln;let#[ek,e]:=uN k.gr.ks;have el:(lD g.gr).length=g.gr.length:=by have:=congrArg List.length ek;rw[List.length_map,List.length_map] at this;apply this.symm
 have hs:e1 mV (bA "Gate" "grounds" (aj 0)) [some (gD g,.sh [])]=some (iL (dY (lD g.gr)),.own):=cB (fl rfl) (by
  show(match i_ g.gr with|some ns=>if ns.length<64 then some (D.lst ((dY ns).map D.int)) else none|none=>none)=_;rw[e];dsimp only;rw[if_pos (by lia)];rfl)
 have hc:=jE (js:=[none,some 0]) (g:=gN 0) (tt:=nH) (k:=λd=>match d with | .int x=>some (outD g.gr x) | _=>none) (kr hs) (by rw[List.length_map,yI];apply size_le (by lia)) (λd m=>by
  let#[x,mx,rfl]:=abG.mp m;have mi:=k.gr.mem.mp (Ci.mp mx);unfold d_ at mi;let#[v,hv]:=ago.mp mi;have iv:=v_.mp k.gr.im v (by
   unfold bC at hv;let#[kv,h1,rfl]:=ac3.mp hv;apply abG.mpr #[kv,ag3 h1,rfl])
  have hg:e2 kH (bA "Gate" "grounds" (aj 1)) (aj 0) [some (.int x,.sh []),some (gD g,.sh [])]=some (v,.own):=aF (fl rfl) rfl (by
   show(bC g.gr (Sum.inl x:Key)).bind _=_;rw[hv,ac1,if_pos iv])
  have ho:∃t,h_ (au (aj 0) (au (e2 kH (bA "Gate" "grounds" (aj 1)) (aj 0)) aD)) [some (.int x,.sh []),some (gD g,.sh [])]=some (outD g.gr x,t):=by
   rw[p_,bN,bN,hg];unfold outD;rw[hv];apply#[_,rfl]
  let#[t,ho]:=ho;apply n9 rfl rfl ho (by
   unfold outD;rw[hv];simp only[ai5,aB,aK,iv,agD]))
 rw[ae7,show((dY (lD g.gr)).filterMap ((λd=>match d with|D.int x=>some (outD g.gr x)|_=>none) ∘ D.int))=(dY (lD g.gr)).map (outD g.gr) from lS (outD g.gr) _] at hc;apply bR rfl (cH hc)
def g0(w h n t:Int):G:=#[w,h,n,t,[],[],[],[],[],[],false,[],[],0,0]
def UM(hw:1<=w/\w<=16)(hh:1<=h/\h<=8)(nt:1<=n/\n<=t/\t<=20):Er (.ins "Gate" []) [.int w,.int h,.int n,.int t]=some (.aI,gD (g0 w h n t)):=by
 have q:∀{i} {v b},aj i [some (.ins "Gate" [],.own),some (.int w,.sh []),some (.int h,.sh []),some (.int n,.sh []),some (.int t,.sh [])]=some (.int v,.sh [])->1<=v/\v<=b->tV (cQ nG (au (aj i) (au (eC (.int 1)) (au (eC (.int b)) aD)))) [some (.ins "Gate" [],.own),some (.int w,.sh []),some (.int h,.sh []),some (.int n,.sh []),some (.int t,.sh [])]=some true:=λh hb=>(yO h).trans (by unfold inR;rw[aa1 hb.1,aa1 hb.2];rfl)
 refine qD (Y:=[some (gD (g0 w h n t),.own),some (.int w,.sh []),some (.int h,.sh []),some (.int n,.sh []),some (.int t,.sh [])]) rfl (bP (kN ((AD (q rfl hw)).trans ((AD (q rfl hh)).trans (bJ (cV (ps:=[(.int n,.sh []),(.int t,.sh [])]) rfl (Se nt)))))) ?_) rfl
 kernel_rfl
def ac5(I:Nat->aR->Prop)(R:D->Prop)(h0:I 0 Y)(st:∀j Y d,ds[j]? = some d->I j Y->∃aP,g d t Y=some aP/\Wq (λr=>(∃aQ,r=.nx aQ/\I (j+1) aQ)\/∃x,r=.rt x/\R x) (sf aP)):(∃Y',cY g t sf ds Y=some (.nx Y')/\I ds.length Y')\/∃x,cY g t sf ds Y=some (.rt x)/\R x:=by
 rcases Oz I (λ_=>R) h0 (λj Y d hd h=>by
  rw[ajp] at h ⊢;let#[aP,e1,r,e2,h]:=st j Y d hd h;refine⟨aP,e1,h.imp (λ⟨aQ,e,h⟩=>⟨aQ,.inl (e2.trans (by rw[e])),h⟩) λ⟨x,e,h⟩=>⟨x,e2.trans (by rw[e]),h⟩⟩) with⟨Y',e,h⟩|⟨_,x,e,h,_⟩
 .rw[ajp] at h;apply .inl #[Y',e,h]
 .exact .inr #[x,e,h]
def abl(I:Nat->aR->Prop)(R:D->Prop)(hi:it Y=some (ds,t))(ht:t=.own\/t=.sh [])(h0:I 0 Y)(st:∀j Y d,ds[j]? = some d->I j Y->∃aP,g d (.sh []) Y=some aP/\Wq (λr=>(∃aQ,r=.nx aQ/\I (j+1) aQ)\/∃x,r=.rt x/\R x) (sf aP))(k:∀Y',I ds.length Y'->Wq Q (sg Y'))(q:∀x,R x->Q (.rt x)):Wq Q (bY (jc it g sf) sg Y):=by
 rcases ac5 I R h0 st with⟨Y',e,h⟩|⟨x,e,h⟩
 .refine wK ?_ (k Y' h);rcases ht with rfl|rfl
  .exact uZ hi e
  .exact uZ hi e
 .refine#[_,i9 ?_,q x h];rcases ht with rfl|rfl
  .exact Bb hi e
  .exact Bb hi e
def v9(h:tf Y=some b)(h1:b=true->Wq Q (bY sf sg Y))(h2:b=false->Wq Q (sg Y)):Wq Q (bY (dZ tf sf fB) sg Y):=by
 cases b with
 |true=>let#[r,e,q]:=h1 rfl;apply#[r,pX h e,q]
 |false=>let#[r,e,q]:=h2 rfl;apply#[r,bP h e,q]
def BD(h:Wq (λr=>∃x,r=.rt x/\Q r) (sf Y)):Wq Q (bY sf sg Y):=by
 let#[r,e,x,rfl,q]:=h;apply#[_,i9 e,q]
def adQ(k:Gd g)(hv:fU [] (fX g.C g.ln)=some v):T7 [gD g]=some (dS (nz v))/\Kb (slots g.C) v:=by
 have h:=Cv k.gc (λx m=>k.row x (aaZ _ m)) (by have:=k.len;lia) hv;apply#[bR rfl (cH (cV rfl h.1)),h.2]
def T3{L:List (List Int)}:f9 (.lst (cT L))=some (.int L.length):=by show some (D.int (cT L).length)=_;unfold cT;rw[List.length_map]
def cD(g:G):D:=.tup [.int g.gw.length,.int ((g.en.length:Int)-g.gw.length),.int g.an,.int (cnt g.gr),.int g.br]
def Wx(k:Gd g):Yh [gD g]=some (cD g):=by
 have hl:=k.gr.len;have gl:=k.gc.ln;have h1:e1 f9 (bA "Gate" "grown" (aj 0)) [some (gD g,.sh []),none,none]=some (.int g.gw.length,.own):=cB (fl rfl) T3;have h2:e1 f9 (EM 0 "Gate" "grounds" "look") [some (gD g,.sh []),some (.int g.gw.length,.own),none]=some (.int (cnt g.gr),.own):=cB (by
  show(if("Gate":Str)="Gate"/\(g.gr.map (·.1)).Nodup/\g.gr.length<sizeLine/\∀p∈g.gr,(nq p.2).isSome=true then some (D.lst (xB "look" g.gr),Tag.own) else none)=_;rw[if_pos #[rfl,k.gr.nd,size_le (by lia),k.gr.tp]]) (by rw[Cs];rfl)
 have h3:e2 jv (e1 f9 (bA "Gate" "ended" (aj 0))) (aj 1) [some (gD g,.sh []),some (.int g.gw.length,.own),some (.int (cnt g.gr),.own)]=some (.int ((g.en.length:Int)-g.gw.length),.own):=aF (cB (fl rfl) Cs) rfl rfl;refine bR rfl (gU h1 (gU h2 ?_));show kR (h_ (au (aj 1) (au (e2 jv (e1 f9 (bA "Gate" "ended" (aj 0))) (aj 1)) (au (bA "Gate" "answers" (aj 0)) (au (aj 2) (au (bA "Gate" "breaks" (aj 0)) aD)))))) [some (gD g,.sh []),some (.int g.gw.length,.own),some (.int (cnt g.gr),.own)]=some (.rt (cD g));rw[xN,p_,bN,bN,h3];rfl
def ait:Vp [gD g]=some (.lst (cT g.gw)):=bR rfl (cH (cB (fl (d:=.lst (cT g.gw)) rfl) (if_pos (Jb _))))
def ahr(h:aK g.en=true):afx [gD g]=some (.lst g.en):=bR rfl (cH (cB (fl (d:=.lst g.en) rfl) (if_pos h)))
def sD(g:G):D:=.tup [.int g.w,.int g.h,.int g.n,.int g.t]
def afn:ain [gD g]=some (sD g):=bR rfl (by rw[xN,fl rfl];rfl)
def An{f:α->D}{l:List α}{n:Nat}(h:∀x∈l,Lz n (f x)):Lz (n+1) (.lst (l.map f)):=S6 λd m=>by
 let#[x,mx,rfl]:=abG.mp m;apply h x mx
def G0(l:List Int):Lz 1 (iL l):=An λx _=>nR x
def Jl(L:List (List Int)):Lz 2 (.lst (cT L)):=An λl _=>o6 l
def Kh(b:Bool):Lz 0 (.bl b):=#[rfl,by unfold py;simp only[PyData.canLay0],by unfold py;simp only[PyData.depth];apply aa9 _]
def GH:Lz 0 .aI:=#[rfl,rfl,by show PyData.depth .none<=0;simp[PyData.depth]]
def VP:∀o:Option Nat,Lz 0 (bD o)
 |none=>GH
 |some _=>nR _
def agV[DecidableEq κ]{es:List (κ×α)}(h:gv es k=some v):(k,v)∈es:=by
 unfold gv at h;let#[kv,h1,rfl]:=ac3.mp h;have:kv.1=k:=aaY (ajv (p:=λkv:κ×α=>decide (kv.1=k)) h1);apply this ▸ ag3 h1
def ah6(h:Lr gr):Lz 4 (outD gr x):=jM λd m=>by
 simp only[aat,acO,afH] at m;rcases m with rfl|rfl
 .exact(nR x).up (by decide)
 .cases e:bC gr (Sum.inl x:Key) with
  |none=>apply GH.up (by decide)
  |some d=>apply h _ (agV e)
def aW(h:f Y=some p)(h2:g Y=some ps):au f g Y=some (p::ps):=by rw[bN,h,h2];rfl
def jt(h:g Y=some ps):h_ g Y=some (.tup (ps.map (·.1)),iU ps):=by rw[p_,h];rfl
def agg(k:Iv m g):∃d,abR [gD g]=some d/\cX d=true:=by
 have v:=k.gd;let#[u,hu]:=JA (C:=g.C) v.run;have hl:=v.len;have gl:=v.gc.ln;have L:∀{m:Str}{F:List D->Option D}{d:D},F [gD g]=some d->(gF g).lookup m=none->cR "Gate" m F (aj 0) aD [some (gD g,.sh [])]=some (d,.own):=λh hm=>nA rfl h hm
 refine#[.tup [iL g.ln,iL g.ld,iL (wl g),.lst ((dY (lD g.gr)).map (outD g.gr)),.lst (cT g.lk),bD (ic g),.bl g.ht,dS (nz u),.lst (cT g.gw),.lst g.en,sD g,cD g],bR rfl (cH ?_),(jM (n:=5) λd md=>?_).lay (by decide)]
 .exact jt (aW (L (m:="line") Yj rfl) (aW (L (m:="laid") YO rfl) (aW (L (m:="waiting") (DY (by lia)) rfl) (aW (L (m:="outs") (ZP v) rfl) (aW (L (m:="wanted") Og rfl) (aW (L (m:="bad") (DG (by lia)) rfl) (aW (L (m:="stopped") aeP rfl) (aW (L (m:="sheet") (adQ v hu).1 rfl) (aW (L (m:="growths") ait rfl) (aW (L (m:="settled") (ahr (v_.mpr λd md=>(k.en d md).2)) rfl) (aW (L (m:="settings") afn rfl) (aW (L (m:="counts") (Wx v) rfl) (show aD _=some [] from rfl)))))))))))))
 .simp only[aat,acO,afH] at md;rcases md with rfl|rfl|rfl|rfl|rfl|rfl|rfl|rfl|rfl|rfl|rfl|rfl
  .exact(G0 _).up (by decide)
  .exact(G0 _).up (by decide)
  .exact(G0 _).up (by decide)
  .exact An λx _=>ah6 k.lr
  .exact(Jl _).up (by decide)
  .exact(VP _).up (by decide)
  .exact(Kh _).up (by decide)
  .exact(An (n:=1) λp _=>o6 [p.1,p.2]).up (by decide)
  .exact(Jl _).up (by decide)
  .exact(S6 (n:=2) λd m=>(k.en d m).1).up (by decide)
  .exact(o6 [g.w,g.h,g.n,g.t]).up (by decide)
  .exact(o6 [_,_,_,_,_]).up (by decide)
inductive Rw
 |ask (q:Int) (l:List Int) (E:List Ed)
 |jU (x:Int)
 |jJ (L:List Int) (w:Str)
 |stop
 |go
abbrev rk(w:List D->D)(q:Int)(l:List Int)(E:List Ed):D:=.tup [.str "ask",.int q,w (l.map D.int),w (E.map dT)]
def wb(b:Bool):List D->D:=if b=true then .bX else .tup
def KE:∀b:Bool,Wf (wb b)
 |true=>wf_
 |false=>Mh
def hD(b:Bool):Rw->D
 |.ask q l E=>rk (wb b) q l E
 |.jU x=>.tup [.str "withdraw",.int x]
 |.jJ L w=>.tup [.str "answer",tD L,.str w]
 |.stop=>.tup [.str "stop"]
 |.go=>.tup [.str "go"]
abbrev rD:Rw->D:=hD false
def mX(o:Option (D×D)):Option Out:=o.map λw=>.rt (.tup [w.1,w.2])
def rX(Y:aR)(o:Option Rz):Option Out:=o.map λ| .ok d=>.rt d|.er c=>.er false c Y
def nQ(h:b (uS N d0 ds)=mX o)(hl:ds.length+1=n:=by rfl):runM n N b d0 ds=o:=by
 unfold runM;rw[if_pos hl,h];ext o<;>rfl
def uW{o:Option Rz}(h:b (sy N ds)=rX Y o)(hl:ds.length=n:=by rfl):jb n N b ds=o:=by
 unfold jb;rw[if_pos hl,h];cases o with
 |none=>rfl
 |some r=>ext r<;>rfl
def n5(h:tf Y=some true)(h2:sf Y=mX o):bY (dZ tf sf fB) sg Y=mX o:=by
 rw[iF,gP,h];show uA _ (sf Y)=_;rw[h2];ext o<;>rfl
def wQ{o:Option Rz}(h:tf Y=some true)(h2:sf Y=rX Y' o):bY (dZ tf sf fB) sg Y=rX Y' o:=by
 rw[iF,gP,h];show uA _ (sf Y)=_;rw[h2];cases o with
 |none=>rfl
 |some r=>ext r<;>rfl
def nJ{s:aR}{A:AF}{F:MF}{ps:List (D×Tag)}(hg:A (some (gD g,.own)::s)=some ps)(hp:apart 0 ps=true:=by rfl)(hm:(gF g).lookup m=none:=by rfl):vY (xO 0 "Gate" m F A) [0] (some (gD g,.own)::s)=mX (F (gD g) (ps.map (·.1))):=by
 have:xO 0 "Gate" m F A (some (gD g,.own)::s)=(F (gD g) (ps.map (·.1))).map λw=>(w.1,cJ (some (gD g,.own)::s) 0 w.2):=by
  unfold xO;rw[show((some (gD g,Tag.own)::s:aR))[0]? = some (some (gD g,.own)) from rfl,hg];apply if_pos #[rfl,hm,hp]
 unfold vY;rw[this];cases F (gD g) (ps.map (·.1))<;>rfl
def uD{A:AF}{ps:List (D×Tag)}{R:List D->Option Rz}(h0:fo Y=some (gD g,t))(hg:A Y=some ps)(hm:(gF g).lookup m=none:=by rfl):Bk (yw "Gate" m R fo A) Y=rX Y (R (gD g::ps.map (·.1))):=by
 have:yw "Gate" m R fo A Y=(match R (gD g::ps.map (·.1)) with|some (.ok d)=>some (.ok d Y)|some (.er en)=>some (.er en Y)|none=>none):=by
  unfold yw;rw[h0,hg];apply if_pos #[rfl,hm]
 unfold Bk;rw[this];cases R (gD g::ps.map (·.1)) with
 |none=>rfl
 |some r=>ext r<;>rfl
def mO(w:List D->D)(g:G):Rw->Option (D×D)
 |.ask q l E=>vH (gD g) [.int q,w (l.map D.int),w (E.map dT)]
 |.jU x=>r_ (gD g) [.int x]
 |.jJ L u=>sR (gD g) [tD L,.str u]
 |.stop=>yu (gD g) []
 |.go=>zw (gD g) []
def mR(w:List D->D)(g:G):Rw->Option Rz
 |.ask q l E=>Cj [gD g,.int q,w (l.map D.int),w (E.map dT)]
 |.jU x=>xY [gD g,.int x]
 |.jJ L u=>xR [gD g,tD L,.str u]
 |_=>none
def ace{l:List Int}:∀b:Bool,aB (wb b (l.map D.int))=true
 |true=>c_ l
 |false=>c_ l
def Xj{E:List Ed}:∀b:Bool,aB (wb b (E.map dT))=true
 |true=>m5 E
 |false=>m5 E
def MU{b:Bool}{q:Int}{l:List Int}{E:List Ed}{t t1}{s:aR}:au (e2 cC (aj 1) (eC (.int 1))) (au (e2 cC (aj 1) (eC (.int 2))) (au (e2 cC (aj 1) (eC (.int 3))) aD)) (some (gD g,t)::some (rk (wb b) q l E,t1)::s)=some [(.int q,.own),(wb b (l.map D.int),.own),(wb b (E.map dT),.own)]:=
 aW (aF rfl rfl rfl) (aW (aF rfl rfl (jB rfl (ace b))) (aW (aF rfl rfl (jB rfl (Xj b))) rfl))
def Aj{L:List Int}{w:Str}{t t1}{s:aR}:au (e2 cC (aj 1) (eC (.int 1))) (au (e2 cC (aj 1) (eC (.int 2))) aD) (some (gD g,t)::some (.tup [.str "answer",tD L,.str w],t1)::s)=some [(tD L,.own),(.str w,.own)]:=
 aW (aF rfl rfl (jB rfl (c_ L))) (aW (aF rfl rfl rfl) rfl)
def Nc{b:Bool}:∀r:Rw,GA (gD g) [hD b r]=mO (wb b) g r/\G5 [gD g,hD b r]=mR (wb b) g r
 |.ask q l E=>#[nQ (sq (nM rfl) (n5 rfl (nJ (F:=vH) MU))),uW (sq rfl (wQ rfl (uD (R:=Cj) rfl MU)))]
 |.jU x=>#[nQ (sq (nM rfl) (bP rfl (n5 rfl (nJ (F:=r_) (ps:=[(.int x,.own)]) rfl)))),uW (sq rfl (bP rfl (wQ rfl (uD (R:=xY) (ps:=[(.int x,.own)]) rfl rfl))))]
 |.jJ L w=>#[nQ (sq (nM rfl) (bP rfl (bP rfl (n5 rfl (nJ (F:=sR) Aj))))),uW (sq rfl (bP rfl (bP rfl (wQ rfl (uD (R:=xR) rfl Aj)))))]
 |.stop=>#[nQ (sq (nM rfl) (bP rfl (bP rfl (bP rfl (n5 rfl (nJ (F:=yu) (ps:=[]) rfl)))))),rfl]
 |.go=>#[nQ (sq (nM rfl) (bP rfl (bP rfl (bP rfl (bP rfl (n5 rfl (nJ (F:=zw) (ps:=[]) rfl))))))),rfl]
def To(h:aK ds=true):lY (.tup ds)=some (.lst ds):=if_pos h
def M7(q:Int)(l:List Int)(E:List Ed){t t1}{s:aR}:au (e2 cC (aj 1) (eC (.int 1))) (au (e1 lY (e2 cC (aj 1) (eC (.int 2)))) (au (e1 lY (e2 cC (aj 1) (eC (.int 3)))) aD)) (some (gD g,t)::some (rk .tup q l E,t1)::s)=some [(.int q,.own),(.lst (l.map D.int),.own),(.lst (E.map dT),.own)]:=
 aW (aF rfl rfl rfl) (aW (cB (aF rfl rfl (jB rfl (c_ l))) (To (c_ l))) (aW (cB (aF rfl rfl (jB rfl (m5 E))) (To (m5 E))) rfl))
def Qw:∀r:Rw,Gi (gD g) [rD r]=mO .lst g r/\Gc [gD g,rD r]=mR .lst g r
 |.ask q l E=>#[nQ (n5 rfl (nJ (F:=vH) (M7 q l E))),uW (wQ rfl (uD (R:=Cj) rfl (M7 q l E)))]
 |.jU x=>#[nQ (bP rfl (n5 rfl (nJ (F:=r_) (ps:=[(.int x,.own)]) rfl))),uW (bP rfl (wQ rfl (uD (R:=xY) (ps:=[(.int x,.own)]) rfl rfl)))]
 |.jJ L w=>#[nQ (bP rfl (bP rfl (n5 rfl (nJ (F:=sR) Aj)))),uW (bP rfl (bP rfl (wQ rfl (uD (R:=xR) rfl Aj))))]
 |.stop=>#[nQ (bP rfl (bP rfl (bP rfl (n5 rfl (nJ (F:=yu) (ps:=[]) rfl))))),rfl]
 |.go=>#[nQ (bP rfl (bP rfl (bP rfl (bP rfl (nJ (F:=zw) (ps:=[]) rfl))))),rfl]
def rQ(g:G)(row:D)(b:Bool)(d:D):aR:=[some (gD g,.own),some (row,.sh []),some (.bl b,.sh []),some (d,.own),none]
def gB(b:Bool):MR:=if b=true then T5 else TQ
abbrev sC(G:MR):SF:=Af 3 (u_ (v8 0 G (au (aj 1) aD)) (k_ (gz aD)))
def Zq{G:MR}(h:G (gD g) [row]=some (.ok v (gD g3)))(hi:aB v=true):sC G (rQ g row b d)=some (.nx (rQ g3 row b (.tup [v,.bX []]))):=by
 have e:v8 0 G (au (aj 1) aD) (rQ g row b d)=some (.ok v (rQ g3 row b d)):=by
  show(if apart 0 [(row,Tag.sh [1])]=true then(G (gD g) [row]).map _ else none)=_;rw[if_pos (by rfl),h];rfl
 have e2:u_ (v8 0 G (au (aj 1) aD)) (k_ (gz aD)) (rQ g row b d)=some (.ok (.tup [v,.bX []]) (rQ g3 row b d)):=by
  unfold u_;rw[e];show(if(aB v&&true)=true then _ else none)=_;rw[hi];rfl
 unfold sC Af;rw[e2];rfl
def Zd{G:MR}(h:G (gD g) [row]=some (.er c (gD g))):sC G (rQ g row b d)=some (.er false c (rQ g row b d)):=by
 have e:v8 0 G (au (aj 1) aD) (rQ g row b d)=some (.er c (rQ g row b d)):=by
  show(if apart 0 [(row,Tag.sh [1])]=true then(G (gD g) [row]).map _ else none)=_;rw[if_pos (by rfl),h];rfl
 have e2:u_ (v8 0 G (au (aj 1) aD)) (k_ (gz aD)) (rQ g row b d)=some (.er c (rQ g row b d)):=by
  unfold u_;rw[e];rfl
 unfold sC Af;rw[e2]
abbrev sB:SF:=dZ (tV (aj 2)) (sC T5) (sC TQ)
def Qc{o:Option Out}(h:sC (gB b) (rQ g row b d)=o):sB (rQ g row b d)=o:=by
 ext b
 .exact Rg rfl h
 .exact qH rfl h
abbrev d0:D:=.tup [.aI,.bX []]
def O7(h:gB b (gD g) [row]=some (.ok v (gD g3)))(hi:aB v=true):Am (gD g) [row,.bl b]=some (.tup [v,.bX []],gD g3):=by
 refine jX rfl (sq (Y':=rQ g row b d0) (nM (d:=d0) (t:=.own) rfl) (sq (Y':=rQ g3 row b (.tup [v,.bX []])) (iS ?_) rfl));unfold BH;show(match sB (rQ g row b d0) with|some (.er false cn Y')=>_|some (.er true _ _)=>none|o=>o)=_;rw[Qc (Zq h hi)]
abbrev subs:Str->Bool:=NT ["NoChange","TooLate","NoLook","NoAnswer"]
def ME{ks:List D}(h:gB b (gD g) [row]=some (.er (cn,none) (gD g)))(hk:Az [.exc (cn,none)]=some (.lst ks))(hi:aK ks=true)(hs:subs cn=true):Am (gD g) [row,.bl b]=some (.tup [.aI,.bX ks],gD g):=by
 refine jX rfl (sq (Y':=rQ g row b d0) (nM (d:=d0) (t:=.own) rfl) (sq (Y':=rQ g row b (.tup [.aI,.bX ks])) (iS ?_) rfl));unfold BH;show(match sB (rQ g row b d0) with|some (.er false cn Y')=>_|some (.er true _ _)=>none|o=>o)=_;rw[Qc (Zd h)];have e:∀{s},k_ (cQ Az (au (aj 4) aD)) [s,some (row,.sh []),some (.bl b,.sh []),some (d0,.own),some (.exc (cn,none),.own)]=some (.bX ks,.own):=λ{s}=>by
  unfold k_;rw[cV (ps:=[(.exc (cn,none),.sh [4])]) rfl hk];apply if_pos hi
 refine(if_pos hs).trans ?_;show(match eS 3 (h_ (au (eC .aI) (au (k_ (cQ Az (au (aj 4) aD))) aD))) [some (gD g,.own),some (row,.sh []),some (.bl b,.sh []),some (d0,.own),some (.exc (cn,none),.own)] with|some (.nx aQ)=>some (Out.nx (aQ.set 4 none))|some (.bk aQ)=>some (.bk (aQ.set 4 none))|some (.ct aQ)=>some (.ct (aQ.set 4 none))|some (.rt d)=>some (.rt d)|_=>none)=_;rw[kG,jt (aW rfl (aW e (show aD _=some [] from rfl)))];rfl
def ze:Rw->Prop
 |.ask _ l E=>l.length<=60/\E.length<=100/\∀n q,kZ n q l E=true->E.length<=3
 |.jU x=>x.natAbs<2 ^ 64
 |_=>True
def Vt(v:D):Prop:=v=.aI\/(∃i:Int,v=.int i)\/∃s:Str,v=.str s/\PyData.strOk s=true
theorem Vt.aB(h:Vt v):aB v=true:=by rcases h with rfl|⟨i,rfl⟩|⟨s,rfl,_⟩<;>rfl
inductive Oc(m:Nat)(g:G)(r:Rw):Prop
 |ok (v:D) (g3:G) (e:∀w,Wf w->mO w g r=some (v,gD g3)) (i:Iv (m+1) g3) (c:g3.C.length<=g.C.length+1) (t:Vt v)
 |er (cn:Str) (e:∀w,Wf w->mO w g r=none/\mR w g r=some (.er (cn,none))) (c:cn∈(["NoAnswer","NoChange","NoLook","TooLate"]:List Str))
def adb(k:Iv m g)(hm:m<=4000)(hC:g.C.length<20):∀r:Rw,ze r->Oc m g r
 |.ask q l E,#[h1,h2,h3]=>by
  cases h:kZ g.C.length q l E with
  |true=>
   let#[g3,e,i,c]:=k.ask h1 (h3 _ _ h) h hC;apply .ok _ g3 (λw hw=>e w w hw hw) (i.up (af1 m)) (by rw[c];apply aa9 _) (.inr (.inl #[_,rfl]))
  |false=>apply .er "NoChange" (λw hw=>V5 hw hw (by lia) h2 h) (by decide +kernel)
 |.jU x,h1=>by
  cases h:inR x 1 g.C.length with
  |false=>apply .er "NoChange" (λw _=>aai h h1) (by decide +kernel)
  |true=>
   cases h2:decide (x∈g.ln)||nV g x with
   |true=>apply .er "TooLate" (λw _=>U1 h h2 h1) (by decide +kernel)
   |false=>
    let#[a,b]:=(aaF _ _).mp h;let#[c,d]:=Bool.or_eq_false_iff.mp h2;let#[g3,e,i,ec]:=k.jU #[aaY a,aaY b] (ai7 c) d;apply .ok _ g3 (λw _=>e) (i.up (af1 m)) (by rw[ec];apply af1 _) (.inl rfl)
 |.jJ L w,_=>by
  by_cases hL:L∈g.lk
  .let#[p,p1,p2,eL]:=k.lk L hL;have nL:L≠[]:=λe=>by
    have:=NQ (g:=g) p2;rw[<- eL,e] at this;simp at this
    lia
   cases h:A2 g.n g.t (hd g.ta L) w with
   |false=>apply .er "NoAnswer" (λ_ _=>agw hL nL k.gd h) (by decide +kernel)
   |true=>
    let#[a,b]:=(aaF _ _).mp h;let#[x,mx,ex]:=adY.mp a;have ex:x=w:=by simpa using ex
    subst ex;let#[g3,e,i,ec]:=k.jJ hL mx (by simpa using b) hm;apply .ok _ g3 (λ_ _=>e) i (by rw[ec];apply af1 _) (.inr (.inr #[_,rfl,EV]))
  .exact .er "NoLook" (λ_ _=>aaJ hL) (by decide +kernel)
 |.stop,_=>by
  let#[g3,e,i,ec]:=k.stop;apply .ok _ g3 (λ_ _=>e) (i.up (af1 m)) (by rw[ec];apply af1 _) (.inl rfl)
 |.go,_=>by
  let#[g3,e,i,ec]:=k.go;apply .ok _ g3 (λ_ _=>e) (i.up (af1 m)) (by rw[ec];apply af1 _) (.inl rfl)
def aaI(r:Rw):gB false (gD g) [rD r]=jo (λ_ _=>mO .lst g r) (λ_=>mR .lst g r) (gD g) []/\∀b,gB true (gD g) [hD b r]=jo (λ_ _=>mO (wb b) g r) (λ_=>mR (wb b) g r) (gD g) []:=by
 refine#[?_,λb=>?_]
 .show jo Gi Gc (gD g) [rD r]=_;unfold jo;rw[(Qw r).1,(Qw r).2]
 .show jo GA G5 (gD g) [hD b r]=_;unfold jo;rw[(Nc r).1,(Nc r).2]
def Qj{o:Option (D×D)}{R:Option Rz}(h:o=some (v,d))(hi:aB v=true):jo (λ_ _=>o) (λ_=>R) e []=some (.ok v d):=by
 subst h;apply if_pos hi
def Tc{o:Option (D×D)}{R:Option Rz}(h:o=none)(h2:R=some (.er c)):jo (λ_ _=>o) (λ_=>R) e []=some (.er c e):=by
 subst h h2;rfl
def kinds(h:cn∈(["NoAnswer","NoChange","NoLook","TooLate"]:List Str)):(∃bs:List Bool,Az [.exc (cn,none)]=some (.lst (bs.map D.bl))/\bs≠[])/\subs cn=true:=by
 simp only[aat,acO,afH] at h;rcases h with rfl|rfl|rfl|rfl
 .exact#[#[[false,false,false,false,true],rfl,by decide],by decide +kernel]
 .exact#[#[[true,false,false,false,false],rfl,by decide],by decide +kernel]
 .exact#[#[[false,false,false,true,false],rfl,by decide],by decide +kernel]
 .exact#[#[[false,false,true,false,false],rfl,by decide],by decide +kernel]
theorem yN:∀bs:List Bool,aK (bs.map D.bl)=true
 |[]=>rfl
 |_::r=>yN r
def VS(k:Iv m g)(hm:m<=4000)(hC:g.C.length<20)(o:ze r):∃(v:D) (bs:List Bool) (g3:G),Am (gD g) [rD r,.bl false]=some (.tup [v,.bX (bs.map D.bl)],gD g3)/\(∀b,Am (gD g) [hD b r,.bl true]=some (.tup [v,.bX (bs.map D.bl)],gD g3))/\Iv (m+1) g3/\g3.C.length<=g.C.length+1/\Vt v:=by
 let#[q1,q2]:=aaI (g:=g) r;cases adb k hm hC r o with
 |ok v g3 e i c t=>apply#[v,[],g3,O7 (q1.trans (Qj (e _ D0) t.aB)) t.aB,λb=>O7 ((q2 b).trans (Qj (e _ (KE b)) t.aB)) t.aB,i,c,t]
 |er cn e c=>
  let#[#[bs,hk,_],hs]:=kinds c;apply#[.aI,bs,g,ME (q1.trans (Tc (e _ D0).1 (e _ D0).2)) hk (yN bs) hs,λb=>ME ((q2 b).trans (Tc (e _ (KE b)).1 (e _ (KE b)).2)) hk (yN bs) hs,k.up (af1 m),af1 _,.inl rfl]
def rY(h:-(2 ^ 64)<x/\x<2 ^ 64):oj x y=true:=by unfold oj;rw[aa1 h.1,aa1 h.2];rfl
def Dl(h:-(2 ^ 64)<y/\y<2 ^ 64):oj x y=true:=by unfold oj;rw[aa1 h.1,aa1 h.2];apply Bool.or_true _
def mx(n p m:Int):Int:=n % 1000003*48271 % p % m
def adC(hp:0<p)(hm:0<m):wL [.int n,.int p,.int m]=some (.int (mx n p m)):=
 bR rfl (cH (aF (aF (aF (aF rfl rfl (kC (by decide))) rfl (mT (Dl (by decide)))) rfl (kC hp)) rfl (kC hm)))
def fM(h:f Y=some (.int n,t))(hp:0<p)(h3:f3 Y=some (.int m,t3))(hm:0<m):cQ wL (au f (au (eC (.int p)) (au f3 aD))) Y=some (.int (mx n p m),.own):=by
 refine cV (ps:=[(.int n,t),(.int p,.own),(.int m,t3)]) ?_ (adC hp hm);rw[bN,h,bN,bN,h3];rfl
def jz(hm:0<m):0<=mx a p m/\mx a p m<m:=#[Int.emod_nonneg _ (by lia),Int.emod_lt_of_pos _ hm]
def cl(ns:List Int)(k:Nat):Int:=ns.getD k 0
def EE(h:tf Y=some true)(h2:sf Y=some (.rt d)):bY (dZ tf sf fB) sg Y=some (.rt d):=i9 (qH h h2)
def E9{k:Nat}:CU [dI ns,.int k]=some (.int (cl ns k)):=by
 have t:tV (e2 oLt (aj 1) (e1 f9 (aj 0))) [some (dI ns,.sh []),some (.int k,.sh [])]=some (decide ((k:Int)<ns.length)):=bJ (aF rfl (cB rfl (by show some (D.int (ns.map D.int).length)=_;rw[List.length_map])) rfl);unfold cl
 by_cases h:k<ns.length
 .refine bR rfl (EE (t.trans (by rw[aa1 (by lia)])) (cH (aF rfl rfl (RK (d:=.int (ns.getD k 0)) ?_ rfl))));have:=HN (ns:=ns) (i:=(k:Int)) (by lia) (by lia)
  rwa [show((k:Int)).toNat=k by lia] at this
 .refine bR rfl (bP (t.trans (by rw[abS (by lia)])) ?_);rw[adv,aiN (by lia)];rfl
def OI{k:Nat}(h:f Y=some (dI ns,t))(h2:f2 Y=some (.int k,t2)):cQ CU (au f (au f2 aD)) Y=some (.int (cl ns k),.own):=
 cV (ps:=[(dI ns,t),(.int k,t2)]) (by rw[bN,h,bN,h2];rfl) E9
def Zv(hl:ns.length<=63):∃n:Nat,n<=20/\aaq [dI ns]=some (.int n):=by
 have b:=jz (a:=cl ns 2) (p:=10007) (m:=21) (by decide);have h1:e2 K5 (e2 oDiv (e2 jv (e1 f9 (aj 0)) (eC (.int 3))) (eC (.int 3))) (cQ wL (au (cQ CU (au (aj 0) (au (eC (.int 2)) aD))) (au (eC (.int 10007)) (au (eC (.int 21)) aD)))) [some (dI ns,.sh []),none]=some (.int (if mx (cl ns 2) 10007 21 > ((ns.length:Int)-3) / 3 then mx (cl ns 2) 10007 21 else((ns.length:Int)-3) / 3),.own):=
  aF (aF (aF (cB rfl (by show some (D.int (ns.map D.int).length)=_;rw[List.length_map])) rfl rfl) rfl (NV (by decide) (by decide))) (fM (OI rfl rfl) (by decide) rfl (by decide)) rfl
 generalize ez:(if mx (cl ns 2) 10007 21 > ((ns.length:Int)-3) / 3 then mx (cl ns 2) 10007 21 else((ns.length:Int)-3) / 3)=z at h1;have hz:0<=z:=by
  split at ez<;>lia
 refine#[(if z<20 then z else 20).toNat,by split<;>lia,bR rfl (gU h1 (cH (aF rfl rfl ?_)))];show some (D.int (if z<20 then z else 20))=_;rw[show(((if z<20 then z else 20).toNat:Nat):Int)=if z<20 then z else 20 by split<;>lia]
def CW(h:f Y=some (d,t))(hi:aB d=true):kR f Y=some (.rt d):=by
 unfold kR;rw[h];dsimp only;rw[hi];cases jy t<;>rfl
def af0{k:Nat}(hk:k<=20):∃a b c:Int,WN [dI ns,.int k]=some (.tup [.int a,.int b,.int c]):=by
 have t:tV (e2 oLt (e2 iN (e2 kO (eC (.int 3)) (aj 1)) (eC (.int 5))) (e1 f9 (aj 0))) [some (dI ns,.sh []),some (.int k,.sh []),none]=some (decide ((3*k+5:Int)<ns.length)):=bJ (aF (aF (aF rfl rfl (mT (rY (by decide)))) rfl rfl) (cB rfl (by show some (D.int (ns.map D.int).length)=_;rw[List.length_map])) rfl)
 by_cases h:(3*k+5:Int)<ns.length
 .have ix:∀j:Nat,j<=5->e2 cC (aj 0) (e2 iN (e2 kO (eC (.int 3)) (aj 1)) (eC (.int j))) [some (dI ns,.sh []),some (.int k,.sh []),none]=some (.int (ns.getD (3*(k:Int)+j).toNat 0),.own):=λj hj=>
   aF rfl (aF (aF rfl rfl (mT (rY (by decide)))) rfl rfl) (RK (HN (by lia) (by lia)) rfl)
  apply#[_,_,_,bR rfl (EE (t.trans (by rw[aa1 h])) (cH (jt (aW (ix 3 (by decide)) (aW (ix 4 (by decide)) (aW (ix 5 (by decide)) (show aD _=some [] from rfl)))))))]
 .have e1:e2 iN (cQ CU (au (aj 0) (au (e2 oMod (aj 1) (eC (.int 5))) aD))) (e2 kO (e2 kO (eC (.int 7919)) (aj 1)) (aj 1)) [some (dI ns,.sh []),some (.int k,.sh []),none]=some (.int (cl ns (k % 5)+7919*k*k),.own):=
   aF (OI (k:=k % 5) rfl (aF rfl rfl (kC (by decide)))) (aF (aF rfl rfl (mT (rY (by decide)))) rfl (mT (Dl (by lia)))) rfl
  generalize cl ns (k % 5)+7919*k*k=s at e1;have m1:e2 kO (eC (.int 31)) (aj 1) [some (dI ns,.sh []),some (.int k,.sh []),some (.int s,.own)]=some (.int (31*k),.own):=aF rfl rfl (mT (rY (by decide)));have m2:e2 kO (e2 kO (eC (.int 77)) (aj 1)) (aj 1) [some (dI ns,.sh []),some (.int k,.sh []),some (.int s,.own)]=some (.int (77*k*k),.own):=aF (aF rfl rfl (mT (rY (by decide)))) rfl (mT (Dl (by lia)));apply#[_,_,_,bR rfl (bP (t.trans (by rw[abS h])) (gU e1 (CW (d:=.tup [.int s,.int (s+31*k),.int (s+77*k*k)]) (jt (aW (p:=(.int s,.sh [2])) rfl (aW (aF rfl m1 rfl) (aW (aF rfl m2 rfl) (show aD _=some [] from rfl))))) rfl)))]
def abZ:∃w h n t:Int,aaN [dI ns]=some (.tup [.int w,.int h,.int n,.int t])/\(1<=w/\w<=16)/\(1<=h/\h<=8)/\1<=n/\n<=t/\t<=20:=by
 generalize ea:cl ns 0=a;generalize eb:cl ns 1=b;obtain⟨x,hx,x1,x2⟩:∃x,cC (.lst [.int 4,.int 4,.int 4,.int 16]) (.int (mx a 65537 4))=some (.int x)/\1<=x/\x<=16:=by
  have h:=jz (a:=a) (p:=65537) (m:=4) (by decide);generalize mx a 65537 4=j at h;obtain rfl|rfl|rfl|rfl:j=0\/j=1\/j=2\/j=3:=by lia
  .exact#[4,rfl,by decide,by decide]
  .exact#[4,rfl,by decide,by decide]
  .exact#[4,rfl,by decide,by decide]
  .exact#[16,rfl,by decide,by decide]
 obtain⟨y,hy,y1,y2⟩:∃x,cC (.lst [.int 1,.int 2,.int 8]) (.int (mx b 65537 3))=some (.int x)/\1<=x/\x<=8:=by
  have h:=jz (a:=b) (p:=65537) (m:=3) (by decide);generalize mx b 65537 3=j at h;obtain rfl|rfl|rfl:j=0\/j=1\/j=2:=by lia
  .exact#[1,rfl,by decide,by decide]
  .exact#[2,rfl,by decide,by decide]
  .exact#[8,rfl,by decide,by decide]
 obtain⟨z,hz,z1,z2⟩:∃x,cC (.lst [.int 1,.int 1,.int 3]) (.int (mx b 60013 3))=some (.int x)/\1<=x/\x<=3:=by
  have h:=jz (a:=b) (p:=60013) (m:=3) (by decide);generalize mx b 60013 3=j at h;obtain rfl|rfl|rfl:j=0\/j=1\/j=2:=by lia
  .exact#[1,rfl,by decide,by decide]
  .exact#[1,rfl,by decide,by decide]
  .exact#[3,rfl,by decide,by decide]
 have bw:=jz (a:=a) (p:=99991) (m:=x) (by lia);have bh:=jz (a:=a) (p:=90001) (m:=y) (by lia);have bn:=jz (a:=b) (p:=70001) (m:=z) (by lia);have bt:=jz (a:=b) (p:=80021) (m:=6) (by lia);refine#[1 + mx a 99991 x,1 + mx a 90001 y,1 + mx b 70001 z,1 + mx b 70001 z + mx b 80021 6,?_,by lia,by lia,by lia,by lia,by lia];refine bR rfl (sq (Y':=[some (dI ns,.sh []),some (.int a,.own),none,none,none,none]) (by rw[kG,cV rfl (E9 (k:=0)),ea];rfl) (sq (Y':=[some (dI ns,.sh []),some (.int a,.own),some (.int b,.own),none,none,none]) (by rw[kG,cV rfl (E9 (k:=1)),eb];rfl)
  (gU (aF rfl (fM rfl (by decide) (aF (d1:=.lst [.int 4,.int 4,.int 4,.int 16]) rfl (fM rfl (by decide) rfl (by decide)) hx) (by lia)) rfl)
  (gU (aF rfl (fM rfl (by decide) (aF (d1:=.lst [.int 1,.int 2,.int 8]) rfl (fM rfl (by decide) rfl (by decide)) hy) (by lia)) rfl)
  (gU (aF rfl (fM rfl (by decide) (aF (d1:=.lst [.int 1,.int 1,.int 3]) rfl (fM rfl (by decide) rfl (by decide)) hz) (by lia)) rfl)
  (CW (jt (aW (p:=(.int (1+mx a 99991 x),.sh [3])) rfl (aW (p:=(.int (1+mx a 90001 y),.sh [4])) rfl (aW (p:=(.int (1+mx b 70001 z),.sh [5])) rfl (aW (aF rfl (fM rfl (by decide) rfl (by decide)) rfl) (show aD _=some [] from rfl)))))) rfl))))))
abbrev Nn:=List (Int×Int×Int)
def jm(p:Int×Int):D:=.tup [.int p.1,.int p.2]
def dN(N:Nn):D:=.bZ (N.map λp=>((Sum.inl p.1:Key),jm p.2))
def rN(c:Int)(N:Nn)(s2 s3 s4:Slot):aR:=[some (.int c,.sh []),some (dN N,.own),s2,s3,s4]
def ahJ(N:Nn):aK ((N.map λp=>((Sum.inl p.1:Key),jm p.2)).map (·.2))=true:=v_.mpr λd m=>by
 rw[adw] at m;let#[q,_,rfl]:=abG.mp m;rfl
theorem P4:∀N:Nn,i_ (N.map λp=>((Sum.inl p.1:Key),jm p.2))=some (N.map (·.1))
 |[]=>rfl
 |q::r=>by
  rw[aas];show(i_ (r.map λp=>((Sum.inl p.1:Key),jm p.2))).map _=_;rw[P4 r];rfl
def Tt{N:Nn}(hk:fk (rN c N s2 s3 s4)=some (.int x,t))(hv:fv (rN c N s2 s3 s4)=some (jm (a,b),t2))(hl:N.length<=100):∃zq ux KG,nu 1 fk fv (rN c N s2 s3 s4)=some (.nx (rN c (gp N x (a,b)) zq ux KG)):=by
  have key:nu 1 fk fv (rN c N s2 s3 s4)=some (.nx (cJ (rN c N s2 s3 s4) 1 (dN (gp N x (a,b))))):=by
   unfold nu;rw[hv,hk];show(if(aB (jm (a,b))&&aK ((N.map λp=>((Sum.inl p.1:Key),jm p.2)).map (·.2))&&decide ((N.map λp=>((Sum.inl p.1:Key),jm p.2)).length<sizeLine))=true then some (Out.nx (cJ _ 1 (.bZ (putD (N.map λp=>((Sum.inl p.1:Key),jm p.2)) (Sum.inl x:Key) (jm (a,b)))))) else none)=_;rw[if_pos (by rw[ahJ,List.length_map,aa1 (size_le (by lia))];rfl),RJ (φ:=(Sum.inl:Int->Key)) (ψ:=jm) λa b=>ajz];rfl
  apply#[_,_,_,key]
def Nv{Y:aR}{sf:SF}{N:Nn}{n:Nat}(h:∃s2 s3 s4,sf Y=some (.nx (rN c N s2 s3 s4)))(hl:N.length<=n):Wq (λr=>∃aQ,r=.nx aQ/\∃N s2 s3 s4,aQ=rN c N s2 s3 s4/\N.length<=n) (sf Y):=
 let#[_,_,_,e]:=h
 #[_,e,_,rfl,_,_,_,_,rfl,hl]
def Zs{N:Nn}(m:s∈N.map (·.1)):∃p,gv N s=some p:=by
 unfold gv;let#[q,mq,e]:=abG.mp m;cases h:N.find? λkv=>decide (kv.1=s) with
 |none=>apply absurd (aa1 e) (ahp.mp h q mq)
 |some z=>apply#[_,rfl]
def aeV:∃d,Zh [.int c]=some d/\∃E:List Ed,d=eL E/\E.length<=3:=by
 have bn:=jz (a:=c) (p:=60013) (m:=4) (by decide);obtain⟨n,hn⟩:∃n:Nat,mx c 60013 4=n:=#[(mx c 60013 4).toNat,by lia]
 refine CI rfl (iy rfl (ly (rN c [] none none none) ?_));refine Xf (λj Y=>∃N s2 s3 s4,Y=rN c N s2 s3 s4/\N.length<=j) (HS (hn ▸ fM rfl (by decide) rfl (by decide)) (by lia)) #[[],_,_,_,rfl,aa9 _] (λj Y hj #[N,s2,s3,s4,e,nk]=>?_) λY ⟨N,s2,s3,s4,e,nk⟩=>?_
 .subst e;rw[Int.zero_add];have hj:j<4:=by lia
  have l1:∀(x:Int) (p:Int×Int),(gp N x p).length<=j+1:=λx p=>adJ Nt (by lia)
  have q:∀(a:Int) s3 s4,-(2 ^ 64)<a/\a<2 ^ 64->e2 iN (aj 0) (e2 kO (e2 kO (eC (.int a)) (aj 2)) (aj 2)) (rN c N (some (.int j,.sh [])) s3 s4)=some (.int (c+a*j*j),.own):=λa s3 s4 ha=>aF rfl (aF (aF rfl rfl (mT (rY ha))) rfl (mT (Dl (by lia)))) rfl
  refine#[rN c N (some (.int j,.sh [])) s3 s4,rfl,vF (bJ (aF (fM rfl (by decide) rfl (by decide)) rfl m9)) (λ_=>?_) λ_=>?_]
  .refine iy (fM (q 3 _ _ (by decide)) (by decide) rfl (by decide)) ?_;generalize mx (c+3*j*j) 40009 3=o;refine ly (rN c N (some (.int j,.sh [])) (some (.int o,.own)) s4) ?_;refine iy (aF (aF (aF rfl rfl rfl) (fM (q 5 _ _ (by decide)) (by decide) rfl (by decide)) rfl) rfl (kC (by decide))) ?_;generalize(o+1+mx (c+5*j*j) 50021 2) % 3=z;refine ly (rN c N (some (.int j,.sh [])) (some (.int o,.own)) (some (.int z,.own))) ?_;apply Nv (Tt (fM (q 7 _ _ (by decide)) (by decide) rfl (by decide)) (jt (aW (p:=(.int o,.sh [3])) rfl (aW (p:=(.int z,.sh [4])) rfl (show aD _=some [] from rfl)))) (by lia)) (l1 _ _)
  .exact Nv (Tt (fM (q 7 _ _ (by decide)) (by decide) rfl (by decide)) (jt (aW (p:=(.int 0,.own)) rfl (aW (aF rfl (aF (aF rfl rfl rfl) (aF rfl rfl rfl) (kC (by decide))) rfl) (show aD _=some [] from rfl)))) (by lia)) (l1 _ _)
 .subst e;have hs:e1 mV (aj 1) (rN c N s2 s3 s4)=some (iL (dY (N.map (·.1))),.own):=cB rfl (by
   show(match i_ (N.map λp=>((Sum.inl p.1:Key),jm p.2)) with|some ns=>if ns.length<64 then some (D.lst ((dY ns).map D.int)) else none|none=>none)=_;rw[P4];dsimp only;rw[if_pos (by rw[List.length_map];lia)];rfl)
  let fx:Int->Ed:=λx=>(x,((gv N x).getD (0,0)).1,((gv N x).getD (0,0)).2)
  have hc:=jE (js:=[none,some 1]) (g:=gN 0) (tt:=nH) (te:=h_ (au (aj 0) (au (e2 cC (e2 kH (aj 1) (aj 0)) (eC (.int 0))) (au (e2 cC (e2 kH (aj 1) (aj 0)) (eC (.int 1))) aD)))) (k:=λd=>match d with | .int x=>some (dT (fx x)) | _=>none) (kr hs) (by rw[List.length_map,yI,List.length_map];apply size_le (by lia)) (λd m=>by
   let#[x,mx,rfl]:=abG.mp m;let#[p,h1]:=Zs (Ci.mp mx);have hg:e2 kH (aj 1) (aj 0) [some (.int x,.sh []),some (dN N,.sh [])]=some (jm p,.own):=aF rfl rfl (by
    show(bC (N.map λp=>((Sum.inl p.1:Key),jm p.2)) (Sum.inl x:Key)).bind _=_;rw[HY (φ:=(Sum.inl:Int->Key)) (ψ:=jm) λa b=>ajz,h1];rfl)
   refine n9 rfl rfl (jt (aW (p:=(.int x,.sh [])) rfl (aW (aF hg rfl rfl) (aW (aF hg rfl rfl) (show aD _=some [] from rfl))))) rfl |>.trans ?_
   show _=some (some (dT (x,((gv N x).getD (0,0)).1,((gv N x).getD (0,0)).2)));rw[h1];rfl)
  rw[ae7,show((dY (N.map (·.1))).filterMap ((λd=>match d with|D.int x=>some (dT (fx x))|_=>none) ∘ D.int))=(dY (N.map (·.1))).map (λx=>dT (fx x)) from lS _ _] at hc;refine#[_,cH hc,_,rfl,(dY (N.map (·.1))).map fx,by unfold eL;rw[adw];rfl,by rw[List.length_map,yI,List.length_map];lia]
def T6(E:List Ed):yD (eL E)=some (.tup (E.map dT)):=if_pos (m5 E)
def pL(m b c w r:Int)(l:List Int)(E:List Ed):aR:=[some (.int m,.sh []),some (.int b,.sh []),some (.int c,.sh []),some (.int w,.own),some (.int r,.own),some (.tup (l.map D.int),.own),some (eL E,.own)]
def Cn(h:g Y=some ps):gz g Y=some (.lst (ps.map (·.1)),iU ps):=by unfold gz;rw[h];rfl
def yP(ha:fa Y=some (.int x,.own))(hb:fb Y=some (.int y,.own))(hc:fc Y=some (.int z,.own)):h_ (au fa (au fb (au fc aD))) Y=some (dT (x,y,z),.own):=jt (aW ha (aW hb (aW hc (show aD _=some [] from rfl))))
def Qe(E:List Ed):Prop:=E.length<=3\/E.length=21
def xr{Q:Out->Prop}{k:Int}{A:AF}(hA:∀r E,∃E',gz A (pL m b c w r l E)=some (eL E',.own)/\E'.length<=3)(q:Qe E)(hk:∀E,Qe E->Wq Q (sg (pL m b c w r l E))):Wq Q (bY (dZ (tV (e2 oEq (aj 3) (eC (.int k)))) (eS 6 (gz A)) fB) sg (pL m b c w r l E)):=by
 refine B3 (I:=λY=>∃E,Y=pL m b c w r l E/\Qe E) (vF (bJ (aF rfl rfl m9)) (λ_=>?_) λ_=>#[_,rfl,_,rfl,_,rfl,q]) λY ⟨E,e,q⟩=>e ▸ hk E q
 let#[E',h,h3]:=hA r E;apply#[_,by rw[kG,h];rfl,_,rfl,E',rfl,.inl h3]
def abW:∃d,aac [.int m,.int b,.int c]=some d/\∃q l E,d=rD (.ask q l E)/\ze (.ask q l E):=by
 have bw:=jz (a:=b) (p:=70001) (m:=11) (by decide);generalize ew:mx b 70001 11=w at bw;generalize er:mx b 40009 10=r0;obtain⟨l,hl,l2⟩:∃l:List Int,d7 [D.tup [.int 1,.int 1],D.tup [.int (m+1)],D.tup [.int 0],D.tup [.int 2,.int 1],D.tup [],D.tup [],D.tup [],D.tup [],D.tup [],D.tup [],D.tup []] w=some (.tup (l.map D.int))/\l.length<=2:=by
  obtain rfl|rfl|rfl|rfl|rfl|rfl|rfl|rfl|rfl|rfl|rfl:w=0\/w=1\/w=2\/w=3\/w=4\/w=5\/w=6\/w=7\/w=8\/w=9\/w=10:=by lia
  .exact#[[1,1],rfl,ahc rfl]
  .exact#[[m+1],rfl,ahc rfl]
  .exact#[[0],rfl,by decide]
  .exact#[[2,1],rfl,by decide]
  all_goals apply#[[],rfl,by decide]
 have p9:∀{Y},e2 FO (eC (.int 10)) (eC (.int 9)) Y=some (.int (10 ^ 9),.own):=λ{Y}=>aF (d:=.int (10 ^ 9)) rfl rfl rfl
 have Vg:∀{Y},e2 FO (eC (.int 10)) (eC (.int 11)) Y=some (.int (10 ^ 11),.own):=λ{Y}=>aF (d:=.int (10 ^ 11)) rfl rfl rfl
 refine CI rfl (iy (fM rfl (by decide) rfl (by decide)) (iy (fM rfl (by decide) rfl (by decide)) ?_));rw[ew,er];refine iy (d:=.tup (l.map D.int)) (t:=.own) ?_ (iy (d:=eL []) (t:=.own) rfl (ly (pL m b c w r0 l []) ?_))
 .show(d7 [D.tup [.int 1,.int 1],D.tup [.int (m+1)],D.tup [.int 0],D.tup [.int 2,.int 1],D.tup [],D.tup [],D.tup [],D.tup [],D.tup [],D.tup [],D.tup []] w).map _=_;rw[hl];rfl
 refine xr (λr E=>#[[(5,0,1),(5,1,2)],rfl,by decide]) (.inl (adN _)) λE q=>?_
 refine xr (λr E=>#[[(7+c % 900,0,1),(3,0,1)],Cn (aW (yP (aF rfl (aF rfl rfl (kC (by decide))) rfl) rfl rfl) (aW (yP rfl rfl rfl) (show aD _=some [] from rfl))),ahc rfl]) q λE q=>?_
 refine xr (λr E=>#[[(1000+c % 10 ^ 9,0,1)],Cn (aW (yP (aF rfl (aF rfl p9 (kC (by decide))) rfl) rfl rfl) (show aD _=some [] from rfl)),ahc rfl]) q λE q=>?_
 refine xr (λr E=>#[[(4,1+c % 9,1+c % 9)],Cn (aW (yP rfl (aF rfl (aF rfl rfl (kC (by decide))) rfl) (aF rfl (aF rfl rfl (kC (by decide))) rfl)) (show aD _=some [] from rfl)),ahc rfl]) q λE q=>?_
 refine xr (λr E=>#[[(c % 1000,0,10 ^ 9+1+c % 10 ^ 9)],Cn (aW (yP (aF rfl rfl (kC (by decide))) rfl (aF (aF p9 rfl rfl) (aF rfl p9 (kC (by decide))) rfl)) (show aD _=some [] from rfl)),ahc rfl]) q λE q=>?_
 refine B3 (I:=λY=>∃E,Y=pL m b c w r0 l E/\Qe E) (vF (bJ (aF rfl rfl m9)) (λ_=>?_) λ_=>#[_,rfl,_,rfl,_,rfl,q]) λY ⟨E,e,q⟩=>?_
 .have hc:=jE (js:=[none]) (g:=gN 0) (tt:=nH) (te:=h_ (au (aj 0) (au (eC (.int 0)) (au (eC (.int 1)) aD)))) (Y:=pL m b c w r0 l E) (k:=λd=>match d with | .int x=>some (dT (x,0,1)) | _=>none) (HS (e:=eC (.int 21)) (n:=21) rfl (by decide)) (by rw[List.length_map,mE];apply size_le (by decide)) (λd md=>by
   let#[x,_,rfl]:=abG.mp md;apply n9 rfl rfl (jt (aW (p:=(.int x,.sh [])) rfl (aW (p:=(.int 0,.own)) rfl (aW (p:=(.int 1,.own)) rfl (show aD _=some [] from rfl))))) rfl)
  rw[ae7,show((cz 0 21).filterMap ((λd=>match d with|D.int x=>some (dT (x,0,1))|_=>none) ∘ D.int))=(cz 0 21).map (λx=>dT (x,0,1)) from lS _ _] at hc;apply#[_,by rw[kG,hc];rfl,_,rfl,(cz 0 21).map λx=>(x,0,1),by unfold pL eL;rw[adw];rfl,.inr (by rw[List.length_map,mE])]
 subst e;refine B3 (I:=λY=>∃r,Y=pL m b c w r l E) (vF (bJ (aF rfl rfl m9)) (λ_=>#[_,by rw[kG,aF (d:=.int (10+c % 10 ^ 11)) rfl (aF rfl Vg (kC (by decide))) rfl];rfl,_,rfl,_,rfl]) λ_=>#[_,rfl,_,rfl,_,rfl]) λY ⟨r,e⟩=>?_
 subst e;refine#[_,CW (jt (aW (p:=(.str "ask",.own)) rfl (aW (p:=(.int r,.sh [4])) rfl (aW (p:=(.tup (l.map D.int),.sh [5])) rfl (aW (cB rfl (T6 E)) (show aD _=some [] from rfl)))))) ?_,_,rfl,r,l,E,rfl,by lia,by rcases q with q|q<;>lia,λn q' h=>?_]
 .show(true&&(true&&(aK (l.map D.int)&&(aK (E.map dT)&&true))))=true;rw[c_,m5];rfl
 .rcases q with q|q
  .exact q
  .unfold kZ at h;simp only[aaF,aiU] at h
   lia
def rR(g:G)(m:Nat)(a b c:Int)(s5 s6 s7 s8:Slot):aR:=[some (gD g,.sh []),some (.int m,.sh []),some (.int a,.sh []),some (.int b,.sh []),some (.int c,.sh []),s5,s6,s7,s8]
def Sw:Rw->Prop
 |.jJ _ w=>PyData.strOk w=true
 |_=>True
def UP{L:List (List Int)}{v:Int}(h:0<=v/\v<L.length):∃l∈L,cC (.lst (cT L)) (.int v)=some (tD l):=by
 have cI:v.toNat<L.length:=by lia
 refine#[L[v.toNat],List.getElem_mem cI,zh ?_ (c_ _)];unfold d7 lR cT;rw[List.length_map,if_pos (by lia),if_pos (by lia),ac1,acB,abe cI];rfl
def Y9(l:List Int):∃k:List Int,xQ none (some 3) (iL l)=some (iL k)/\k.length<=l.length:=by
 refine#[(l.drop (HT.bB l.length 0 none)).take (HT.bB l.length l.length (some 3)-HT.bB l.length 0 none),?_,?_]
 .show(if aK (l.map D.int)=true then some (D.lst (cutD (l.map D.int) none (some 3))) else none)=_;rw[if_pos (c_ _)];unfold cutD iL;rw[List.map_take,List.map_drop,List.length_map]
 .rw[ahs,ajj];lia
def ahM(L:List (List Int)):kc (.lst (cT L)) (.lst [])=some (.bl (!decide (L=[]))):=by
 unfold kc;rw[(Jl L).lay (by decide),show cX (.lst [])=true from rfl,agD,if_pos rfl];ext L<;>rfl
def Xl{m:Nat}(hm:m<=20):∃d,ahV [gD g,.int m,.int a,.int b,.int c]=some d/\∃r,d=rD r/\ze r/\Sw r:=by
 have bk:=jz (a:=a) (p:=10007) (m:=13) (by decide);refine CI rfl (iy (fM rfl (by decide) rfl (by decide)) ?_);generalize mx a 10007 13=k at bk;refine iy (nA rfl Og) (ly (rR g m a b c (some (.int k,.own)) (some (.lst (cT g.lk),.own)) none none) ?_);refine v9 (vf (bJ (aF rfl rfl m9)) (bJ (aF rfl rfl BP))) (λ_=>?_) λh0=>?_
 .
  have hi:qO (eC (.int 1)) (e2 iN (aj 1) (eC (.int 1))) (rR g m a b c (some (.int k,.own)) (some (.lst (cT g.lk),.own)) none none)=some ((cz 1 m).map D.int,.own):=by
   rw[CO rfl (aF rfl rfl rfl) (pS (by lia) (by lia)) (pS (by lia) (by lia)),show((m:Int)+1-1).toNat=m by lia]
  have hc:=y9 (js:=[none,some 3]) (tt:=tV (e2 oEq (cQ wL (au (e2 iN (aj 1) (e2 kO (aj 0) (aj 0))) (au (eC (.int 50021)) (au (eC (.int 4)) aD)))) (eC (.int 0)))) (p:=λx=>mx (b + x * x) 50021 4 == 0) hi (by rw[mE];lia) (λx=>rfl) (λx mxm=>by
   have:=kF.mp mxm;apply bJ (aF (fM (aF rfl (aF rfl rfl (mT (rY (by lia)))) rfl) (by decide) rfl (by decide)) rfl m9))
  have hlen:((cz 1 m).filter λx=>mx (b+x*x) 50021 4==0).length<=20:=by
   have:=ahb (λx=>mx (b+x*x) 50021 4==0) (cz 1 m);rw[mE] at this
   lia
  generalize(cz 1 m).filter (λx=>mx (b+x*x) 50021 4==0)=l at hc hlen;let#[l3,Fk,ll]:=Y9 l;refine BD (iy (cB hc Fk) (ly (rR g m a b c (some (.int k,.own)) (some (.lst (cT g.lk),.own)) (some (iL (l3),.own)) none) ?_));refine v9 (xS (bJ (aF rfl rfl m9)) (bJ (aF (fM rfl (by decide) rfl (by decide)) rfl m9))) (λ_=>BD ?_) λ_=>?_
  .let#[_,e,q,l,E,rfl,o]:=abW (m:=(m:Int)) (b:=b) (c:=c);refine#[_,cH (cV rfl e),_,rfl,_,rfl,_,rfl,.ask q l E,rfl,o,trivial]
  .let#[_,e,E,rfl,lE]:=aeV (c:=c);refine#[_,cH (jt (aW (p:=(.str "ask",.own)) rfl (aW (fM rfl (by decide) rfl (by decide)) (aW (cB rfl Jf) (aW (cB (cV rfl e) (T6 E)) (show aD _=some [] from rfl)))))),_,rfl,_,rfl,.ask (mx b 40009 10) (l3) E,rfl,#[by lia,by lia,λ_ _ _=>lE],trivial]
 .have bo:=Bool.or_eq_false_iff.mp h0;have k5:=ai7 bo.2;refine v9 (bJ (aF rfl rfl BP)) (λ_=>BD ?_) λh1=>?_
  .
   obtain⟨w,hw,ow⟩:∃w:Str,cC (.lst [.str "yes",.str "no",.str "unsure",.str "yes",.str "maybe",.str "yes",.str "no"]) (.int (mx c 20011 7))=some (.str w)/\PyData.strOk w=true:=by
    have h:=jz (a:=c) (p:=20011) (m:=7) (by decide);generalize mx c 20011 7=j at h;obtain rfl|rfl|rfl|rfl|rfl|rfl|rfl:j=0\/j=1\/j=2\/j=3\/j=4\/j=5\/j=6:=by lia
    all_goals apply#[_,rfl,by decide +kernel]
   have bl:=jz (a:=b) (p:=30011) (m:=(m:Int)+1) (by lia);have h8:A7 (au (eC (.int 1)) (au (e2 iN (eC (.int 1)) (cQ wL (au (aj 3) (au (eC (.int 30011)) (au (e2 iN (aj 1) (eC (.int 1))) aD))))) aD)) (rR g m a b c (some (.int k,.own)) (some (.lst (cT g.lk),.own)) none none)=some (tD (cz 1 (mx b 30011 ((m:Int)+1)).toNat),.own):=by
    unfold A7;rw[aW (p:=(.int 1,.own)) rfl (aW (aF rfl (fM rfl (by decide) (aF rfl rfl rfl) (by lia)) rfl) (show aD _=some [] from rfl))];dsimp only;rw[if_pos (by lia),show(1+mx b 30011 ((m:Int)+1)-1).toNat=(mx b 30011 ((m:Int)+1)).toNat by lia];unfold tD cz;rw[adw];rfl
   refine iy h8 (ly (rR g m a b c (some (.int k,.own)) (some (.lst (cT g.lk),.own)) none (some (tD (cz 1 (mx b 30011 ((m:Int)+1)).toNat),.own))) ?_);generalize cz 1 (mx b 30011 ((m:Int)+1)).toNat=L0;refine B3 (I:=λY=>∃L,Y=rR g m a b c (some (.int k,.own)) (some (.lst (cT g.lk),.own)) none (some (tD L,.own))) (vF (xS (bJ (aF rfl rfl BP)) (bJ (aF rfl rfl (ahM g.lk)))) (λh2=>?_) λ_=>#[_,rfl,_,rfl,_,rfl]) λY ⟨L,e⟩=>?_
   .have hn:=ai7 (by simpa using((aaF _ _).mp h2).2:decide (g.lk=[])=false);have hp:=List.length_pos_iff.mpr hn;have bj:=jz (a:=b) (p:=30011) (m:=(g.lk.length:Int)) (by lia);let#[L,_,hL]:=UP bj;apply#[_,by rw[kG,aF (d:=tD L) rfl (fM rfl (by decide) (cB rfl T3) (by lia)) hL];rfl,_,rfl,L,rfl]
   .subst e;apply#[_,CW (jt (aW (p:=(.str "answer",.own)) rfl (aW (p:=(tD L,.sh [8])) rfl (aW (aF (d1:=.lst [.str "yes",.str "no",.str "unsure",.str "yes",.str "maybe",.str "yes",.str "no"]) rfl (fM rfl (by decide) rfl (by decide)) hw) (show aD _=some [] from rfl))))) (by show(true&&(aK (L.map D.int)&&(true&&true)))=true;rw[c_];rfl),_,rfl,_,rfl,.jJ L w,rfl,trivial,ow]
  .have k10:=ai7 h1;have bl:=jz (a:=b) (p:=30011) (m:=(m:Int)+2) (by lia);refine v9 (bJ (aF rfl rfl m9)) (λ_=>BD ?_) λh2=>?_
   .refine#[_,cH (jt (aW (p:=(.str "withdraw",.own)) rfl (aW (fM rfl (by decide) (aF rfl rfl rfl) (by lia)) (show aD _=some [] from rfl)))),_,rfl,_,rfl,.jU (mx b 30011 ((m:Int)+2)),rfl,(by show _<2 ^ 64;lia),trivial]
   .have k11:k=11\/k=12:=by
     have:k≠10:=by simpa using h2
     lia
    have e:Ea (gz (au (h_ (au (eC (.str "stop")) aD)) (au (h_ (au (eC (.str "go")) aD)) aD))) (e2 jv (aj 5) (eC (.int 11))) (rR g m a b c (some (.int k,.own)) (some (.lst (cT g.lk),.own)) none none)=some (rD (if k=11 then .stop else .go),.own):=by
     rcases k11 with rfl|rfl<;>rfl
    apply#[_,cH e,_,rfl,_,rfl,by split<;>trivial,by split<;>trivial]
def Mv:∀r:Rw,aB (rD r)=true
 |.ask q l E=>by show(true&&(true&&(aK (l.map D.int)&&(aK (E.map dT)&&true))))=true;rw[c_,m5];rfl
 |.jU _=>rfl
 |.jJ L _=>by show(true&&(aK (L.map D.int)&&(true&&true)))=true;rw[c_];rfl
 |.stop=>rfl
 |.go=>rfl
def aaH(E:List Ed):∀d∈E.map dT,Lz 1 d:=λd m=>by
 let#[p,_,rfl]:=abG.mp m;apply o6 [p.1,p.2.1,p.2.2]
def OC{b:Bool}{ds:List D}{n:Nat}(h:∀d∈ds,Lz n d):Lz (n+1) (wb b ds):=by ext b;apply jM h;apply Fz h
def aip{b:Bool}:∀r:Rw,Sw r->cX (hD b r)=true
 | .ask q l E,_=>(jM (n:=2) λd m=>by
   simp only[aat,acO,afH] at m;rcases m with rfl|rfl|rfl|rfl
   .exact(kT "ask").up (by decide)
   .exact(nR _).up (by decide)
   .exact(OC (n:=0) λd m=>by let#[x,_,rfl]:=abG.mp m;apply nR x).up (by decide)
   .exact OC (aaH E)).lay (by decide)
 | .jU x,_=>(jM (n:=0) λd m=>by
   simp only[aat,acO,afH] at m;rcases m with rfl|rfl
   .exact kT "withdraw"
   .exact nR x).lay (by decide)
 | .jJ L w,h=>(jM (n:=1) λd m=>by
   simp only[aat,acO,afH] at m;rcases m with rfl|rfl|rfl
   .exact(kT "answer").up (by decide)
   .exact o6 L
   .exact(kT w h).up (by decide)).lay (by decide)
 |.stop,_=>(jM (n:=0) λd m=>by rw[aaK.mp m];apply kT "stop").lay (by decide)
 |.go,_=>(jM (n:=0) λd m=>by rw[aaK.mp m];apply kT "go").lay (by decide)
def Wy{bs:List Bool}(h:Vt v):cX (.tup [v,.bX (bs.map D.bl)])=true:=(jM (n:=1) λd m=>by
 simp only[aat,acO,afH] at m;rcases m with rfl|rfl
 .rcases h with rfl|⟨i,rfl⟩|⟨s,rfl,h⟩
  .exact GH.up (by decide)
  .exact(nR i).up (by decide)
  .exact(kT s h).up (by decide)
 .exact Fz λd m=>by let#[x,_,rfl]:=abG.mp m;apply Kh x).lay (by decide)
def WM(h:Vt v):abT [v,v]=some (.bl true):=by
 rcases h with rfl|⟨i,rfl⟩|⟨s,rfl,_⟩<;>rfl
def aaW(h:aK ds=true):lY (.tup ds)=some (.lst ds):=if_pos h
def Sl:Rw->Prop
 |.ask _ _ E=>E.length<=100
 |_=>True
def afI(k:Int)(r:Rw)(hE:Sl r):GS [rD r,.int k]=some (hD (k==1) r):=by
 have t1:tV (e2 oEq (aj 1) (eC (.int 1))) [some (rD r,.sh []),some (.int k,.sh [])]=some (k==1):=bJ (aF rfl rfl m9);have no:tV (e2 oEq (e2 cC (aj 0) (eC (.int 0))) (eC (.str "ask"))) [some (rD r,.sh []),some (.int k,.sh [])]=some false->hD (k==1) r=rD r->GS [rD r,.int k]=some (hD (k==1) r):=λh e=>by
  rw[e];refine bR rfl (bP (aeZ h) ?_);show(if jy (.sh [])=true then some (Out.rt (rD r)) else if aB (rD r)=true then some (.rt (rD r)) else none)=_;rw[Mv];rfl
 cases r with
 |jU=>apply no rfl rfl
 |jJ=>apply no rfl rfl
 |stop=>apply no rfl rfl
 |go=>apply no rfl rfl
 |ask q l E=>
  cases hk:k==1 with
  |false=>
   rw[hk] at t1;refine bR rfl (bP ((AD rfl).trans t1) ?_);show(if jy (.sh [])=true then some (Out.rt (rD (.ask q l E))) else if aB (rD (.ask q l E))=true then some (.rt (rD (.ask q l E))) else none)=_;rw[Mv];rfl
  |true=>
   rw[hk] at t1;have x2:e2 cC (aj 0) (eC (.int 2)) [some (rD (.ask q l E),.sh []),some (.int k,.sh [])]=some (.tup (l.map D.int),.own):=aF rfl rfl (jB rfl (c_ l));have x3:e2 cC (aj 0) (eC (.int 3)) [some (rD (.ask q l E),.sh []),some (.int k,.sh [])]=some (.tup (E.map dT),.own):=aF rfl rfl (jB rfl (m5 E));have c2:k_ (e1 lY (e2 cC (aj 0) (eC (.int 2)))) [some (rD (.ask q l E),.sh []),some (.int k,.sh [])]=some (.bX (l.map D.int),.own):=by
    unfold k_;rw[cB x2 (aaW (c_ l))];apply if_pos (c_ l)
   have c3:k_ (iW [none] (iu (e2 cC (aj 0) (eC (.int 3)))) (gN 0) nH (aj 0)) [some (rD (.ask q l E),.sh []),some (.int k,.sh [])]=some (.bX (E.map dT),.own):=by
    unfold k_
    by_cases hl:E.length<=100
    .have hc:=jE (js:=[none]) (g:=gN 0) (tt:=nH) (te:=aj 0) (k:=some) (Mh.seq x3) (by rw[List.length_map];apply size_le (by lia)) (λd md=>by
      let#[p,_,rfl]:=abG.mp md;apply n9 rfl rfl rfl rfl)
     rw[hc,List.filterMap_some];apply if_pos (m5 E)
    .exact absurd hE hl
   apply bR rfl (EE ((AD rfl).trans t1) (cH (jt (aW (p:=(.str "ask",.own)) rfl (aW (p:=(.int q,.own)) rfl (aW c2 (aW c3 (show aD _=some [] from rfl))))))))
def rV(ns:List Int)(q:D)(g g':G)(m:Nat)(s5 s6 s7 s8 s9 fH fG jQ jW:Slot):aR:=[some (dI ns,.sh []),some (q,.own),some (gD g,.own),some (gD g',.own),some (.int m,.own),s5,s6,s7,s8,s9,fH,fG,jQ,jW]
def R0{f:XF}(h:f Y=some (d,Y'))(k:Wq Q (sg (iI Y' i d .own))):Wq Q (bY (Al i f) sg Y):=wK (by unfold Al;rw[h]) k
def afM{f:EF}{gg:GF}(h:f Y=some (d,t))(h2:gg d t Y=some Y')(k:Wq Q (sg Y')):Wq Q (bY (BI f gg) sg Y):=wK (by unfold BI;rw[h];show(gg d t Y).map _=_;rw[h2];rfl) k
def QD{F:MF}{dd:D}(h0:Y[i]? = some (some (dd,.own)))(hg:A Y=some ps)(ha:apart i ps=true)(h:F dd (ps.map (·.1))=some (r,d1))(hi:aB r=true):Bg i F A Y=some (r,cJ Y i d1):=by
 unfold Bg;rw[h0,hg];dsimp only;rw[if_pos ha,h];apply if_pos hi
def ael(r:Rw){Y}(h:aj 9 Y=some (rD r,t)):∃b,tV (e2 oEq (e2 cC (aj 9) (eC (.int 0))) (eC (.str "ask"))) Y=some b:=by
 cases r with
 |ask=>apply#[_,bJ (aF (aF h rfl (jB rfl rfl)) rfl rfl)]
 |jU=>apply#[_,bJ (aF (aF h rfl (jB rfl rfl)) rfl rfl)]
 |jJ=>apply#[_,bJ (aF (aF h rfl (jB rfl rfl)) rfl rfl)]
 |stop=>apply#[_,bJ (aF (aF h rfl (jB rfl rfl)) rfl rfl)]
 |go=>apply#[_,bJ (aF (aF h rfl (jB rfl rfl)) rfl rfl)]
def VQ(o:ze r):Sl r:=by
 cases r with
 |ask=>apply o.2.1
 |_=>trivial
def ZF(hw:1<=w/\w<=16)(hh:1<=h/\h<=8)(nt:1<=n/\n<=t/\t<=20):Iv 0 (g0 w h n t):=by
 refine#[#[#[hw,hh,nt,#[adN _,adN _,λm=>#[#[.nil,adN _],.nil,λp m=>nomatch m],λm x h1 h2=>?_,λm=>?_],(λx m=>nomatch m),.nil,?_,(λx m=>nomatch m),#[rfl,.nil,(λk m=>nomatch m),λp m=>nomatch m],[],rfl],(λp m=>nomatch m),(λc m=>nomatch m),.nil,aa9 _,(λd m=>nomatch m),aa9 _,aa9 _],λL m=>nomatch m]
 .have h2:m<=((0:Nat):Int):=h2
  lia
 .unfold lean;split<;>apply adN _
 .show((0:Nat):Int)<=w;lia
def acJ(ha:ga Y=some ps)(hp:ps.map (·.1)=[.int w,.int h,.int n,.int t])(hw:1<=w/\w<=16)(hh:1<=h/\h<=8)(nt:1<=n/\n<=t/\t<=20):lN "Gate" Er ga Y=some (gD (g0 w h n t),.own):=by
 unfold lN;rw[ha,ac1,hp,UM hw hh nt]
def YA(hl:ns.length<=63):xU [dI ns]=some (.bl true):=by
 let#[w,h,n,t,e4,hw,hh,nt]:=abZ (ns:=ns);let#[N,hN,eN]:=Zv hl;have mk:∀{s2 s3 s4 s5 s6 s7 s8 s9 fH fG jQ jW:Slot},lN "Gate" Er (au (e2 cC (aj 1) (eC (.int 0))) (au (e2 cC (aj 1) (eC (.int 1))) (au (e2 cC (aj 1) (eC (.int 2))) (au (e2 cC (aj 1) (eC (.int 3))) aD)))) [some (dI ns,.sh []),some (.tup [.int w,.int h,.int n,.int t],.own),s2,s3,s4,s5,s6,s7,s8,s9,fH,fG,jQ,jW]=some (gD (g0 w h n t),.own):=λ{s2 s3 s4 s5 s6 s7 s8 s9 fH fG jQ jW}=>acJ (ps:=[(.int w,.own),(.int h,.own),(.int n,.own),(.int t,.own)]) rfl rfl hw hh nt
 suffices q:∃d,xU [dI ns]=some d/\d=.bl true by
  let#[_,e,rfl]:=q;apply e
 refine CI rfl (iy (cV rfl e4) (iy mk (iy mk (iy rfl (ly (rV ns (.tup [.int w,.int h,.int n,.int t]) (g0 w h n t) (g0 w h n t) 0 none none none none none none none none none) ?_)))));refine abl (λj Y=>∃g m s5 s6 s7 s8 s9 fH fG jQ jW,Y=rV ns (.tup [.int w,.int h,.int n,.int t]) g g m s5 s6 s7 s8 s9 fH fG jQ jW/\Iv j g/\g.C.length<=j/\m<=j) (λ_=>False) (HS (cV rfl eN) (by lia)) (.inl rfl) #[_,_,_,_,_,_,_,_,_,_,_,rfl,ZF hw hh nt,aa9 _,aa9 _] (λj Y d hd #[g,m,s5,s6,s7,s8,s9,fH,fG,jQ,jW,e,k,hC,hm]=>?_) (λY ⟨g,m,s5,s6,s7,s8,s9,fH,fG,jQ,jW,e,k,hC,hm⟩=>?_) λx f=>f.elim
 .subst e;obtain⟨hd,hj⟩:d=.int j/\j<N:=by
   rw[acB] at hd;let#[x,hx,rfl]:=ac3.mp hd;unfold cz at hx;rw[acB] at hx;let#[y,hy,rfl]:=ac3.mp hx;let#[cI,ey]:=acN.mp hy;rw[List.getElem_range] at ey;rw[ajd] at cI;subst ey;apply#[by rw[Int.zero_add],cI]
  subst hd;refine#[rV ns (.tup [.int w,.int h,.int n,.int t]) g g m (some (.int j,.sh [])) s6 s7 s8 s9 fH fG jQ jW,rfl,?_];let#[a,b,c,e3]:=af0 (ns:=ns) (k:=j) (by lia);let#[_,er,r,rfl,o,sw]:=Xl (g:=g) (a:=a) (b:=b) (c:=c) (m:=m) (by lia);let#[v,bs,g3,t1,t2,k3,hC3,vt]:=VS k (by lia) (by lia) o;have hT:=λk=>afI k r (VQ o)
  have iT:aB (.tup [v,.bX (bs.map D.bl)])=true:=by
   show(aB v&&(aK (bs.map D.bl)&&true))=true;rw[vt.aB,yN];rfl
  refine afM (Y':=rV ns (.tup [.int w,.int h,.int n,.int t]) g g m (some (.int j,.sh [])) (some (.int a,.own)) (some (.int b,.own)) (some (.int c,.own)) s9 fH fG jQ jW) (cV (ps:=[(dI ns,.sh []),(.int j,.sh [])]) rfl e3) rfl ?_;refine iy (cV (ps:=[(gD g,.sh [3]),(.int m,.sh [4]),(.int a,.sh [6]),(.int b,.sh [7]),(.int c,.sh [8])]) rfl er) (ly (rV ns (.tup [.int w,.int h,.int n,.int t]) g g m (some (.int j,.sh [])) (some (.int a,.own)) (some (.int b,.own)) (some (.int c,.own)) (some (rD r,.own)) fH fG jQ jW) ?_);have E2:∀fH fG,cQ GS (au (aj 9) (au (cQ wL (au (aj 8) (au (eC (.int 90001)) (au (eC (.int 2)) aD)))) aD)) (rV ns (.tup [.int w,.int h,.int n,.int t]) g g m (some (.int j,.sh [])) (some (.int a,.own)) (some (.int b,.own)) (some (.int c,.own)) (some (rD r,.own)) fH fG jQ jW)=some (hD (mx c 90001 2==1) r,.own):=λfH fG=>cV (aW (p:=(rD r,.sh [9])) rfl (aW (fM rfl (by decide) rfl (by decide)) (show aD _=some [] from rfl))) (hT _)
  generalize(mx c 90001 2==1)=u at E2;refine iy (E2 _ _) (ly (rV ns (.tup [.int w,.int h,.int n,.int t]) g g m (some (.int j,.sh [])) (some (.int a,.own)) (some (.int b,.own)) (some (.int c,.own)) (some (rD r,.own)) (some (hD u r,.own)) fG jQ jW) ?_);refine iy (E2 _ _) (ly (rV ns (.tup [.int w,.int h,.int n,.int t]) g g m (some (.int j,.sh [])) (some (.int a,.own)) (some (.int b,.own)) (some (.int c,.own)) (some (rD r,.own)) (some (hD u r,.own)) (some (hD u r,.own)) jQ jW) ?_);refine R0 (QD (ps:=[(rD r,.sh [9]),(.bl false,.own)]) rfl rfl rfl t1 iT) (R0 (QD (ps:=[(hD u r,.sh [10]),(.bl true,.own)]) rfl rfl rfl (t2 u) iT) ?_);refine ly (rV ns (.tup [.int w,.int h,.int n,.int t]) g3 g3 m (some (.int j,.sh [])) (some (.int a,.own)) (some (.int b,.own)) (some (.int c,.own)) (some (rD r,.own)) (some (hD u r,.own)) (some (hD u r,.own)) (some (.tup [v,.bX (bs.map D.bl)],.own)) (some (.tup [v,.bX (bs.map D.bl)],.own))) ?_;let#[sd,fs,ls]:=agg k3;refine v9 (b:=false) (vf (a:=false) (bJ (aF rfl rfl (KN (Wy vt)))) (vf (a:=false) (b:=false) (kN (b:=true) (bJ (cV (ps:=[(v,.own),(v,.own)]) ?_ (WM vt)))) (bJ (aF rfl rfl (KN (aip r sw)))))) (λq=>nomatch q) λ_=>?_
  .exact aW (aF rfl rfl (jB rfl vt.aB)) (aW (aF rfl rfl (jB rfl vt.aB)) (show aD _=some [] from rfl))
  refine v9 (b:=false) (bJ (aF (cV (ps:=[(gD g3,.sh [2])]) rfl fs) (cV (ps:=[(gD g3,.sh [3])]) rfl fs) (KN ls))) (λq=>nomatch q) λ_=>?_
  let#[b1,h1]:=ael r (Y:=rV ns (.tup [.int w,.int h,.int n,.int t]) g3 g3 m (some (.int j,.sh [])) (some (.int a,.own)) (some (.int b,.own)) (some (.int c,.own)) (some (rD r,.own)) (some (hD u r,.own)) (some (hD u r,.own)) (some (.tup [v,.bX (bs.map D.bl)],.own)) (some (.tup [v,.bX (bs.map D.bl)],.own))) rfl;have lb:cX (.bX (bs.map D.bl))=true:=(Fz (n:=0) λd m=>by let#[x,_,rfl]:=abG.mp m;apply Kh x).lay (by decide);refine vF (xS h1 (bJ (aF (aF rfl rfl (jB rfl (yN bs))) rfl (show w6 (.bX (bs.map D.bl)) (.lst [])=some (.bl _) by unfold w6;rw[lb];rfl)))) (λ_=>?_) λ_=>?_
  .exact#[_,by rw[kG,aF (d:=.int ((m:Int)+1)) rfl rfl rfl];rfl,.inl #[_,rfl,g3,m+1,_,_,_,_,_,_,_,_,_,rfl,k3,by lia,by lia]]
  .exact#[_,rfl,.inl #[_,rfl,g3,m,_,_,_,_,_,_,_,_,_,rfl,k3,by lia,by lia]]
 .subst e;apply#[_,rfl,_,rfl,rfl]
end K61
namespace HT
open PySem PySem.W PyProof.Rows
section
variable{K:Params->Frag}
end
end HT
namespace K61
open PySem L2 L2.Ev
local macro_rules | `(tactic| walk_at "ba")=>`(tactic| first | apply ba_n 1 rfl fun _ _ _ _ _ _ _=>rfl | apply ba_n 2 rfl fun _ _ _ _ _ _ _=>rfl | apply ba_n 3 rfl fun _ _ _ _ _ _ _=>rfl | apply ba_n 4 rfl fun _ _ _ _ _ _ _=>rfl | apply ba_n 5 rfl fun _ _ _ _ _ _ _=>rfl)
set_option maxHeartbeats 0 in
def all_mk{l:PySem.W.OpenLaw}{w:World}{K:Fr}{h:Heap}{mg:Str->Option Value}{fa:Addr}(X:K.In h)(G:h.Ns mainGlobals mg)(Lw:mg "law"=some (.ref fa))(q:sE L K=true)(t:tab.map (look K)=tab.map want):
  ∃fd:FuncData,(∀(s:Shared) (v:Value),BindsTo s fd #[[v],[]] [("_law_script",v)])/\∀base:Heap,K.In base->base.Ns mainGlobals mg->bQ l.prog w K mg base dQ 16 fa fd ["_law_script"] (a_ K xU):=by
 refine af4 (sp:=λ_=>a_ K xU) X G Lw (GI (s:=top 65) 36 t rfl) (λ_ _ _ _ _ _ _ _=>.of_eq rfl) λbase _ _ _ _ F=>?_
 have E:En L #[l.prog,w,K,mg,base]:=Xc X G q;have W0:=dX X G t 0 (JQ _ E);have W1:=dX X G t 1 (KS _ E);have W2:=dX X G t 2 (D7 _ #[E,W0,W1]);have W3:=dX X G t 3 (IW _ E);have W4:=dX X G t 4 (Jw _ #[E,W3]);have W37:=JN t q 37 (SD _ E);have W47:=JN t q 47 (Lp _ #[E,W4,W3,W37]);have W5:=dX X G t 5 (Ef _ #[E,W1,W0]);have W6:=dX X G t 6 (Jh _ #[E,W0]);have M3:=dg t 48 (G7 _ E);have W7:=dX X G t 7 (Ic _ #[E,W1]);have W8:=dX X G t 8 (Km _ #[E,W1]);have W9:=dX X G t 9 (Fo _ #[E,W1,M3,W7,W8]);have Zu:=dX X G t 10 (J7 _ E);have LN:=dX X G t 11 (FQ _ E);have E_:=dg t 38 (Kq _ E);have DT:=dg t 39 (Gs _ #[E,W3,E_]);have W_:=dX X G t 12 (Hu _ #[E,W3,LN]);have M5:=dg t 40 (Lq _ #[E,W3,LN,DT,W_]);have W41:=dg t 41 (Hr _ #[E,M5,E_]);have W49:=dg t 49 (Kc _ E);have Bs:=dg t 50 (J9 _ #[E,E_,W49]);have Gb:=dg t 42 (F3 _ #[E,DT]);have TM:=dg t 43 (K4 _ #[E,Gb]);have W51:=dg t 51 (Ft _ #[E,Bs,TM]);have D8:=dg t 79 (G9 _ E);have Ih:=dg t 52 (Jv _ #[E,D8]);have Jj:=dg t 53 (KU _ E);have BY:=dg t 54 (Jp _ #[E,Ih,Jj]);have J4:=dX X G t 13 (ED _ E);have VG:=dX X G t 14 (JJ _ E);have Wr:=dX X G t 15 (PK _ #[E,J4,VG]);have DM:=dg t 44 (GU _ #[E,Gb]);have QA:=dX X G t 16 (JM _ #[E,Wr,DM]);have W17:=dX X G t 17 (H_ _ #[E,QA]);have W45:=dg t 45 (KO _ #[E,Gb]);have V7:=dX X G t 18 (E6 _ #[E,W45]);have W19:=dX X G t 19 (GO _ #[E,J4,DM]);have XA:=dX X G t 20 (Gf _ #[E,V7,W19]);have R7:=dX X G t 21 (Fb _ #[E,TM]);have W22:=dX X G t 22 (E7 _ #[E,W17,XA,R7,DM]);have W55:=dg t 55 (KL _ #[E,BY,Jj,Ih]);have TU:=dg t 56 (FD _ #[E,QA]);have WH:=dX X G t 23 (EH _ #[E,J4]);have W57:=dg t 57 (Fx _ #[E,R7,Bs,TU,WH,DM]);have VN:=dg t 58 (K_ _ #[E,BY,W22,Bs,W55,W57]);have W59:=dg t 59 (JD _ #[E,Ih]);have W24:=dX X G t 24 (Hg _ E);have W25:=dX X G t 25 (Ii _ #[E,W24]);have W60:=dg t 60 (Lk _ #[E,W59,Jj,W25,BY]);have yM:=dg t 61 (EC _ #[E,W51,VN,W60]);have C6:=dg t 62 (JT _ #[E,W41,yM]);have B9:=dg t 63 (Lm _ #[E,DT,yM]);have W80:=dg t 80 (Ho _ #[E,D8]);have UE:=JN t q 81 (HF _ #[E,W4]);have W64:=dg t 64 (F0 _ E);have C7:=dg t 65 (ID _ #[E,W80,UE,W64,yM]);have BG:=dg t 66 (Lh _ #[E,yM]);have Df:=dg t 67 (Iw _ #[E,yM]);have W26:=dX X G t 26 (E1 _ #[E,C6,B9,C7,BG,Df]);have XJ:=Ad t 46 (Fc _ #[E,M5]);have Bw:=Ad t 68 (Ld _ #[E,XJ]);have BQ:=Ad t 69 (Ka _ #[E,DT]);have W82:=Ad t 82 (Hx _ #[E,D8]);have CS:=Ad t 70 (EY _ #[E,UE,W82]);have W27:=Bu X G t 27 (G8 _ #[E,Bw,BQ,CS]);have W28:=Bu X G t 28 (HP _ #[#[E,C6,B9,C7,BG,Df],#[E,Bw,BQ,CS]]);have W29:=dX X G t 29 (Fg _ #[E,C6,B9,C7,BG,Df]);have W30:=Bu X G t 30 (Ej _ #[E,Bw,BQ,CS]);have W31:=Bu X G t 31 (Jm _ #[#[E,C6,B9,C7,BG,Df],#[E,Bw,BQ,CS]]);have Wc:=dX X G t 32 (LB _ E);have W33:=dX X G t 33 (HR _ #[E,W28,W31,Wc]);have VJ:=dX X G t 34 (HG _ E);have W71:=dg t 71 (Lv _ E);have W72:=dg t 72 (Hh _ E);have U8:=dg t 73 (HX _ E);have Xr:=dg t 74 (K8 _ E);have W75:=dg t 75 (JB _ E);have W76:=dg t 76 (KZ _ E);have Z1:=dg t 77 (D9 _ E);have W78:=dg t 78 (Gy _ E);have W35:=dX X G t 35 (F_ _ #[E,W71,W72,U8,Xr,TU,W75,BY,M3,W76,Bs,Z1,W78]);apply o_law _ #[E,W2,W47,W5,W6,W9,Zu,W1,W33,VJ,W35] _ _ F
def wk:Wk:=λhY hT hL hq ht yl hdn=>
 L2.abp (n:=63) (k:=16) (x:="_law_script") (CX:=λ_=>dQ) (sp:=λw=>a_ (_:Fr) xU) rfl (by decide) yl #[λ_=>rfl,by decide,by decide,rfl] hY hT hL (λw mg fa h KX G zL=>all_mk KX G (hdn ▸ zL) (hq w) (ht w)) (λw H a ns hl hz=>by
  refine#[[dI ns],[]++[],.bl true,.cons (.xT hz (yV ns)) .nil,YA hl,λH' v gC _ r _ _=>?_];ext r;rfl) λ_ _ _ _ _ z=>z
open PySem PySem.W PyProof.Rows L2 L2.Ev
end K61
theorem PySem.Challenge.cw_linegate_k61_deeds_by_rows_holds : PySem.Challenge.rw_linegate_k61_deeds_by_rows.Holds := by
 apply K61.early K61.wk
